/-
  The library's sort, Grow, Concat and Equal over messages, for package buff; Same.
  A buffer that is still made: a message put at its end; each of a list.
  With and Of: the buffer into which messages are put.
-/
import Derived.Test.YtoobelcphcndoaaGreatBfA
import Derived.Test.YtoobelcphcndoaaGreatLfStable
import Derived.Lib.AppendZeros
import Derived.Laws.AppendOwnNone
import Derived.Test.YtoobelcphcndoaaGreatMsgA
import Derived.Test.YtoobelcphcndoaaGreatDraw
import Derived.Deep.RegionLaw
namespace Go.Proofs.YtoobelcphcndoaaGreat
open Go.Shelf Go.RowKit Go.Lib Go.Sort
set_option linter.unusedVariables false
set_option linter.unusedSimpArgs false
set_option maxRecDepth 20000

theorem swoM {α : Type} (key : α → List UInt8) : SWO (ltOf fun x y : α => cmpL (key x) (key y)) where
  irrefl x := by unfold ltOf; rw [decide_eq_false_iff_not, cmpB_neg]; exact lt_irrefl'
  trans x y z h1 h2 := by
    unfold ltOf at *
    rw [decide_eq_true_eq, cmpB_neg] at *
    exact lt_trans' h1 h2
  ntrans x y z h1 h2 := by
    unfold ltOf at *
    rw [decide_eq_false_iff_not, cmpB_neg] at *
    grind
theorem enterB : ∀ args w, (callFunc 122 args).run Tryz.prog w = .ok (.enter 122 args) w := enters_of Tryz.func122 (by kernel_rfl) rfl
set_option maxHeartbeats 1000000 in
theorem stableB_none (fv : Value) (w : World) : Calls Tryz.prog 163 #[.slice none 0 0, .int .i64 0, fv] w fun e w' => e = .returned (.tuple #[]) ∧ w = w' := by
  have h := AnyF.insertionSortCmpFunc_none (P := Tryz.prog) (ρ := Tryz.insMg_ren) Tryz.insMg none 0 fv w
  have hc : Calls Tryz.prog 182 #[.slice none 0 0, .int .i64 0, .int .i64 0, fv] w fun e w' => e = .returned (.tuple #[]) ∧ w' = w := h
  clear h
  go_enter Tryz.func163, Tryz.ntmps163
  go_wp2
  refine wp_loop_rounds 1 ?_
  rw [rounds_succ]
  go_wp2_with (go_at_call 182; refine hc.mono ?_; rintro e w' ⟨rfl, rfl⟩)
  refine wp_loop_rounds 1 ?_
  rw [rounds_succ]
  go_wp2
  go_end0
  exact ⟨rfl, rfl⟩
theorem sortBI_any [Inhabited Mg] (ms : List Mg) (hl : ms.length ≤ 1000000) (v : Value) (base : Nat) (w : World) (hown : w.ownsRow base 73 3 v ms.length (msgs ms)) :
    Calls Tryz.prog 163 #[v, .int .i64 ms.length, .func (.func 122) #[] #[]] w fun e w' => e = .returned (.tuple #[]) ∧ ∃ ys : List Mg, Alike Mg.key ys ms ∧ Up Mg.key ys ∧ ys.length = ms.length ∧ w'.ownsRow base 73 3 v ms.length (msgs ys) ∧ Step (fun k => v.ownBlock = some k) w w' := by
  rcases hown.2 with ⟨rfl, h0⟩ | ⟨g, cap, cur, rfl, hb, hg, hnc, hcm, hcs, ht⟩
  · have hx : ms = [] := List.eq_nil_of_length_eq_zero h0
    subst hx
    refine (stableB_none (.func (.func 122) #[] #[]) w).mono ?_
    rintro e w' ⟨rfl, rfl⟩
    exact ⟨rfl, [], Alike.refl _, up_nil, rfl, hown, Step.refl _ _⟩
  · have hH := holdsK_block encM 3 (fun _ => rfl) (by omega) hg (by rw [ht]; rfl)
    have C : SortCtx Mg.key 3 encM (fun x y : Mg => cmpL x.key y.key) 122 #[] g 0 ms.toArray w :=
      ⟨by exact Tryz.sizeOf73, ⟨fun _ => rfl, fun x v hv => by simp [encM] at hv; rcases hv with rfl | rfl | rfl <;> rfl, hH, lt_of_block hg⟩, fun _ _ _ _ x y => cmpB_any x y _, enterB, fun x y => cmpB_neg _ _, by simp; omega⟩
    refine (stable_any C (swoM Mg.key) cap).mono ?_
    rintro e w' ⟨rfl, d', hsz, S, hup, hal⟩
    have hsz' : d'.size = ms.length := by rw [hsz]; rfl
    obtain ⟨cur', c1, c2, c3⟩ := swk_block encM 3 (fun _ => rfl) (by omega) hg (by rw [hsz', hcs]; exact Nat.mul_le_mul_right _ hnc) S
    refine ⟨rfl, d'.toList, hal, hup, by simpa using hsz', owns_of_block hb c1 hnc hcm (by rw [c2, hcs]) (by rw [← hsz', c3]; rfl) (by rw [msgs_length]; simp [hsz']), (swk_step encM 3 S).mono (fun i hi => .inl (by unfold oneF at hi; rw [hi]; rfl))⟩
set_option maxHeartbeats 1000000 in
/-- slices.SortStableFunc over messages. -/
theorem sortB_any (ms : List Mg) (hl : ms.length ≤ 1000000) (v : Value) (base : Nat) (w : World) (hown : w.ownsRow base 73 3 v ms.length (msgs ms)) :
    Calls Tryz.prog 121 #[v, .func (.func 122) #[] #[]] w fun e w' => e = .returned (.tuple #[]) ∧ ∃ ys : List Mg, Alike Mg.key ys ms ∧ Up Mg.key ys ∧ ys.length = ms.length ∧ w'.ownsRow base 73 3 v ms.length (msgs ys) ∧ Step (fun k => v.ownBlock = some k) w w' := by
  have : Inhabited Mg := ⟨⟨0, [], []⟩⟩
  have hc := sortBI_any ms hl v base w hown
  obtain ⟨a, c, rfl⟩ := owns_form hown
  clear hown
  go_enter Tryz.func121, Tryz.ntmps121
  go_wp2_with (go_at_call 163; refine hc.mono ?_; rintro e w' ⟨rfl, hh⟩)
  have HH := hid hh
  clear hh
  go_end0
  exact ⟨rfl, HH.out⟩

end Go.Proofs.YtoobelcphcndoaaGreat
namespace Go.Proofs.YtoobelcphcndoaaGreat
open Go.RowKit Go.Sort
set_option linter.unusedVariables false
set_option linter.unusedSimpArgs false
set_option maxRecDepth 20000

/-- append of a row of items, nil or not, onto a row of one's own. -/
theorem wpList_append_mB {w : World} {ops : Array Oper} {rest : List Oper} {o : Oper} {a : Act} {Q : Exit → Act → World → Prop} (hgd : o.guard = none) (s x : Operand)
    (ho : o.op = .call { callee := .builtin .append, args := #[s, x], argTypes := #[25, 25] })
    (base : Nat) (v : Value) (xs : List Mg) (hs : a.eval s = v) (hown : w.ownsRow base 73 3 v xs.length (msgs xs))
    (ad : Option Addr) (c : Nat) (ys : List Mg) (hx : a.eval x = .slice ad ys.length c) (hr : MsgsAt w noF ad ys) (hc : ad = none → c = 0)
    (hl : xs.length + ys.length ≤ 1000000000) (hbase : base ≤ w.heap.size)
    (h : ∀ v' w', w'.ownsRow base 73 3 v' (xs ++ ys).length (msgs (xs ++ ys)) → w.grownBy w' v.ownBlock → wpList Tryz.prog ops Q rest (a.put o.dst v') w') : wpList Tryz.prog ops Q (o :: rest) a w := by
  obtain ⟨i0, hi, hz0, hz1, hz2⟩ := info_ms
  cases ad with
  | none =>
    obtain rfl : ys = [] := by
      rcases hr with h | ⟨b, off, h, _⟩
      · exact h
      · cases h
    obtain rfl := hc rfl
    refine wpList_append_own_none hgd s x _ ho base 73 i0 3 Tryz.underlying25 hi v _ _ hs hown hx ?_
    have := h v w (by rw [List.append_nil]; exact hown) ⟨rfl, rfl, rfl, Nat.le_refl _, fun _ _ _ => rfl⟩
    exact this
  | some ad =>
    have hn : ∀ j u, (msgs ys)[j]? = some u → w.cell? (Addr.add ad j) = some u := fun j u hj => by
      rcases hr with rfl | ⟨b, off, h1, h2⟩
      · simp [msgs] at hj
      · obtain rfl : ad = ⟨b, off, none⟩ := Option.some.inj h1
        exact msgsAt_cells h2.2.2 j u hj
    refine wpList_append_own w hgd s x _ ho base 73 i0 _ 3 40 Tryz.underlying25 hi hz0 hz1 hz2 rfl (by decide) v _ _ hs hown ad ys.length c (msgs ys) hx (msgs_length ys) hn (msgs_one ys) (le_max (by omega)) (by omega) hbase ?_
    intro v' w' h1 h2 h3
    refine h v' w' ?_ h2
    rw [List.length_append, show msgs (xs ++ ys) = msgs xs ++ msgs ys by simp [msgs]]
    exact h1

set_option maxHeartbeats 1000000 in
theorem growM_any (n : Nat) (hn : n ≤ 1000000) (w : World) :
    Calls Tryz.prog 162 #[.slice none 0 0, .int .i64 n] w fun e w' => ∃ v, e = .returned v ∧ w'.ownsRow w.heap.size 73 3 v 0 [] ∧ Step noF w w' := by
  obtain ⟨i0, hi, hz0, hz1, hz2⟩ := info_ms
  by_cases h0 : n = 0
  · subst h0
    go_enter Tryz.func162, Tryz.ntmps162
    go_wp2
    go_ret
    exact ⟨_, rfl, World.ownsRow_nil w _ _ _, Step.refl _ _⟩
  · have hpos : 0 < n := by omega
    have happ := Lib.run_append_nil_zeros (P := Tryz.prog) w 25 3 25 73 i0 (.agg #[.int .i64 0, .string (str []), .string (str [])]) .i64 .i64 Tryz.underlying25 Tryz.underlying3 hi hz0 n hpos (by omega) (by omega) (by rw [hz2]; omega)
    have hcg := grownCap_ge w n 0 73
    have hcm := grownCap_le_maxLen w n 0 73 (by unfold maxLen; omega)
    generalize grownCap w n 0 73 = cap at happ hcg hcm
    have hzs : (Builtin.zeroCells (Value.agg #[.int .i64 0, .string (str []), .string (str [])]).cells n ++ Builtin.zeroCells (Value.agg #[.int .i64 0, .string (str []), .string (str [])]).cells (cap - n)).size = cap * 3 := by
      rw [Array.size_append, size_zeroCells, size_zeroCells]
      simp [Value.cells]
      omega
    generalize Builtin.zeroCells (Value.agg #[.int .i64 0, .string (str []), .string (str [])]).cells n ++ Builtin.zeroCells (Value.agg #[.int .i64 0, .string (str []), .string (str [])]).cells (cap - n) = Z at happ hzs
    have HZ := hid hzs
    have HC := hid hcm
    have hz1' : (0 : Int) < (n : Int) := by omega
    clear hzs hcm hpos h0
    go_enter Tryz.func162, Tryz.ntmps162
    go_wp2_with (at_builtin; refine Lib.wpList_append_run _ rfl _ _ _ _ rfl _ _ rfl rfl _ _ happ ?_)
    go_wp2
    go_ret
    exact ⟨_, rfl, ⟨rfl, .inr ⟨w.heap.size, cap, Z, rfl, Nat.le_refl _, block_alloc_new _ _, Nat.zero_le _, HC.out, HZ.out, by simp⟩⟩, ((Step.refl noF w).drew).alloc _⟩

theorem grownB_step {w w' : World} {base : Nat} {e : TypeId} {size : Nat} {v : Value} {n : Nat} {xs : List Value} {w0 : World} (hs : Step noF w0 w) (hown : w.ownsRow base e size v n xs) (hb : w0.heap.size ≤ base) (hg : w.grownBy w' v.ownBlock) : Step noF w0 w' :=
  hs.grown hg (fun k hk => .inr (Nat.le_trans hb (hown.lt k hk).1))

set_option maxHeartbeats 2000000 in
/-- slices.Concat of two. -/
theorem concatM_any (g : Nat) (xs ys : List Mg) (hl : xs.length + ys.length ≤ 1000000) (a1 a2 : Option Addr) (c1 c2 cg : Nat) (w : World) (hg0 : w.cell? ⟨g, 0, none⟩ = some (.slice a1 xs.length c1)) (hg1 : w.cell? ⟨g, 1, none⟩ = some (.slice a2 ys.length c2))
    (h1 : MsgsAt w noF a1 xs) (h2 : MsgsAt w noF a2 ys) (hc1 : a1 = none → c1 = 0) (hc2 : a2 = none → c2 = 0) :
    Calls Tryz.prog 120 #[.slice (some ⟨g, 0, none⟩) 2 cg] w fun e w' => ∃ v, e = .returned v ∧ w'.ownsRow w.heap.size 73 3 v (xs ++ ys).length (msgs (xs ++ ys)) ∧ Step noF w w' := by
  have H1 := hid h1
  have H2 := hid h2
  have HC1 := hid hc1
  have HC2 := hid hc2
  have q1 : (0 : Int) ≤ (xs.length : Int) := by omega
  have q2 : (0 : Int) ≤ (xs.length : Int) + (ys.length : Int) := by omega
  have q3 : ¬ (xs.length : Int) < 0 := by omega
  have q4 : ¬ (xs.length : Int) + (ys.length : Int) < 0 := by omega
  obtain ⟨n, hn⟩ : ∃ n, xs.length + ys.length = n := ⟨_, rfl⟩
  have en : (xs.length : Int) + (ys.length : Int) = (n : Int) := by omega
  have hnn : n ≤ 1000000 := by omega
  have rn : IntKind.i64.wrap (n : Int) = (n : Int) := by rw [IntKind.wrap_i64]; omega
  have hgl : g < w.heap.size := World.block_lt_of_cell? w _ hg0
  have HN := hid hn
  clear h1 h2 hc1 hc2 hn
  go_enter Tryz.func120, Tryz.ntmps120
  go_wp2
  refine wp_loop_rounds 3 ?_
  rw [rounds_succ]
  go_wp2
  rw [rounds_succ]
  go_wp2
  rw [rounds_succ]
  go_wp2_with (go_at_call 162; refine (growM_any n hnn _).mono ?_; rintro e w2 ⟨v, rfl, o2, s2⟩)
  have O2 := hid o2
  have S2 := hid s2
  have HG1 := hid hg1
  have k0 := s2.after hg0
  clear o2 s2 hg0 hg1
  refine wp_loop_rounds 3 ?_
  rw [rounds_succ]
  go_wp2_with (at_builtin; refine wpList_append_mB rfl _ _ rfl w.heap.size _ [] rfl O2.out a1 c1 xs rfl (H1.out.stepB S2.out) HC1.out (by simp; omega) S2.out.size ?_)
  intro v3 w3 o3 g3
  have O3 := hid o3
  have S3 := hid (grownB_step S2.out O2.out (Nat.le_refl _) g3)
  have k1 := S3.out.after HG1.out
  clear o3 g3 k0
  go_wp2
  rw [rounds_succ]
  go_wp2_with (at_builtin; refine wpList_append_mB rfl _ _ rfl w.heap.size _ xs rfl O3.out a2 c2 ys rfl (H2.out.stepB S3.out) HC2.out (by omega) S3.out.size ?_)
  intro v4 w4 o4 g4
  have O4 := hid o4
  have S4 := hid (grownB_step S3.out O3.out (Nat.le_refl _) g4)
  clear o4 g4 k1
  go_wp2
  rw [rounds_succ]
  go_wp2
  go_ret
  exact ⟨_, rfl, by rw [List.length_append]; exact O4.out, S4.out⟩


/-- Whether two rows of messages are the same. -/
def sameM (xs ys : List Mg) : Bool := decide (xs.map (fun x => (x.kind, x.key, x.val)) = ys.map (fun x => (x.kind, x.key, x.val)))
theorem Mg.extB {a b : Mg} (h1 : a.kind = b.kind) (h2 : a.key = b.key) (h3 : a.val = b.val) : a = b := by
  cases a; cases b; simp_all
theorem sameM_iff (xs ys : List Mg) : sameM xs ys = true ↔ xs = ys := by
  unfold sameM
  rw [decide_eq_true_eq]
  constructor
  · intro h
    refine List.map_inj_right (fun a b hab => ?_) |>.1 h
    injection hab with h1 h2
    injection h2 with h2 h3
    exact Mg.extB h1 h2 h3
  · intro h
    rw [h]
theorem sameM_not {xs ys : List Mg} (h : xs ≠ ys) : sameM xs ys = false := by
  cases e : sameM xs ys
  · rfl
  · exact absurd ((sameM_iff _ _).1 e) h
set_option maxHeartbeats 1000000 in
/-- slices.Equal. -/
theorem equalM_any (xs ys : List Mg) (hl : xs.length ≤ 1000000 ∧ ys.length ≤ 1000000) (a1 a2 : Option Addr) (c1 c2 : Nat) (w : World) (h1 : MsgsAt w noF a1 xs) (h2 : MsgsAt w noF a2 ys) :
    Calls Tryz.prog 129 #[.slice a1 xs.length c1, .slice a2 ys.length c2] w fun e w' => e = .returned (.bool (sameM xs ys)) ∧ Step noF w w' := by
  have hE := same_str
  have H1 := hid h1
  have H2 := hid h2
  obtain ⟨hl1, hl2⟩ := hl
  clear h1 h2
  obtain ⟨D, hD⟩ : ∃ D, sameM xs ys = D := ⟨_, rfl⟩
  rw [hD]
  have HD := hid hD
  clear hD
  by_cases hlen : xs.length = ys.length
  · have HL := hid hlen
    rw [← hlen]
    clear hlen
    go_enter Tryz.func129, Tryz.ntmps129
    go_wp2_with fail
    go_loopw [13] (fun i wr => ∃ (j : Nat), j ≤ xs.length ∧ i = .int .i64 j ∧ Hid (xs.take j = ys.take j) ∧ Step noF w wr) (fun i _ => xs.length - (intOf i).toNat)
    case atStart => exact ⟨0, Nat.zero_le _, rfl, (by show _ = _; rfl), Step.refl _ _⟩
    case round =>
      obtain ⟨j, hj, rfl, HT, st⟩ := hrel
      have ST := hid st
      clear st
      by_cases hjl : j < xs.length
      · have hjy : j < ys.length := by have := HL.out; omega
        obtain ⟨g, off, rfl, p0, p1, p2⟩ := (H1.out.stepB ST.out).at j hjl
        obtain ⟨g2, off2, rfl, r0, r1, r2⟩ := (H2.out.stepB ST.out).at j hjy
        have HN : Hid (xs.take (j + 1) = ys.take (j + 1) ↔ xs[j] = ys[j]) := by
          show _ ↔ _
          rw [List.take_succ_eq_append_getElem hjl, List.take_succ_eq_append_getElem hjy, HT.out, List.append_cancel_left_eq, List.cons.injEq]
          simp only [and_true]
        have HNE : Hid (xs[j] ≠ ys[j] → xs ≠ ys) := fun h e => h (by simp [e])
        obtain ⟨⟨x0, x1, x2⟩, hx⟩ : ∃ m, xs[j] = m := ⟨_, rfl⟩
        obtain ⟨⟨y0, y1, y2⟩, hy⟩ : ∃ m, ys[j] = m := ⟨_, rfl⟩
        rw [hx] at p0 p1 p2 HN HNE
        rw [hy] at r0 r1 r2 HN HNE
        clear hx hy
        by_cases e0 : x0 = y0
        · by_cases e1 : x1 = y1
          · by_cases e2 : x2 = y2
            · subst e0
              subst e1
              subst e2
              go_wp2_with fail
              go_quiet (fail)
              go_wp2_with fail
              go_roundw
              case rel => exact ⟨j + 1, by omega, int_eq (by omega), (by show _ = _; first | exact HN.out.2 rfl | exact HN.out.2 trivial), ST.out.drewN _⟩
              case measure => simp [intOf]; omega
            · subst e0
              subst e1
              go_wp2_with fail
              go_quiet (fail)
              go_wp2_with fail
              go_ret
              exact ⟨ret_bool (by rw [← HD.out, sameM_not (HNE.out (fun e => e2 (by injection e)))]), ST.out.drewN _⟩
          · subst e0
            go_wp2_with fail
            go_quiet (fail)
            go_wp2_with fail
            go_ret
            exact ⟨ret_bool (by rw [← HD.out, sameM_not (HNE.out (fun e => e1 (by injection e)))]), ST.out.drewN _⟩
        · have eb0 : (x0 == y0) = false := by rw [beq_eq_false_iff_ne]; exact e0
          go_wp2_with fail
          go_quiet (fail)
          go_wp2_with fail
          go_ret
          exact ⟨ret_bool (by rw [← HD.out, sameM_not (HNE.out (fun e => e0 (by injection e)))]), ST.out.drewN _⟩
      · obtain rfl : j = xs.length := by omega
        go_wp2_with fail
        go_ret
        refine ⟨ret_bool ?_, ST.out⟩
        have := HT.out
        rw [List.take_of_length_le (Nat.le_refl _), HL.out, List.take_of_length_le (Nat.le_refl _)] at this
        rw [← HD.out, (sameM_iff _ _).2 this]
  · have hz : ¬ (xs.length : Int) = (ys.length : Int) := by omega
    have hz2 : ((xs.length : Int) == (ys.length : Int)) = false := by rw [beq_eq_false_iff_ne]; exact hz
    have HNE : Hid (D = false) := by show _ = _; rw [← HD.out]; exact sameM_not (fun e => hlen (by rw [e]))
    go_enter Tryz.func129, Tryz.ntmps129
    go_wp2_with fail
    go_ret
    exact ⟨ret_bool (by rw [HNE.out]), Step.refl _ _⟩

set_option maxHeartbeats 1000000 in
theorem sameBf_any (p q : Nat) (xs ys : List Mg) (hl : xs.length ≤ 1000000 ∧ ys.length ≤ 1000000) (w : World) (h1 : BuffAt w p xs) (h2 : BuffAt w q ys) :
    Calls Tryz.prog 85 #[.pointer (some ⟨p, 0, none⟩), .pointer (some ⟨q, 0, none⟩)] w fun e w' => e = .returned (.bool (sameM xs ys)) ∧ Step noF w w' := by
  obtain ⟨a1, c1, k1, _, _, r1⟩ := h1.cell
  obtain ⟨a2, c2, k2, _, _, r2⟩ := h2.cell
  have hc := fun n => equalM_any xs ys hl a1 a2 c1 c2 (w.drewN n) r1 r2
  have k1' : ∀ n, (w.drewN n).cell? ⟨p, 0, none⟩ = some (.slice a1 xs.length c1) := fun _ => k1
  have k2' : ∀ n, (w.drewN n).cell? ⟨q, 0, none⟩ = some (.slice a2 ys.length c2) := fun _ => k2
  obtain ⟨D, hD⟩ : ∃ D, sameM xs ys = D := ⟨_, rfl⟩
  rw [hD] at hc ⊢
  clear h1 h2 r1 r2 hD
  go_enter Tryz.func85, Tryz.ntmps85
  go_wp2_with fail
  go_region_with (go_at_call 129; refine (hc _).mono ?_; rintro e w2 ⟨rfl, s2⟩)
  all_goals go_wp2_with fail
  all_goals go_ret
  all_goals exact ⟨rfl, ((Step.refl noF w).drewN 1).trans s2⟩
theorem sameBf_nil (w : World) : Calls Tryz.prog 85 #[.pointer none, .pointer none] w fun e w' => e = .returned (.bool true) ∧ w = w' := by
  go_enter Tryz.func85, Tryz.ntmps85
  go_wp2
  go_ret
  exact ⟨rfl, rfl⟩
theorem sameBf_none (p : Nat) (w : World) : Calls Tryz.prog 85 #[.pointer (some ⟨p, 0, none⟩), .pointer none] w fun e w' => e = .returned (.bool false) ∧ w = w' := by
  go_enter Tryz.func85, Tryz.ntmps85
  go_wp2
  go_ret
  exact ⟨rfl, rfl⟩
end Go.Proofs.YtoobelcphcndoaaGreat
namespace Go.Proofs.YtoobelcphcndoaaGreat
open Go.RowKit Go.Sort
set_option linter.unusedVariables false
set_option linter.unusedSimpArgs false
set_option maxRecDepth 20000

/-- append of a row of messages onto a row of one's own, as one step of a region that draws. -/
theorem step_append_mB {ops : Array Oper} {o : Oper} {a : Act} {w : World} {K : Act → World → Prop} {Q : Exit → Act → World → Prop} {E : Prop}
    (hg : o.guard = none) (s x : Operand) (hop : o.op = Op.call { callee := Callee.builtin Builtin.append, args := #[s, x], argTypes := #[25, 25] })
    (base : Nat) (v : Value) (xs : List Mg) (hs : a.eval s = v) (hown : w.ownsRow base 73 3 v xs.length (msgs xs)) (ad : Addr) (c : Nat) (ys : List Mg) (hx : a.eval x = .slice (some ad) ys.length c) (hr : MsgsAt w noF (some ad) ys) (hl : xs.length + ys.length ≤ 1000000000) (hbase : base ≤ w.heap.size)
    (hK : ∀ v' w', w'.ownsRow base 73 3 v' (xs ++ ys).length (msgs (xs ++ ys)) → w.grownBy w' v.ownBlock → Fresh w v v' → K (a.put o.dst v') w') :
    if Region.wanted o (yielded ops a.tmps) = true then Oper.wp Tryz.prog o a w K Q else E := by
  obtain ⟨i0, hi, hz0, hz1, hz2⟩ := info_ms
  have hn : ∀ j u, (msgs ys)[j]? = some u → w.cell? (Addr.add ad j) = some u := fun j u hj => by
    rcases hr with rfl | ⟨b, off, h1, h2⟩
    · simp [msgs] at hj
    · obtain rfl : ad = ⟨b, off, none⟩ := Option.some.inj h1
      exact msgsAt_cells h2.2.2 j u hj
  refine step_append_own hg s x 25 hop 73 i0 _ 3 40 Tryz.underlying25 hi hz0 hz1 hz2 rfl (by decide) v _ _ hs (owns_base hown (Nat.zero_le _)) ad ys.length c (msgs ys) hx (msgs_length ys) hn (msgs_one ys) (le_max (by omega)) (by omega) ?_
  intro v' w' h2 h3 h4
  refine hK v' w' ?_ h3 h4
  have h5 : w'.ownsRow 0 73 3 v' (xs ++ ys).length (msgs (xs ++ ys)) := by
    rw [List.length_append, show msgs (xs ++ ys) = msgs xs ++ msgs ys by simp [msgs]]
    exact h2
  refine ⟨h5.1, ?_⟩
  rcases h5.2 with h | ⟨g, cap, cur, hv, _, hh, rest⟩
  · exact .inl h
  · refine .inr ⟨g, cap, cur, hv, ?_, hh, rest⟩
    rcases h4 with e | e
    · exact (hown.lt g (by rw [← e, hv]; rfl)).1
    · exact Nat.le_trans hbase (e g (by rw [hv]; rfl))

theorem msgs_set (D : List Mg) (j : Nat) (hj : j < D.length) (m : Mg) : (((msgs D).set (j * 3) (.int .i64 m.kind)).set (j * 3 + 1) (.string (str m.key))).set (j * 3 + 2) (.string (str m.val)) = msgs (D.set j m) := by
  induction D generalizing j with
  | nil => simp at hj
  | cons x xs ih =>
    cases j with
    | zero => simp [msgs, encM]
    | succ j =>
      have := ih j (by simpa using hj)
      simp only [msgs, encM, List.flatMap_cons, List.set_cons_succ, List.cons_append, List.nil_append] at this ⊢
      rw [show (j + 1) * 3 = j * 3 + 1 + 1 + 1 by omega]
      simpa using this
theorem owns_put3 {w : World} {base : Nat} {e : TypeId} {n g c : Nat} {D : List Mg} (h : w.ownsRow base e 3 (.slice (some ⟨g, 0, none⟩) n c) n (msgs D)) (j : Nat) (hj : j < D.length) (m : Mg) :
    (((w.setCell ⟨g, j * 3, none⟩ (.int .i64 m.kind)).setCell ⟨g, j * 3 + 1, none⟩ (.string (str m.key))).setCell ⟨g, j * 3 + 2, none⟩ (.string (str m.val))).ownsRow base e 3 (.slice (some ⟨g, 0, none⟩) n c) n (msgs (D.set j m)) := by
  have hl := msgs_length D
  have := owns_put (owns_put (owns_put h (j * 3) (by omega) (.int .i64 m.kind)) (j * 3 + 1) (by simp; omega) (.string (str m.key))) (j * 3 + 2) (by simp; omega) (.string (str m.val))
  rw [msgs_set D j hj m] at this
  exact this

/-- The draft in block b; its row and b lie behind base. -/
def DraftM (w : World) (base b : Nat) (D : List Mg) : Prop := ∃ a c, w.heap[b]? = some (.cells #[.slice a D.length c] 175 (0, 0)) ∧ w.ownsRow base 73 3 (.slice a D.length c) D.length (msgs D) ∧ base ≤ b ∧ (Value.slice a D.length c).ownBlock ≠ some b
theorem DraftM.stepNo {w w' : World} {base b : Nat} {D : List Mg} (h : DraftM w base b D) (hs : Step noF w w') : DraftM w' base b D := by
  obtain ⟨a, c, h1, h2, h3, h4⟩ := h
  exact ⟨a, c, (hs.block b (lt_of_block h1) (fun x => x)).trans h1, owns_step h2 hs (fun _ _ x => x), h3, h4⟩
theorem one_cell {w : World} {b : Nat} {x : Value} {t : TypeId} (h : w.heap[b]? = some (.cells #[x] t (0, 0))) : w.cell? ⟨b, 0, none⟩ = some x ∧ w.frozen? ⟨b, 0, none⟩ = false := ⟨by rw [cell_of_block h]; rfl, frozen_of_block h 0⟩
theorem msB_new (w : World) (k : Int) (x y : List UInt8) : MsgsAt (w.alloc (.cells #[.int .i64 k, .string (str x), .string (str y)] 73)) noF (some ⟨w.heap.size, 0, none⟩) [⟨k, x, y⟩] := by
  have hb := block_alloc_new w (.cells #[.int .i64 k, .string (str x), .string (str y)] 73)
  refine .inr ⟨w.heap.size, 0, rfl, fun h => h, lt_of_block hb, fun j hj => ?_⟩
  obtain rfl : j = 0 := by simp at hj; omega
  exact ⟨by rw [cell_of_block hb]; rfl, by rw [cell_of_block hb]; rfl, by rw [cell_of_block hb]; rfl⟩
/-- The draft behind an append to it. -/
theorem draftM_app {w w' : World} {base b : Nat} {D : List Mg} {a : Option Addr} {c : Nat} (hb : w.heap[b]? = some (.cells #[.slice a D.length c] 175 (0, 0))) (ho : w.ownsRow base 73 3 (.slice a D.length c) D.length (msgs D)) (hn : (Value.slice a D.length c).ownBlock ≠ some b) (hg : w.grownBy w' (Value.slice a D.length c).ownBlock) :
    w'.heap[b]? = some (.cells #[.slice a D.length c] 175 (0, 0)) ∧ Step (fun k => base ≤ k) w w' := by
  refine ⟨(hg.block b (lt_of_block hb) (fun e => hn e.symm)).trans hb, ⟨hg.os, hg.tape, hg.output, hg.size, fun k hk hne => hg.block k hk (fun e => ?_)⟩⟩
  exact hne (ho.lt k e.symm).1
theorem draftM_put {w w0 : World} {base b : Nat} {D : List Mg} {x v v0 : Value} (hb : w.heap[b]? = some (.cells #[x] 175 (0, 0))) (ho : w.ownsRow base 73 3 v D.length (msgs D)) (h1 : base ≤ b) (hf : Fresh w0 v0 v) (hn : v0.ownBlock ≠ some b) (hlt : b < w0.heap.size) : DraftM (w.setCell ⟨b, 0, none⟩ v) base b D := by
  obtain ⟨a, c, rfl⟩ := owns_form ho
  have hne : (Value.slice a D.length c).ownBlock ≠ some b := fun e => by
    rcases hf with h | h
    · exact hn (by rw [← h]; exact e)
    · have := h b e; omega
  have h2 := block_setCell hb 0 (.slice a D.length c)
  exact ⟨a, c, h2, owns_setCell ho _ hne _, h1, hne⟩

set_option maxHeartbeats 4000000 in
/-- put: a message that comes in the order of the keys. -/
theorem put_any (base b : Nat) (D : List Mg) (hl : D.length ≤ 1000000) (hD : GoodM D) (m : Mg) (hm : m.is = true) (w : World) (h : DraftM w base b D) :
    Calls Tryz.prog 124 #[.pointer (some ⟨b, 0, none⟩), .agg #[.int .i64 m.kind, .string (str m.key), .string (str m.val)]] w fun e w' => e = .returned (.tuple #[]) ∧ DraftM w' base b (endM D m) ∧ Step (fun k => base ≤ k) w w' := by
  have hE := same_str
  have hs0 : Step noF w (w.alloc (.cells #[.int .i64 m.kind, .string (str m.key), .string (str m.val)] 73)) := (Step.refl noF w).alloc _
  obtain ⟨a, c, hb, ho, hbb, hn⟩ := h.stepNo hs0
  have T0 := trip_new w 73 m
  obtain ⟨q0, q1, q2, _, _, _⟩ := T0.all
  obtain ⟨k0, z0⟩ := one_cell hb
  have HT := hid T0
  have HB := hid hb
  have HO := hid ho
  have HBB := hid hbb
  have HN := hid hn
  have S0 := hid hs0
  have HM := hid hm
  have HDD := hid hD
  have hblt : Hid (b < w.heap.size) := by obtain ⟨a', c', hb', _⟩ := h; exact lt_of_block hb'
  have hL0 : Hid (D.length + [m].length ≤ 1000000000) := by show _ ≤ _; simp; omega
  have hszb : Hid (base ≤ w.heap.size + 1) := by have := hblt.out; have := HBB.out; show _ ≤ _; omega
  clear h hb ho hbb hn T0 hs0 hm hD
  by_cases hD0 : D = []
  · subst hD0
    have eE : endM [] m = [m] := rfl
    rw [eE]
    obtain ⟨mk, my, mv⟩ := m
    simp only at q0 q1 q2 HT HB HO HN S0 HM hL0 k0 z0 ⊢
    rw [List.length_nil] at k0 HB HO HN hL0
    go_enter Tryz.func124, Tryz.ntmps124
    go_wp2_with fail
    go_quiet (fail)
    go_wp2_with fail
    have st0 : Step noF (w.alloc (.cells #[.int .i64 mk, .string (str my), .string (str mv)] 73)) ((w.alloc (.cells #[.int .i64 mk, .string (str my), .string (str mv)] 73)).drewN nq) := (Step.refl noF _).drewN _
    have k0' := st0.after k0
    have q0' := st0.after q0
    have q1' := st0.after q1
    have q2' := st0.after q2
    have HB' := hid ((st0.block b (lt_of_block HB.out) (fun x => x)).trans HB.out)
    have HO' := hid (owns_step HO.out st0 (fun _ _ x => x))
    have S0' := hid (S0.out.trans st0)
    have hWs : Hid (((w.alloc (.cells #[.int .i64 mk, .string (str my), .string (str mv)] 73)).drewN nq).heap.size = w.heap.size + 1) := World.size_alloc _ _
    clear st0 k0 q0 q1 q2 HB HO S0 z0 HT
    generalize (w.alloc (.cells #[.int .i64 mk, .string (str my), .string (str mv)] 73)).drewN nq = W at *
    have z0 : W.frozen? ⟨b, 0, none⟩ = false := frozen_of_block HB'.out 0
    have kA : ∀ o, (W.alloc o).cell? ⟨b, 0, none⟩ = some (.slice a 0 c) := fun o => cell_alloc k0' o
    have OA := fun o => hid (owns_step HO'.out ((Step.refl noF W).alloc o) (fun _ _ x => x))
    have BA := fun o => hid ((((Step.refl noF W).alloc o).block b (lt_of_block HB'.out) (fun x => x)).trans HB'.out)
    go_region_law (refine step_append_mB rfl (.tmp 30) (.tmp 32) rfl base (.slice a 0 c) [] (by first | rfl | (simp [Act.eval]; done)) (by first | exact (OA _).out | exact owns_step (OA _).out ((Step.refl noF _).drew) (fun _ _ x => x)) ⟨W.heap.size, 0, none⟩ 1 [⟨mk, my, mv⟩] (by first | rfl | (simp [Act.eval]; done)) (by first | exact msB_new W mk my mv | exact (msB_new W mk my mv).stepB ((Step.refl noF _).drew)) hL0.out (by have h1 := hszb.out; have h2 := hWs.out; show base ≤ (W.alloc _).heap.size; rw [World.size_alloc]; omega) ?_; intro v' w' ho' hg' hf'; obtain ⟨hb', hs'⟩ := draftM_app (base := base) (D := []) (a := a) (c := c) (by first | exact (BA _).out | exact ((Step.refl noF _).drew.block b (lt_of_block (BA _).out) (fun x => x)).trans (BA _).out) (by first | exact (OA _).out | exact owns_step (OA _).out ((Step.refl noF _).drew) (fun _ _ x => x)) HN.out hg'; obtain ⟨e0, e1⟩ := one_cell hb'; obtain ⟨ao, cc, rfl⟩ := owns_form ho'; have HB2 := hid hb'; have HS2 := hid hs'; have HO2 := hid ho'; have HF2 := hid hf'; clear hb' hs' ho' hg' hf')
    all_goals go_wp2_with fail
    all_goals refine bodyPost_ret (results_none rfl _ _ _) rfl ?_
    all_goals
      refine ⟨rfl, ?_, ?_⟩
      · skip
        first
          | exact draftM_put HB2.out HO2.out HBB.out HF2.out HN.out (by have h1 := hblt.out; have h2 := hWs.out; show b < (W.alloc _).heap.size; rw [World.size_alloc]; omega)
          | exact draftM_put (w0 := (W.alloc _).drew) HB2.out HO2.out HBB.out HF2.out HN.out (by have h1 := hblt.out; have h2 := hWs.out; show b < (W.alloc _).heap.size; rw [World.size_alloc]; omega)
      · refine Step.setCell (p := ⟨b, 0, none⟩) ?_ (.inl HBB.out) _
        have t1 : Step (fun k => base ≤ k) w W := S0'.out.mono (fun i hi => hi.elim)
        first
          | exact (t1.alloc _).trans HS2.out
          | exact ((t1.alloc _).drew).trans HS2.out
  · have hp : 0 < D.length := List.length_pos_iff.2 hD0
    obtain ⟨n, hn⟩ : ∃ n, D.length = n + 1 := ⟨D.length - 1, by omega⟩
    have hnl : n < D.length := by omega
    obtain ⟨E, z, hEz⟩ : ∃ E z, D = E ++ [z] := by
      obtain ⟨z, hz⟩ : ∃ z, D.getLast? = some z := by
        cases hg : D.getLast? with
        | none => exact absurd (List.getLast?_eq_none_iff.1 hg) hD0
        | some z => exact ⟨z, rfl⟩
      obtain ⟨E, h⟩ := List.getLast?_eq_some_iff.1 hz
      exact ⟨E, z, h⟩
    have hElen : E.length = n := by rw [hEz] at hn; simp at hn; exact hn
    have hzn : D[n] = z := by
      have : D[n]? = some z := by rw [hEz, List.getElem?_append_right (by omega), hElen]; simp
      rw [List.getElem?_eq_getElem hnl] at this
      exact Option.some.inj this
    have hzis : z.is = true := by rw [← hzn]; exact HDD.out _ (List.getElem_mem hnl)
    obtain ⟨a', c', hv, _, _, hat⟩ := owns_msgs HO.out
    injection hv with e1 _ e2
    subst e1
    subst e2
    have hgo : ∃ g cap, a = some ⟨g, 0, none⟩ ∧ g < (w.alloc (.cells #[.int .i64 m.kind, .string (str m.key), .string (str m.val)] 73)).heap.size ∧ base ≤ g ∧ g ≠ b ∧ (∀ j, (w.alloc (.cells #[.int .i64 m.kind, .string (str m.key), .string (str m.val)] 73)).frozen? ⟨g, j, none⟩ = false) ∧ cap = c := by
      rcases HO.out.2 with ⟨h, h0⟩ | ⟨g, cap, cur, h, h1, h2, h3⟩
      · omega
      · injection h with h4 _ h5
        refine ⟨g, cap, h4, lt_of_block h2, h1, fun e => HN.out ?_, fun j => frozen_of_block h2 j, h5.symm⟩
        rw [h4, e]
        rfl
    obtain ⟨g, cap, rfl, hglt, hgb, hgne, hgf, rfl⟩ := hgo
    obtain ⟨g', off', he, c0, c1, c2⟩ := hat.at n hnl
    obtain ⟨rfl, rfl⟩ : g = g' ∧ 0 = off' := by
      injection he with he
      injection he with h1 h2 _
      exact ⟨h1, h2⟩
    rw [hzn] at c0 c1 c2
    rw [Nat.zero_add] at c0 c1 c2
    have eE : endM D m = if z.key = m.key then E ++ [z.then m] else D ++ [m] := by
      unfold endM
      rw [hEz]
      simp
    rw [eE]
    have HSET : Hid (∀ x : Mg, D.set n x = E ++ [x]) := fun x => by rw [hEz, ← hElen]; simp
    have HLN := hid hn
    have HGB := hid hgb
    have HZIS := hid hzis
    have HEL := hid hElen
    have em : (D.length : Int) - 1 = (n : Int) := by omega
    have rm : IntKind.i64.wrap (n : Int) = (n : Int) := by rw [IntKind.wrap_i64]; omega
    have bm : (n : Int) < (D.length : Int) := by omega
    have nm : ¬ (n : Int) < 0 := by omega
    have nm2 : decide ((n : Int) < 0) = false := decide_eq_false nm
    clear hat he hEz hzn hD0 hp hn eE hElen hzis hgb
    obtain ⟨mk, my, mv⟩ := m
    obtain ⟨zk, zy, zv⟩ := z
    simp only at q0 q1 q2 HT HB HO HN S0 HM hL0 k0 z0 c0 c1 c2 hgf hglt HZIS ⊢
    by_cases hky : zy = my
    · rw [if_pos hky]
      subst hky
      have cT := fun W' => then_any ⟨zk, zy, zv⟩ ⟨mk, zy, mv⟩ (Mg.val_max HZIS.out) (Mg.val_max HM.out) W'
      have e1 : (Mg.mk zk zy zv).value = .agg #[.int .i64 zk, .string (str zy), .string (str zv)] := rfl
      have e2 : (Mg.mk mk zy mv).value = .agg #[.int .i64 mk, .string (str zy), .string (str mv)] := rfl
      have e3 : (Mg.mk zk zy zv).thenR ⟨mk, zy, mv⟩ = .tuple #[.agg #[.int .i64 ((Mg.mk zk zy zv).then ⟨mk, zy, mv⟩).kind, .string (str ((Mg.mk zk zy zv).then ⟨mk, zy, mv⟩).key), .string (str ((Mg.mk zk zy zv).then ⟨mk, zy, mv⟩).val)], .int .i64 ((Mg.mk zk zy zv).thenE ⟨mk, zy, mv⟩)] := rfl
      rw [e1, e2, e3] at cT
      obtain ⟨M, hM⟩ : ∃ M, (Mg.mk zk zy zv).then ⟨mk, zy, mv⟩ = M := ⟨_, rfl⟩
      obtain ⟨er, her⟩ : ∃ er, (Mg.mk zk zy zv).thenE ⟨mk, zy, mv⟩ = er := ⟨_, rfl⟩
      rw [hM] at cT ⊢
      rw [her] at cT
      rw [← HSET.out M]
      clear e1 e2 e3 hM her
      obtain ⟨Mk, My, Mv⟩ := M
      simp only at cT ⊢
      have hkd : decide (zy = zy) = true := decide_eq_true rfl
      go_enter Tryz.func124, Tryz.ntmps124
      go_wp2_with fail
      go_quiet (fail)
      go_wp2_with fail
      have st0 : Step noF (w.alloc (.cells #[.int .i64 mk, .string (str zy), .string (str mv)] 73)) ((w.alloc (.cells #[.int .i64 mk, .string (str zy), .string (str mv)] 73)).drewN nq) := (Step.refl noF _).drewN _
      have k0' := st0.after k0
      have q0' := st0.after q0
      have q1' := st0.after q1
      have q2' := st0.after q2
      have d0' := st0.after c0
      have d1' := st0.after c1
      have d2' := st0.after c2
      have HB' := hid ((st0.block b (lt_of_block HB.out) (fun x => x)).trans HB.out)
      have HO' := hid (owns_step HO.out st0 (fun _ _ x => x))
      have S0' := hid (S0.out.trans st0)
      have HGF : Hid (∀ j, ((w.alloc (.cells #[.int .i64 mk, .string (str zy), .string (str mv)] 73)).drewN nq).frozen? ⟨g, j, none⟩ = false) := fun j => (st0.frozen (p := ⟨g, j, none⟩) (fun x => x) hglt).trans (hgf j)
      have HGL : Hid (g < ((w.alloc (.cells #[.int .i64 mk, .string (str zy), .string (str mv)] 73)).drewN nq).heap.size) := hglt
      clear st0 k0 q0 q1 q2 HB HO S0 z0 HT hgf hglt c0 c1 c2
      generalize (w.alloc (.cells #[.int .i64 mk, .string (str zy), .string (str mv)] 73)).drewN nq = W at *
      go_region_law (refine step_calls rfl rfl Tryz.func164 (by kernel_rfl) (by kernel_rfl) (args := #[.agg #[.int .i64 zk, .string (str zy), .string (str zv)], .agg #[.int .i64 mk, .string (str zy), .string (str mv)]]) (by first | rfl | (simp [Act.eval, Act.put]; done)) ?_; refine (cT _).mono ?_; rintro e w2 ⟨rfl, s2⟩; have S2 : Hid (Step noF W w2) := (by first | exact s2 | exact ((Step.refl noF W).drew).trans s2 | exact ((Step.refl noF W).drewN _).trans s2); clear s2; have k2 := S2.out.after k0'; have g0 := S2.out.after d0'; have g1 := S2.out.after d1'; have g2 := S2.out.after d2'; have f0 : w2.frozen? ⟨g, n * 3, none⟩ = false := (S2.out.frozen (p := ⟨g, n * 3, none⟩) (fun x => x) HGL.out).trans (HGF.out _); have f1 : w2.frozen? ⟨g, n * 3 + 1, none⟩ = false := (S2.out.frozen (p := ⟨g, n * 3 + 1, none⟩) (fun x => x) HGL.out).trans (HGF.out _); have f2 : w2.frozen? ⟨g, n * 3 + 2, none⟩ = false := (S2.out.frozen (p := ⟨g, n * 3 + 2, none⟩) (fun x => x) HGL.out).trans (HGF.out _); refine ⟨_, rfl, ?_⟩)
      all_goals go_wp2_with fail
      all_goals go_end0
      all_goals
        have S3 : Step noF w w2 := S0'.out.trans S2.out
        refine ⟨rfl, ?_, ((((S3.mono (fun i hi => hi.elim)).setCell (p := ⟨g, n * 3, none⟩) (.inl HGB.out) _).setCell (p := ⟨g, n * 3 + 1, none⟩) (.inl HGB.out) _).setCell (p := ⟨g, n * 3 + 2, none⟩) (.inl HGB.out) _)⟩
        have hb2 := (S2.out.block b (lt_of_block HB'.out) (fun x => x)).trans HB'.out
        have hs3 : Step (oneF g) w2 _ := (((Step.refl (oneF g) w2).setCell (p := ⟨g, n * 3, none⟩) (.inl rfl) (.int .i64 Mk)).setCell (p := ⟨g, n * 3 + 1, none⟩) (.inl rfl) (.string (str My))).setCell (p := ⟨g, n * 3 + 2, none⟩) (.inl rfl) (.string (str Mv))
        have ho2 := owns_put3 (owns_step HO'.out S2.out (fun _ _ x => x)) n hnl ⟨Mk, My, Mv⟩
        refine ⟨some ⟨g, 0, none⟩, cap, ?_, ?_, HBB.out, ?_⟩
        · rw [List.length_set]
          exact (hs3.block b (lt_of_block hb2) (fun e => hgne e.symm)).trans hb2
        · rw [List.length_set]
          exact ho2
        · rw [List.length_set]
          exact HN.out
    · rw [if_neg hky]
      have hkd : decide (zy = my) = false := decide_eq_false hky
      go_enter Tryz.func124, Tryz.ntmps124
      go_wp2_with fail
      go_quiet (fail)
      go_wp2_with fail
      have st0 : Step noF (w.alloc (.cells #[.int .i64 mk, .string (str my), .string (str mv)] 73)) ((w.alloc (.cells #[.int .i64 mk, .string (str my), .string (str mv)] 73)).drewN nq) := (Step.refl noF _).drewN _
      have k0' := st0.after k0
      have q0' := st0.after q0
      have q1' := st0.after q1
      have q2' := st0.after q2
      have HB' := hid ((st0.block b (lt_of_block HB.out) (fun x => x)).trans HB.out)
      have HO' := hid (owns_step HO.out st0 (fun _ _ x => x))
      have S0' := hid (S0.out.trans st0)
      have hWs : Hid (((w.alloc (.cells #[.int .i64 mk, .string (str my), .string (str mv)] 73)).drewN nq).heap.size = w.heap.size + 1) := World.size_alloc _ _
      clear st0 k0 q0 q1 q2 HB HO S0 z0 HT hgf hglt c0 c1 c2
      generalize (w.alloc (.cells #[.int .i64 mk, .string (str my), .string (str mv)] 73)).drewN nq = W at *
      have z0 : W.frozen? ⟨b, 0, none⟩ = false := frozen_of_block HB'.out 0
      have kA : ∀ o, (W.alloc o).cell? ⟨b, 0, none⟩ = some (.slice (some ⟨g, 0, none⟩) D.length cap) := fun o => cell_alloc k0' o
      have OA := fun o => hid (owns_step HO'.out ((Step.refl noF W).alloc o) (fun _ _ x => x))
      have BA := fun o => hid ((((Step.refl noF W).alloc o).block b (lt_of_block HB'.out) (fun x => x)).trans HB'.out)
      go_region_law (refine step_append_mB rfl (.tmp 30) (.tmp 32) rfl base (.slice (some ⟨g, 0, none⟩) D.length cap) D (by first | rfl | (simp [Act.eval]; done)) (by first | exact (OA _).out | exact owns_step (OA _).out ((Step.refl noF _).drew) (fun _ _ x => x)) ⟨W.heap.size, 0, none⟩ 1 [⟨mk, my, mv⟩] (by first | rfl | (simp [Act.eval]; done)) (by first | exact msB_new W mk my mv | exact (msB_new W mk my mv).stepB ((Step.refl noF _).drew)) hL0.out (by have h1 := hszb.out; have h2 := hWs.out; show base ≤ (W.alloc _).heap.size; rw [World.size_alloc]; omega) ?_; intro v' w' ho' hg' hf'; obtain ⟨hb', hs'⟩ := draftM_app (base := base) (D := D) (a := (some ⟨g, 0, none⟩)) (c := cap) (by first | exact (BA _).out | exact ((Step.refl noF _).drew.block b (lt_of_block (BA _).out) (fun x => x)).trans (BA _).out) (by first | exact (OA _).out | exact owns_step (OA _).out ((Step.refl noF _).drew) (fun _ _ x => x)) HN.out hg'; obtain ⟨e0, e1⟩ := one_cell hb'; obtain ⟨ao, cc, rfl⟩ := owns_form ho'; have HB2 := hid hb'; have HS2 := hid hs'; have HO2 := hid ho'; have HF2 := hid hf'; clear hb' hs' ho' hg' hf')
      all_goals go_wp2_with fail
      all_goals refine bodyPost_ret (results_none rfl _ _ _) rfl ?_
      all_goals
        refine ⟨rfl, ?_, ?_⟩
        · rw [show D.length + 1 = (D ++ [(⟨mk, my, mv⟩ : Mg)]).length by simp]
          first
            | exact draftM_put HB2.out HO2.out HBB.out HF2.out HN.out (by have h1 := hblt.out; have h2 := hWs.out; show b < (W.alloc _).heap.size; rw [World.size_alloc]; omega)
            | exact draftM_put (w0 := (W.alloc _).drew) HB2.out HO2.out HBB.out HF2.out HN.out (by have h1 := hblt.out; have h2 := hWs.out; show b < (W.alloc _).heap.size; rw [World.size_alloc]; omega)
        · refine Step.setCell (p := ⟨b, 0, none⟩) ?_ (.inl HBB.out) _
          have t1 : Step (fun k => base ≤ k) w W := S0'.out.mono (fun i hi => hi.elim)
          first
            | exact (t1.alloc _).trans HS2.out
            | exact ((t1.alloc _).drew).trans HS2.out

theorem endM_len (D : List Mg) (m : Mg) : (endM D m).length ≤ D.length + 1 := by
  unfold endM
  split
  · simp
  · split <;> simp

set_option maxHeartbeats 4000000 in
/-- each: a list that is sorted, put message by message. -/
theorem eachB_any (base b : Nat) (ys : List Mg) (hg : GoodM ys) (hu : Up Mg.key ys) (hyl : ys.length ≤ 400000) (a : Option Addr) (c : Nat) (w : World) (hr : MsgsAt w (fun k => base ≤ k) a ys) (h : DraftM w base b []) :
    Calls Tryz.prog 123 #[.slice a ys.length c, .func (.func 124) #[.pointer (some ⟨b, 0, none⟩)] #[]] w fun e w' => e = .returned (.tuple #[]) ∧ DraftM w' base b (putsM ys []) ∧ Step (fun k => base ≤ k) w w' := by
  have HR := hid hr
  have HD := hid h
  have HG := hid hg
  have HU := hid hu
  clear hr h hg hu
  go_enter Tryz.func123, Tryz.ntmps123
  go_wp2_with fail
  go_loopw [8] (fun i wr => ∃ (j : Nat), j ≤ ys.length ∧ i = .int .i64 j ∧ Hid (DraftM wr base b (putsM (ys.take j) [])) ∧ Hid (Step (fun k => base ≤ k) w wr)) (fun i _ => ys.length - (intOf i).toNat)
  case atStart => exact ⟨0, Nat.zero_le _, rfl, HD, Step.refl _ _⟩
  case round =>
    obtain ⟨j, hj, rfl, HDr, HS⟩ := hrel
    by_cases hjl : j < ys.length
    · obtain ⟨g, off, rfl, c0, c1, c2⟩ := (HR.out.step HS.out (fun k hk => hk)).at j hjl
      have hmi := HG.out ys[j] (List.getElem_mem hjl)
      have HN := hid (endM_take ys HG.out HU.out j hjl)
      have hgt : GoodM (ys.take j) := fun x hx => HG.out x (List.mem_of_mem_take hx)
      have HGD := hid (putsM_all _ hgt [] (fun _ h => by simp at h) List.Pairwise.nil).1
      have HLn : Hid ((putsM (ys.take j) []).length ≤ 1000000) := by
        have := putsM_len (ys.take j) []
        show _ ≤ _
        simp at this
        omega
      have cP := fun w1 h1 => put_any base b _ HLn.out HGD.out ys[j] hmi w1 h1
      obtain ⟨⟨mk, my, mv⟩, hm⟩ : ∃ m, ys[j] = m := ⟨_, rfl⟩
      rw [hm] at c0 c1 c2 HN cP
      clear hm hmi hgt
      simp only at c0 c1 c2 cP
      go_wp2_with fail
      refine (cP _ (HDr.out.stepNo ((Step.refl noF wr).alloc _))).mono ?_
      rintro e w2 ⟨rfl, d2, s2⟩
      have D2 := hid d2
      have S2 := hid (((HS.out.alloc _).trans s2))
      clear d2 s2 cP
      go_wp2_with fail
      go_roundw
      case rel =>
        refine ⟨j + 1, by omega, int_eq (by omega), ?_, S2⟩
        have := D2.out
        rw [HN.out] at this
        exact this
      case measure => simp [intOf]; omega
    · obtain rfl : j = ys.length := by omega
      go_wp2_with fail
      go_end0
      refine ⟨rfl, ?_, HS.out⟩
      have := HDr.out
      rw [List.take_of_length_le (Nat.le_refl _)] at this
      exact this
end Go.Proofs.YtoobelcphcndoaaGreat
namespace Go.Proofs.YtoobelcphcndoaaGreat
open Go.RowKit Go.Sort
set_option linter.unusedVariables false
set_option linter.unusedSimpArgs false
set_option maxRecDepth 20000

/-- What With answers. -/
def WithB (w : World) (ms b : List Mg) (e : Ending) (w' : World) : Prop := (ms.all Mg.is = false ∧ e = .returned (.tuple #[.pointer none, .int .i64 1])) ∨ (ms.all Mg.is = true ∧ ∃ p, e = .returned (.tuple #[.pointer (some ⟨p, 0, none⟩), .int .i64 0]) ∧ BuffAt w' p (putsM ms b))
theorem withB_nil (a : Option Addr) (n c : Nat) (w : World) : Calls Tryz.prog 79 #[.pointer none, .slice a n c] w fun e w' => e = .returned (.tuple #[.pointer none, .int .i64 2]) ∧ w = w' := by
  go_enter Tryz.func79, Tryz.ntmps79
  go_wp2
  go_ret2
  exact ⟨rfl, rfl⟩
theorem two_slices (w : World) (x y : Value) (t : TypeId) : (w.alloc (.cells #[x, y] t)).cell? ⟨w.heap.size, 0, none⟩ = some x ∧ (w.alloc (.cells #[x, y] t)).cell? ⟨w.heap.size, 1, none⟩ = some y := by
  constructor <;> rw [cell_of_block (block_alloc_new w _)] <;> rfl
theorem msgs_below {w : World} {base n : Nat} {a : Option Addr} {c : Nat} {ys : List Mg} (h : w.ownsRow 0 73 3 (.slice a n c) n (msgs ys)) (hn : ys.length = n) (hb : base = w.heap.size) : MsgsAt w (fun k => base ≤ k) a ys := by
  subst hn
  obtain ⟨a1, c1, e1, _, m1⟩ := msgsAt_owns h rfl
  injection e1 with e1 _ _
  subst e1
  rcases m1 with h | ⟨g, off, rfl, _, hg, hcells⟩
  · exact .inl h
  · exact .inr ⟨g, off, rfl, by simp; omega, hg, hcells⟩
set_option maxHeartbeats 4000000 in
theorem withB_any (p : Nat) (xs : List Mg) (hR : RisingM xs) (hG : GoodM xs) (ms : List Mg) (hms : ∀ m ∈ ms, m.val.length ≤ maxLen) (hl : xs.length + ms.length ≤ 400000) (a : Option Addr) (c : Nat) (hc : a = none → c = 0) (w : World) (h : BuffAt w p xs) (hr : MsgsAt w noF a ms) :
    Calls Tryz.prog 79 #[.pointer (some ⟨p, 0, none⟩), .slice a ms.length c] w fun e w' => WithB w ms xs e w' ∧ Step noF w w' := by
  have c1 := containsB_any ms hms (by omega) a c w hr
  have HL := hid h
  have HR := hid hr
  have HC := hid hc
  have HRI := hid hR
  have HGG := hid hG
  clear h hr hc hR hG
  cases hall : ms.all Mg.is
  · rw [hall] at c1
    have HA := hid hall
    clear hall
    go_enter Tryz.func79, Tryz.ntmps79
    go_wp2_with fail
    refine c1.mono ?_
    rintro e w2 ⟨rfl, s2⟩
    have S2 := hid s2
    clear s2
    go_wp2_with fail
    go_ret2
    exact ⟨.inl ⟨HA.out, rfl⟩, S2.out⟩
  · rw [hall] at c1
    have HA := hid hall
    have HIS : Hid (GoodM ms) := List.all_eq_true.1 hall
    clear hall
    go_enter Tryz.func79, Tryz.ntmps79
    go_wp2_with fail
    refine c1.mono ?_
    rintro e w2 ⟨rfl, s2⟩
    have S2 := hid s2
    clear s2
    obtain ⟨la, lc, k1, kc, kn, kr⟩ := (HL.out.step S2.out).cell
    have HKN := hid kn
    have HKR := hid kr
    clear kc kn kr
    obtain ⟨b0, b1⟩ := two_slices w2 (.slice la xs.length lc) (.slice a ms.length c) 25
    have st2 : ∀ o, Step noF w2 (w2.alloc o) := fun o => (Step.refl noF w2).alloc o
    go_wp2_with fail
    refine (concatM_any w2.heap.size xs ms (by omega) la a lc c 2 _ b0 b1 (HKR.out.stepB (st2 _)) ((HR.out.stepB S2.out).stepB (st2 _)) HKN.out.1 HC.out).mono ?_
    rintro e w3 ⟨v, rfl, o3, s3⟩
    have O3 := hid o3
    have S3 := hid ((S2.out.alloc _).trans s3)
    clear o3 s3 b0 b1 st2
    obtain ⟨va, vc, rfl⟩ := owns_form O3.out
    obtain ⟨n, hn⟩ : ∃ n, (xs ++ ms).length = n := ⟨_, rfl⟩
    have hnn : n ≤ 400000 := by rw [← hn, List.length_append]; omega
    have O3' := O3.out
    have cS := sortB_any (xs ++ ms) (by rw [hn]; omega) (.slice va n vc) _ w3 (by rw [hn] at O3' ⊢; exact O3')
    have O4 := hid (show w3.ownsRow _ 73 3 (.slice va n vc) n (msgs (xs ++ ms)) by rw [hn] at O3'; exact O3')
    rw [hn] at cS ⊢
    clear O3' O3
    have HN := hid hn
    clear hn
    go_wp2_with fail
    refine cS.mono ?_
    rintro e w4 ⟨rfl, ys, hal, hup, hyl, o4, s4⟩
    have HAL := hid hal
    have HUP := hid hup
    have HYL := hid hyl
    have O5 := hid (owns_base o4 (Nat.zero_le _))
    have S4 : Hid (Step noF w w4) := S3.out.then s4 (fun i hi => .inr (Nat.le_trans (by have := S2.out.size; rw [World.size_alloc]; omega) (O4.out.lt i hi).1))
    clear hal hup hyl o4 s4 cS k1
    obtain ⟨i0, hi0, hz0, hz1, hz2⟩ := info_ms
    obtain ⟨wm, hmk, hown0, hgr0⟩ := run_makeSlice_owned (P := Tryz.prog) w4 w4.heap.size 25 73 i0 _ 3 Tryz.underlying25 hi0 hz0 hz1 .i64 .i64 n (by omega) (by rw [hz2]; omega) (le_max (by omega)) (Nat.le_refl _)
    have hmk2 : (Instr.makeSlice 25 (.int .i64 0) (.int .i64 n)).run Tryz.prog w4 = .ok (.slice (some ⟨w4.heap.size, 0, none⟩) 0 n) wm := hmk
    have SM : Hid (Step noF w4 wm) := (Step.refl noF w4).grown hgr0 (fun k hk => by cases hk)
    have hlt : w4.heap.size < wm.heap.size := (hown0.lt w4.heap.size rfl).2
    have HO := hid hown0
    have HMS : Hid (MsgsAt (wm.alloc (.cells #[.slice (some ⟨w4.heap.size, 0, none⟩) 0 n] 175)) (fun k => w4.heap.size ≤ k) va ys) :=
      (msgs_below O5.out HYL.out rfl).step ((SM.out.alloc (.cells #[.slice (some ⟨w4.heap.size, 0, none⟩) 0 n] 175))) (fun _ h => h.elim)
    have HDR : Hid (DraftM (wm.alloc (.cells #[.slice (some ⟨w4.heap.size, 0, none⟩) 0 n] 175)) w4.heap.size wm.heap.size []) :=
      ⟨some ⟨w4.heap.size, 0, none⟩, n, block_alloc_new wm _, owns_step HO.out ((Step.refl noF wm).alloc _) (fun _ _ x => x), Nat.le_of_lt hlt, fun e => by simp [Value.ownBlock] at e; omega⟩
    have cE := eachB_any w4.heap.size wm.heap.size ys (puts_sorted xs ms ys HRI.out HGG.out HIS.out HAL.out).1 HUP.out (by rw [HYL.out]; exact hnn) va vc _ HMS.out HDR.out
    rw [HYL.out] at cE
    clear hmk hown0 hgr0
    go_wp2_with fail
    refine cE.mono ?_
    rintro e w5 ⟨rfl, d5, s5⟩
    have HPS := hid (puts_sorted xs ms ys HRI.out HGG.out HIS.out HAL.out).2
    rw [HPS.out] at d5
    have S5 : Hid (Step noF w w5) := ((S4.out.trans SM.out).alloc (.cells #[.slice (some ⟨w4.heap.size, 0, none⟩) 0 n] 175)).then s5 (fun i hi => .inr (Nat.le_trans S4.out.size hi))
    obtain ⟨da, dc, hb5, ho5, _, _⟩ := d5
    obtain ⟨x0, x1⟩ := one_cell hb5
    have O6 := hid ho5
    clear hb5 ho5 s5 cE hlt
    go_wp2_with fail
    go_ret2
    exact ⟨.inr ⟨HA.out, _, rfl, buffAt_new O6.out⟩, S5.out.alloc _⟩

theorem buffAt_zero (w : World) : BuffAt (w.alloc (.cells #[.slice none 0 0] 134)) w.heap.size [] :=
  ⟨none, 0, block_alloc_new w _, Nat.le_refl _, ⟨fun _ => rfl, fun ad e => by cases e⟩, .inl rfl⟩
/-- Of: the buffer into which all are put. -/
theorem ofB_any (ms : List Mg) (hms : ∀ m ∈ ms, m.val.length ≤ maxLen) (hl : ms.length ≤ 400000) (a : Option Addr) (c : Nat) (hc : a = none → c = 0) (w : World) (hr : MsgsAt w noF a ms) :
    Calls Tryz.prog 86 #[.slice a ms.length c] w fun e w' => WithB w ms [] e w' ∧ Step noF w w' := by
  have st := (Step.refl noF w).alloc (.cells #[.slice none 0 0] 134)
  have cW := withB_any w.heap.size [] List.Pairwise.nil (fun _ h => by simp at h) ms hms (by simpa using hl) a c hc _ (buffAt_zero w) (hr.stepB st)
  have ST := hid st
  clear st hr hc hms
  go_enter Tryz.func86, Tryz.ntmps86
  go_wp2_with fail
  refine cW.mono ?_
  rintro e w2 ⟨hw, s2⟩
  have S2 := hid (ST.out.trans s2)
  clear s2
  rcases hw with ⟨h1, rfl⟩ | ⟨h1, p, rfl, hb⟩
  · have H1 := hid h1
    clear h1
    go_wp2_with fail
    go_ret2
    exact ⟨.inl ⟨H1.out, rfl⟩, S2.out⟩
  · have H1 := hid h1
    have HB := hid hb
    clear h1 hb
    go_wp2_with fail
    go_ret2
    exact ⟨.inr ⟨H1.out, p, rfl, HB.out⟩, S2.out⟩
end Go.Proofs.YtoobelcphcndoaaGreat
namespace Go.Proofs.YtoobelcphcndoaaGreat
open Go.RowKit Go.Sort
set_option linter.unusedVariables false
set_option linter.unusedSimpArgs false
set_option maxRecDepth 20000

/-- A row of messages of one's own. -/
def OwnB (w : World) (base : Nat) (v : Value) (xs : List Mg) : Prop := w.ownsRow base 73 3 v xs.length (msgs xs)
theorem OwnB.step {w w' : World} {base : Nat} {v : Value} {xs : List Mg} (h : OwnB w base v xs) (hs : Step noF w w') : OwnB w' base v xs := owns_step h hs (fun _ _ x => x)
theorem OwnB.empty (w : World) : OwnB (w.alloc (.cells #[] 73)) w.heap.size (.slice (some ⟨w.heap.size, 0, none⟩) 0 0) [] :=
  ⟨rfl, .inr ⟨w.heap.size, 0, #[], rfl, Nat.le_refl _, block_alloc_new w _, Nat.le_refl _, Nat.zero_le _, rfl, rfl⟩⟩
theorem OwnB.weak {w : World} {base b2 : Nat} {v : Value} {xs : List Mg} (h : OwnB w base v xs) (hb : b2 ≤ base) : OwnB w b2 v xs := owns_base h hb
theorem OwnB.after {w0 w w' : World} {base : Nat} {v : Value} {xs : List Mg} (hs : Step noF w0 w) (h : OwnB w base v xs) (hb : w0.heap.size ≤ base) (hg : w.grownBy w' v.ownBlock) : Step noF w0 w' :=
  hs.grown hg (fun k hk => .inr (Nat.le_trans hb (h.lt k hk).1))
/-- A slice of messages. -/
def MsV (w : World) (v : Value) (xs : List Mg) : Prop := ∃ a c, v = .slice a xs.length c ∧ (a = none → c = 0) ∧ MsgsAt w noF a xs
theorem MsV.step {w w' : World} {v : Value} {xs : List Mg} (h : MsV w v xs) (hs : Step noF w w') : MsV w' v xs := by
  obtain ⟨a, c, h1, h2, h3⟩ := h
  exact ⟨a, c, h1, h2, h3.stepB hs⟩
theorem OwnB.msv {w : World} {base : Nat} {v : Value} {xs : List Mg} (h : OwnB w base v xs) : MsV w v xs := by
  obtain ⟨a, c, h1, _, h2, h3⟩ := owns_msgs h
  exact ⟨a, c, h1, h2.1, h3⟩
end Go.Proofs.YtoobelcphcndoaaGreat
