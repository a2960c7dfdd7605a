/-
  slices.Grow and slices.Concat of two rows of items; slices.Equal; Join and Same.
-/
import Derived.Test.YtnalillebemglaaGreatLfC
import Derived.Lib.AppendZeros
import Derived.Laws.AppendOwnNone
namespace Go.Proofs.YtnalillebemglaaGreat
open Go.RowKit Go.Sort
set_option linter.unusedVariables false
set_option linter.unusedSimpArgs false
set_option maxRecDepth 20000

set_option maxHeartbeats 1000000 in
theorem grow_anyL (n : Nat) (hn : n ≤ 1000000) (w : World) :
    Calls Tryz.prog 101 #[.slice none 0 0, .int .i64 n] w fun e w' => ∃ v, e = .returned v ∧ w'.ownsRow w.heap.size 42 2 v 0 [] ∧ Step noF w w' := by
  obtain ⟨i0, hi, hz0, hz1, hz2⟩ := info_it
  by_cases h0 : n = 0
  · subst h0
    go_enter Tryz.func101, Tryz.ntmps101
    go_wp2
    go_ret
    exact ⟨_, rfl, World.ownsRow_nil w _ _ _, Step.refl _ _⟩
  · have hpos : 0 < n := by omega
    have happ := Lib.run_append_nil_zeros (P := Tryz.prog) w 40 3 40 42 i0 (.agg #[.string (str []), .string (str [])]) .i64 .i64 Tryz.underlying40 Tryz.underlying3 hi hz0 n hpos (by omega) (by omega) (by rw [hz2]; omega)
    have hcg := grownCap_ge w n 0 42
    have hcm := grownCap_le_maxLen w n 0 42 (by unfold maxLen; omega)
    generalize grownCap w n 0 42 = cap at happ hcg hcm
    have hzs : (Builtin.zeroCells (Value.agg #[.string (str []), .string (str [])]).cells n ++ Builtin.zeroCells (Value.agg #[.string (str []), .string (str [])]).cells (cap - n)).size = cap * 2 := by
      rw [Array.size_append, size_zeroCells, size_zeroCells]
      simp [Value.cells]
      omega
    generalize Builtin.zeroCells (Value.agg #[.string (str []), .string (str [])]).cells n ++ Builtin.zeroCells (Value.agg #[.string (str []), .string (str [])]).cells (cap - n) = Z at happ hzs
    have HZ := hid hzs
    have HC := hid hcm
    have hz1' : (0 : Int) < (n : Int) := by omega
    clear hzs hcm hpos h0
    go_enter Tryz.func101, Tryz.ntmps101
    go_wp2_with (at_builtin; refine Lib.wpList_append_run _ rfl _ _ _ _ rfl _ _ rfl rfl _ _ happ ?_)
    go_wp2
    go_ret
    exact ⟨_, rfl, ⟨rfl, .inr ⟨w.heap.size, cap, Z, rfl, Nat.le_refl _, block_alloc_new _ _, Nat.zero_le _, HC.out, HZ.out, by simp⟩⟩, ((Step.refl noF w).drew).alloc _⟩

theorem grown_step {w w' : World} {base : Nat} {e : TypeId} {size : Nat} {v : Value} {n : Nat} {xs : List Value} {w0 : World} (hs : Step noF w0 w) (hown : w.ownsRow base e size v n xs) (hb : w0.heap.size ≤ base) (hg : w.grownBy w' v.ownBlock) : Step noF w0 w' :=
  hs.grown hg (fun k hk => .inr (Nat.le_trans hb (hown.lt k hk).1))

set_option maxHeartbeats 2000000 in
/-- slices.Concat of two. -/
theorem concat_any (g : Nat) (xs ys : List Rg) (hl : xs.length + ys.length ≤ 1000000) (a1 a2 : Option Addr) (c1 c2 cg : Nat) (w : World) (hg0 : w.cell? ⟨g, 0, none⟩ = some (.slice a1 xs.length c1)) (hg1 : w.cell? ⟨g, 1, none⟩ = some (.slice a2 ys.length c2))
    (h1 : RgsAt w a1 xs) (h2 : RgsAt w a2 ys) (hc1 : a1 = none → c1 = 0) (hc2 : a2 = none → c2 = 0) :
    Calls Tryz.prog 78 #[.slice (some ⟨g, 0, none⟩) 2 cg] w fun e w' => ∃ v, e = .returned v ∧ w'.ownsRow w.heap.size 42 2 v (xs ++ ys).length (rgs (xs ++ ys)) ∧ Step noF w w' := by
  have H1 := hid h1
  have H2 := hid h2
  have HC1 := hid hc1
  have HC2 := hid hc2
  have q1 : (0 : Int) ≤ (xs.length : Int) := by omega
  have q2 : (0 : Int) ≤ (xs.length : Int) + (ys.length : Int) := by omega
  have q3 : ¬ (xs.length : Int) < 0 := by omega
  have q4 : ¬ (xs.length : Int) + (ys.length : Int) < 0 := by omega
  obtain ⟨n, hn⟩ : ∃ n, xs.length + ys.length = n := ⟨_, rfl⟩
  have en : (xs.length : Int) + (ys.length : Int) = (n : Int) := by omega
  have hnn : n ≤ 1000000 := by omega
  have rn : IntKind.i64.wrap (n : Int) = (n : Int) := by rw [IntKind.wrap_i64]; omega
  have hgl : g < w.heap.size := World.block_lt_of_cell? w _ hg0
  have HN := hid hn
  clear h1 h2 hc1 hc2 hn
  go_enter Tryz.func78, Tryz.ntmps78
  go_wp2
  refine wp_loop_rounds 3 ?_
  rw [rounds_succ]
  go_wp2
  rw [rounds_succ]
  go_wp2
  rw [rounds_succ]
  go_wp2_with (go_at_call 101; refine (grow_anyL n hnn _).mono ?_; rintro e w2 ⟨v, rfl, o2, s2⟩)
  have O2 := hid o2
  have S2 := hid s2
  have HG1 := hid hg1
  have k0 := s2.after hg0
  clear o2 s2 hg0 hg1
  refine wp_loop_rounds 3 ?_
  rw [rounds_succ]
  go_wp2_with (at_builtin; refine wpList_append_it rfl _ _ rfl w.heap.size _ [] rfl O2.out a1 c1 xs rfl (H1.out.step S2.out) HC1.out (by simp; omega) S2.out.size ?_)
  intro v3 w3 o3 g3
  have O3 := hid o3
  have S3 := hid (grown_step S2.out O2.out (Nat.le_refl _) g3)
  have k1 := S3.out.after HG1.out
  clear o3 g3 k0
  go_wp2
  rw [rounds_succ]
  go_wp2_with (at_builtin; refine wpList_append_it rfl _ _ rfl w.heap.size _ xs rfl O3.out a2 c2 ys rfl (H2.out.step S3.out) HC2.out (by omega) S3.out.size ?_)
  intro v4 w4 o4 g4
  have O4 := hid o4
  have S4 := hid (grown_step S3.out O3.out (Nat.le_refl _) g4)
  clear o4 g4 k1
  go_wp2
  rw [rounds_succ]
  go_wp2
  go_ret
  exact ⟨_, rfl, by rw [List.length_append]; exact O4.out, S4.out⟩

/-- Whether two rows of items are the same. -/
def sameB (xs ys : List Rg) : Bool := decide (xs.map (fun x => (x.lo, x.hi)) = ys.map (fun x => (x.lo, x.hi)))
theorem sameB_iff (xs ys : List Rg) : sameB xs ys = true ↔ xs = ys := by
  unfold sameB
  rw [decide_eq_true_eq]
  constructor
  · intro h
    refine List.map_inj_right (fun a b hab => ?_) |>.1 h
    injection hab with h1 h2
    exact It.ext' h1 h2
  · intro h
    rw [h]
theorem sameB_not {xs ys : List Rg} (h : xs ≠ ys) : sameB xs ys = false := by
  cases e : sameB xs ys
  · rfl
  · exact absurd ((sameB_iff _ _).1 e) h
set_option maxHeartbeats 1000000 in
/-- slices.Equal. -/
theorem equal_any (xs ys : List Rg) (hl : xs.length ≤ 1000000 ∧ ys.length ≤ 1000000) (a1 a2 : Option Addr) (c1 c2 : Nat) (w : World) (h1 : RgsAt w a1 xs) (h2 : RgsAt w a2 ys) :
    Calls Tryz.prog 52 #[.slice a1 xs.length c1, .slice a2 ys.length c2] w fun e w' => e = .returned (.bool (sameB xs ys)) ∧ Step noF w w' := by
  have hE := same_str
  have H1 := hid h1
  have H2 := hid h2
  obtain ⟨hl1, hl2⟩ := hl
  clear h1 h2
  obtain ⟨D, hD⟩ : ∃ D, sameB xs ys = D := ⟨_, rfl⟩
  rw [hD]
  have HD := hid hD
  clear hD
  by_cases hlen : xs.length = ys.length
  · have HL := hid hlen
    rw [← hlen]
    clear hlen
    go_enter Tryz.func52, Tryz.ntmps52
    go_wp2_with fail
    go_loopw [13] (fun i wr => ∃ (j : Nat), j ≤ xs.length ∧ i = .int .i64 j ∧ Hid (xs.take j = ys.take j) ∧ Step noF w wr) (fun i _ => xs.length - (intOf i).toNat)
    case atStart => exact ⟨0, Nat.zero_le _, rfl, (by show _ = _; rfl), Step.refl _ _⟩
    case round =>
      obtain ⟨j, hj, rfl, HT, st⟩ := hrel
      have ST := hid st
      clear st
      by_cases hjl : j < xs.length
      · have hjy : j < ys.length := by have := HL.out; omega
        obtain ⟨g, off, rfl, p0, p1⟩ := (H1.out.step ST.out).at j hjl
        obtain ⟨g2, off2, rfl, r0, r1⟩ := (H2.out.step ST.out).at j hjy
        have HN : Hid (xs.take (j + 1) = ys.take (j + 1) ↔ xs[j] = ys[j]) := by
          show _ ↔ _
          rw [List.take_succ_eq_append_getElem hjl, List.take_succ_eq_append_getElem hjy, HT.out, List.append_cancel_left_eq, List.cons.injEq]
          simp only [and_true]
        have HNE : Hid (xs[j] ≠ ys[j] → xs ≠ ys) := fun h e => h (by simp [e])
        obtain ⟨⟨x0, x1⟩, hx⟩ : ∃ m, xs[j] = m := ⟨_, rfl⟩
        obtain ⟨⟨y0, y1⟩, hy⟩ : ∃ m, ys[j] = m := ⟨_, rfl⟩
        rw [hx] at p0 p1 HN HNE
        rw [hy] at r0 r1 HN HNE
        clear hx hy
        by_cases e0 : x0 = y0
        · by_cases e1 : x1 = y1
          · subst e0
            subst e1
            go_wp2_with fail
            go_quiet (fail)
            go_wp2_with fail
            go_roundw
            case rel => exact ⟨j + 1, by omega, int_eq (by omega), (by show _ = _; first | exact HN.out.2 rfl | exact HN.out.2 trivial), ST.out.drewN _⟩
            case measure => simp [intOf]; omega
          · subst e0
            go_wp2_with fail
            go_quiet (fail)
            go_wp2_with fail
            go_ret
            exact ⟨ret_bool (by rw [← HD.out, sameB_not (HNE.out (fun e => e1 (by injection e)))]), ST.out.drewN _⟩
        · go_wp2_with fail
          go_quiet (fail)
          go_wp2_with fail
          go_ret
          exact ⟨ret_bool (by rw [← HD.out, sameB_not (HNE.out (fun e => e0 (by injection e)))]), ST.out.drewN _⟩
      · obtain rfl : j = xs.length := by omega
        go_wp2_with fail
        go_ret
        refine ⟨ret_bool ?_, ST.out⟩
        have := HT.out
        rw [List.take_of_length_le (Nat.le_refl _), HL.out, List.take_of_length_le (Nat.le_refl _)] at this
        rw [← HD.out, (sameB_iff _ _).2 this]
  · have hz : ¬ (xs.length : Int) = (ys.length : Int) := by omega
    have hz2 : ((xs.length : Int) == (ys.length : Int)) = false := by rw [beq_eq_false_iff_ne]; exact hz
    have HNE : Hid (D = false) := by show _ = _; rw [← HD.out]; exact sameB_not (fun e => hlen (by rw [e]))
    go_enter Tryz.func52, Tryz.ntmps52
    go_wp2_with fail
    go_ret
    exact ⟨ret_bool (by rw [HNE.out]), Step.refl _ _⟩

/-- Whether one row may stand ahead of another. -/
def aheadB (xs ys : List Rg) : Bool := xs.isEmpty || ys.isEmpty || decide ((xs.getLast?.map Rg.lo).getD [] < lowL ys)
theorem aheadB_iff (xs ys : List Rg) (hx : Rising xs) (hy : Rising ys) : aheadB xs ys = true ↔ joinOk xs ys := by
  unfold aheadB joinOk
  cases hxs : xs.getLast? with
  | none =>
    have : xs = [] := List.getLast?_eq_none_iff.1 hxs
    subst this
    simp
  | some z =>
    have hne : xs ≠ [] := fun e => by rw [e] at hxs; cases hxs
    have hz : xs = xs.dropLast ++ [z] := by
      obtain ⟨ys, h⟩ := List.getLast?_eq_some_iff.1 hxs
      rw [h]
      simp
    cases ys with
    | nil => simp
    | cons y ys =>
      have hx' : ∀ x ∈ xs.dropLast, x.lo < z.lo := by
        rw [hz] at hx
        have := (List.pairwise_append.1 hx).2.2
        intro x hx
        exact this x (by simpa using hx) z (by simp)
      have hy' := (List.pairwise_cons.1 hy).1
      simp only [List.isEmpty_iff, hne, lowL, Option.map_some, Option.getD_some, List.isEmpty_cons, Bool.or_false, Bool.or_eq_true, decide_eq_true_eq, reduceCtorEq, false_or]
      constructor
      · intro h x hxm w hw
        have h1 : x.lo < z.lo ∨ x = z := by
          rw [hz] at hxm
          rcases List.mem_append.1 hxm with h | h
          · exact .inl (hx' x h)
          · exact .inr (by simpa using h)
        have h2 : y.lo < w.lo ∨ w = y := by
          rcases List.mem_cons.1 hw with h | h
          · exact .inr h
          · exact .inl (hy' w h)
        rcases h1 with h1 | rfl <;> rcases h2 with h2 | rfl <;> grind
      · intro h
        exact decide_eq_true (h z (by rw [hz]; simp) y (by simp))

set_option maxHeartbeats 1000000 in
theorem same_any (p q : Nat) (xs ys : List Rg) (hl : xs.length ≤ 1000000 ∧ ys.length ≤ 1000000) (w : World) (h1 : LeafAt w p xs) (h2 : LeafAt w q ys) :
    Calls Tryz.prog 22 #[.pointer (some ⟨p, 0, none⟩), .pointer (some ⟨q, 0, none⟩)] w fun e w' => e = .returned (.bool (sameB xs ys)) ∧ Step noF w w' := by
  obtain ⟨a1, c1, k1, _, _, r1⟩ := h1.cell
  obtain ⟨a2, c2, k2, _, _, r2⟩ := h2.cell
  have hc := fun n => equal_any xs ys hl a1 a2 c1 c2 (w.drewN n) r1 r2
  have k1' : ∀ n, (w.drewN n).cell? ⟨p, 0, none⟩ = some (.slice a1 xs.length c1) := fun _ => k1
  have k2' : ∀ n, (w.drewN n).cell? ⟨q, 0, none⟩ = some (.slice a2 ys.length c2) := fun _ => k2
  obtain ⟨D, hD⟩ : ∃ D, sameB xs ys = D := ⟨_, rfl⟩
  rw [hD] at hc ⊢
  clear h1 h2 r1 r2 hD
  go_enter Tryz.func22, Tryz.ntmps22
  go_wp2_with fail
  go_region_with (go_at_call 52; refine (hc _).mono ?_; rintro e w2 ⟨rfl, s2⟩)
  all_goals go_wp2_with fail
  all_goals go_ret
  all_goals exact ⟨rfl, ((Step.refl noF w).drewN 1).trans s2⟩
theorem same_nil (w : World) : Calls Tryz.prog 22 #[.pointer none, .pointer none] w fun e w' => e = .returned (.bool true) ∧ w = w' := by
  go_enter Tryz.func22, Tryz.ntmps22
  go_wp2
  go_ret
  exact ⟨rfl, rfl⟩
theorem same_none (p : Nat) (w : World) : Calls Tryz.prog 22 #[.pointer (some ⟨p, 0, none⟩), .pointer none] w fun e w' => e = .returned (.bool false) ∧ w = w' := by
  go_enter Tryz.func22, Tryz.ntmps22
  go_wp2
  go_ret
  exact ⟨rfl, rfl⟩
/-- What Join answers. -/
def JoinPost (w : World) (xs ys : List Rg) (e : Ending) (w' : World) : Prop :=
  (aheadB xs ys = false ∧ e = .returned (.tuple #[.pointer none, .int .i64 11])) ∨ (aheadB xs ys = true ∧ ∃ r, e = .returned (.tuple #[.pointer (some ⟨r, 0, none⟩), .int .i64 0]) ∧ w.heap.size ≤ r ∧ LeafAt w' r (xs ++ ys))
end Go.Proofs.YtnalillebemglaaGreat
