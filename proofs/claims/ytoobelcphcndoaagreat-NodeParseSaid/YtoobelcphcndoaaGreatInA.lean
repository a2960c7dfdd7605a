/-
  Rows of numbers and of texts for package inner: the library's Clone, Grow, Concat and Equal at them; which numbers are no kids; keys that rise.
  An inner node in memory; what the small functions of package inner do: build, Len, Kids, Pivots, Buff, has, withBuff, refOf, lowOf, pivotAhead, Range.
-/
import Derived.Test.YtoobelcphcndoaaGreatKeyRow
import Derived.Test.YtoobelcphcndoaaGreatBfA
import Derived.Test.YtoobelcphcndoaaGreatKeyM
import Derived.Test.YtoobelcphcndoaaGreatInnerM
import Derived.Lib.AppendZeros
import Derived.Laws.AppendOwn
import Derived.Laws.AppendOwnNone
import Derived.Deep.RegionLaw
import Derived.Laws.Cover1
import Derived.BigQuiet
import Derived.BigRegion
import Derived.Deep.RegionWith
namespace Go.Proofs.YtoobelcphcndoaaGreat
open Go.RowKit Go.Sort
set_option linter.unusedVariables false
set_option linter.unusedSimpArgs false
set_option maxRecDepth 20000

theorem row1_cells {w : World} {ad : Addr} {cs : List Value} (h : RowAt w noF (some ad) cs) : ∀ j u, cs[j]? = some u → w.cell? (Addr.add ad j) = some u := by
  intro j u hu
  rcases h with rfl | ⟨b, off, h1, _, h2⟩
  · simp at hu
  · obtain rfl : ad = ⟨b, off, none⟩ := Option.some.inj h1
    obtain ⟨hj, e⟩ := List.getElem?_eq_some_iff.1 hu
    rw [Addr.add_lit, h2 j hj, e]
theorem row1_none {w : World} {cs : List Value} (h : RowAt w noF none cs) : cs = [] := by
  rcases h with h | ⟨b, off, h, _⟩
  · exact h
  · cases h
theorem owns_row1 {w : World} {e : TypeId} {v : Value} {n base : Nat} {cs : List Value} (h : w.ownsRow base e 1 v n cs) : ∃ a c, v = .slice a n c ∧ n ≤ c ∧ NilOk w a c ∧ RowAt w noF a cs := by
  have hl := h.1
  rw [Nat.mul_one] at hl
  rcases h.2 with ⟨rfl, h0⟩ | ⟨g, cap, cur, rfl, _, hg, hnc, _, _, ht⟩
  · exact ⟨none, 0, by rw [h0], by omega, ⟨(fun _ => rfl), (fun ad e => by cases e)⟩, .inl (List.eq_nil_of_length_eq_zero (by omega))⟩
  · refine ⟨some ⟨g, 0, none⟩, cap, rfl, hnc, ⟨(fun e => by cases e), (fun ad e => ⟨g, 0, (Option.some.inj e).symm, lt_of_block hg⟩)⟩, .inr ⟨g, 0, rfl, fun h => h, fun j hj => ?_⟩⟩
    rw [cell_of_block hg, ← Array.getElem?_toList, ← List.getElem?_take_of_lt (show 0 + j < n * 1 by omega), ht, Nat.zero_add, List.getElem?_eq_getElem hj]
theorem sub_row1 {w : World} {g off : Nat} {cs : List Value} (h : RowAt w noF (some ⟨g, off, none⟩) cs) (f t : Nat) (ht : t ≤ cs.length) : RowAt w noF (some ⟨g, off + f, none⟩) ((cs.take t).drop f) := by
  rcases h with rfl | ⟨b, o, h1, h2, h3⟩
  · left; simp
  · injection h1 with h1
    injection h1 with e1 e2
    subst e1
    subst e2
    refine .inr ⟨g, off + f, rfl, h2, fun j hj => ?_⟩
    simp at hj
    rw [List.getElem_drop, List.getElem_take, Nat.add_assoc]
    exact h3 (f + j) (by omega)
theorem row1_some {w : World} {ad : Addr} {c : Nat} (h : NilOk w (some ad) c) : ∃ g off, ad = ⟨g, off, none⟩ ∧ g < w.heap.size := h.2 ad rfl
theorem ints_length (zs : List Int) : (intsOf zs).length = zs.length := by simp [intsOf]
theorem texts_length (ps : List (List UInt8)) : (texts ps).length = ps.length := by simp [texts]
theorem ints_append (a b : List Int) : intsOf (a ++ b) = intsOf a ++ intsOf b := by simp [intsOf]
theorem texts_append (a b : List (List UInt8)) : texts (a ++ b) = texts a ++ texts b := by simp [texts]
theorem ints_one (zs : List Int) : ∀ u ∈ intsOf zs, u.oneCell' = true := by
  intro u hu
  simp only [intsOf, List.mem_map] at hu
  obtain ⟨x, _, rfl⟩ := hu
  rfl
theorem texts_one (ps : List (List UInt8)) : ∀ u ∈ texts ps, u.oneCell' = true := by
  intro u hu
  simp only [texts, List.mem_map] at hu
  obtain ⟨x, _, rfl⟩ := hu
  rfl
theorem ints_sub (zs : List Int) (f t : Nat) : ((intsOf zs).take t).drop f = intsOf ((zs.take t).drop f) := by simp [intsOf, List.map_take, List.map_drop]
theorem texts_sub (ps : List (List UInt8)) (f t : Nat) : ((texts ps).take t).drop f = texts ((ps.take t).drop f) := by simp [texts, List.map_take, List.map_drop]
theorem info_intA0 : (Tryz.prog.info? 3).map (fun i => (i.zero, i.size, i.bytes)) = some (some (.int .i64 0), 1, 8) := by kernel_rfl
theorem info_strA0 : (Tryz.prog.info? 9).map (fun i => (i.zero, i.size, i.bytes)) = some (some (.string (str [])), 1, 16) := by kernel_rfl
theorem info_intA : ∃ i, Tryz.prog.info? 3 = some i ∧ i.zero = some (.int .i64 0) ∧ i.size = 1 ∧ i.bytes = 8 := info_threeL info_intA0
theorem info_strA : ∃ i, Tryz.prog.info? 9 = some i ∧ i.zero = some (.string (str [])) ∧ i.size = 1 ∧ i.bytes = 16 := info_threeL info_strA0
theorem ints_get {w : World} {a : Option Addr} {zs : List Int} (h : RowAt w noF a (intsOf zs)) (j : Nat) (hj : j < zs.length) : ∃ b off, a = some ⟨b, off, none⟩ ∧ w.cell? ⟨b, off + j, none⟩ = some (.int .i64 zs[j]) := RowAt.at (f := Value.int .i64) h j hj
theorem texts_get {w : World} {a : Option Addr} {ps : List (List UInt8)} (h : RowAt w noF a (texts ps)) (j : Nat) (hj : j < ps.length) : ∃ b off, a = some ⟨b, off, none⟩ ∧ w.cell? ⟨b, off + j, none⟩ = some (.string (str ps[j])) := texts_at h j hj

theorem grown1_step {w w' : World} {base : Nat} {e : TypeId} {size : Nat} {v : Value} {n : Nat} {xs : List Value} {w0 : World} (hs : Step noF w0 w) (hown : w.ownsRow base e size v n xs) (hb : w0.heap.size ≤ base) (hg : w.grownBy w' v.ownBlock) : Step noF w0 w' :=
  hs.grown hg (fun k hk => .inr (Nat.le_trans hb (hown.lt k hk).1))

/-- A row of one's own. -/
def OwnI (w : World) (base : Nat) (v : Value) (xs : List Int) : Prop := w.ownsRow base 3 1 v xs.length (intsOf xs)
theorem OwnI.step {w w' : World} {base : Nat} {v : Value} {xs : List Int} (h : OwnI w base v xs) (hs : Step noF w w') : OwnI w' base v xs := owns_step h hs (fun _ _ x => x)
theorem OwnI.row {w : World} {base : Nat} {v : Value} {xs : List Int} (h : OwnI w base v xs) : ∃ a c, v = .slice a xs.length c ∧ xs.length ≤ c ∧ NilOk w a c ∧ RowAt w noF a (intsOf xs) := owns_row1 h

set_option maxHeartbeats 1000000 in
/-- slices.Clone. -/
theorem cloneI_any (xs : List Int) (hl : xs.length ≤ 1000000) (a : Option Addr) (c : Nat) (w : World) (h : RowAt w noF a (intsOf xs)) (hc : a = none → c = 0) :
    Calls Tryz.prog 87 #[.slice a xs.length c] w fun e w' => ∃ v, e = .returned v ∧ OwnI w' w.heap.size v xs ∧ Step noF w w' := by
  obtain ⟨i0, hi, hz0, hz1, hz2⟩ := info_intA
  cases a with
  | none =>
    obtain rfl : xs = [] := List.map_eq_nil_iff.1 (row1_none h)
    obtain rfl := hc rfl
    have hq : ∀ (w : World), (binOp .eql 23 (.slice none 0 0) (.slice none 0 0)).run Tryz.prog w = .ok (.bool true) w := fun w => Lib.run_eql_slice_nil w _ _ none 0 0 0 0 Tryz.underlying23
    rw [List.length_nil]
    go_enter Tryz.func87, Tryz.ntmps87
    go_wp2
    go_ret
    exact ⟨_, rfl, World.ownsRow_nil w _ _ _, Step.refl _ _⟩
  | some ad =>
    have hq : ∀ (w : World), (binOp .eql 23 (.slice (some ad) xs.length c) (.slice none 0 0)).run Tryz.prog w = .ok (.bool false) w := fun w => Lib.run_eql_slice_nil w _ _ (some ad) xs.length c 0 0 Tryz.underlying23
    have hn : ∀ o, ∀ j u, (intsOf xs)[j]? = some u → (w.alloc o).cell? (Addr.add ad j) = some u := fun o j u hj => cell_alloc (row1_cells h j u hj) o
    go_enter Tryz.func87, Tryz.ntmps87
    go_wp2_with (at_builtin; refine wpList_append_own _ rfl _ _ 23 rfl w.heap.size 3 i0 (.int .i64 0) 1 8 Tryz.underlying23 hi hz0 hz1 hz2 rfl (by decide) _ _ _ rfl (World.ownsRow_made w #[] 0 (Nat.le_refl _) (Nat.zero_le _) rfl) ad xs.length c (intsOf xs) rfl (by rw [ints_length, Nat.mul_one]) (hn _) (ints_one xs) (le_max (by omega)) (by omega) (by simp) ?_)
    intro v' w1 hown hgrow hnil
    go_wp2
    go_ret
    exact ⟨_, rfl, hown, Step.ofBelow (((Below.refl _ w).alloc (Nat.le_refl _) _).grown hgrow (by simp) (by intro k hk; simp [Value.ownBlock] at hk; omega))⟩

/-- append of a row, nil or not, onto a row of one's own. -/
theorem wpList_append_I {w : World} {ops : Array Oper} {rest : List Oper} {o : Oper} {a : Act} {Q : Exit → Act → World → Prop} (hgd : o.guard = none) (s x : Operand)
    (ho : o.op = .call { callee := .builtin .append, args := #[s, x], argTypes := #[23, 23] })
    (base : Nat) (v : Value) (xs : List Int) (hs : a.eval s = v) (hown : OwnI w base v xs)
    (ad : Option Addr) (c : Nat) (ys : List Int) (hx : a.eval x = .slice ad ys.length c) (hr : RowAt w noF ad (intsOf ys)) (hc : ad = none → c = 0)
    (hl : xs.length + ys.length ≤ 1000000000) (hbase : base ≤ w.heap.size)
    (h : ∀ v' w', OwnI w' base v' (xs ++ ys) → w.grownBy w' v.ownBlock → wpList Tryz.prog ops Q rest (a.put o.dst v') w') : wpList Tryz.prog ops Q (o :: rest) a w := by
  obtain ⟨i0, hi, hz0, hz1, hz2⟩ := info_intA
  cases ad with
  | none =>
    obtain rfl : ys = [] := List.map_eq_nil_iff.1 (row1_none hr)
    obtain rfl := hc rfl
    refine wpList_append_own_none hgd s x _ ho base 3 i0 1 Tryz.underlying23 hi v _ _ hs hown hx ?_
    have := h v w (by unfold OwnI; rw [List.append_nil]; exact hown) ⟨rfl, rfl, rfl, Nat.le_refl _, fun _ _ _ => rfl⟩
    exact this
  | some ad =>
    refine wpList_append_own w hgd s x _ ho base 3 i0 _ 1 8 Tryz.underlying23 hi hz0 hz1 hz2 rfl (by decide) v _ _ hs hown ad ys.length c (intsOf ys) hx (by rw [ints_length, Nat.mul_one]) (row1_cells hr) (ints_one ys) (le_max (by omega)) (by omega) hbase ?_
    intro v' w' h1 h2 h3
    refine h v' w' ?_ h2
    unfold OwnI
    rw [List.length_append, ints_append]
    exact h1

set_option maxHeartbeats 1000000 in
theorem growI_any (n : Nat) (hn : n ≤ 1000000) (w : World) :
    Calls Tryz.prog 127 #[.slice none 0 0, .int .i64 n] w fun e w' => ∃ v, e = .returned v ∧ w'.ownsRow w.heap.size 3 1 v 0 [] ∧ Step noF w w' := by
  obtain ⟨i0, hi, hz0, hz1, hz2⟩ := info_intA
  by_cases h0 : n = 0
  · subst h0
    go_enter Tryz.func127, Tryz.ntmps127
    go_wp2
    go_ret
    exact ⟨_, rfl, World.ownsRow_nil w _ _ _, Step.refl _ _⟩
  · have hpos : 0 < n := by omega
    have happ := Lib.run_append_nil_zeros (P := Tryz.prog) w 23 3 23 3 i0 (.int .i64 0) .i64 .i64 Tryz.underlying23 Tryz.underlying3 hi hz0 n hpos (by omega) (by omega) (by rw [hz2]; omega)
    have hcg := grownCap_ge w n 0 3
    have hcm := grownCap_le_maxLen w n 0 3 (by unfold maxLen; omega)
    generalize grownCap w n 0 3 = cap at happ hcg hcm
    have hzs : (Builtin.zeroCells (Value.cells (.int .i64 0)) n ++ Builtin.zeroCells (Value.cells (.int .i64 0)) (cap - n)).size = cap * 1 := by
      rw [Array.size_append, size_zeroCells, size_zeroCells]
      simp [Value.cells]
      omega
    generalize Builtin.zeroCells (Value.cells (.int .i64 0)) n ++ Builtin.zeroCells (Value.cells (.int .i64 0)) (cap - n) = Z at happ hzs
    have HZ := hid hzs
    have HC := hid hcm
    have hz1' : (0 : Int) < (n : Int) := by omega
    clear hzs hcm hpos h0
    go_enter Tryz.func127, Tryz.ntmps127
    go_wp2_with (at_builtin; refine Lib.wpList_append_run _ rfl _ _ _ _ rfl _ _ rfl rfl _ _ happ ?_)
    go_wp2
    go_ret
    exact ⟨_, rfl, ⟨rfl, .inr ⟨w.heap.size, cap, Z, rfl, Nat.le_refl _, block_alloc_new _ _, Nat.zero_le _, HC.out, HZ.out, by simp⟩⟩, ((Step.refl noF w).drew).alloc _⟩

set_option maxHeartbeats 2000000 in
/-- slices.Concat of 2. -/
theorem concatI2_any (g : Nat) (xs ys : List Int) (hl : xs.length + ys.length ≤ 1000000) (a0 a1 : Option Addr) (c0 c1 cg : Nat) (w : World)
    (hg0 : w.cell? ⟨g, 0, none⟩ = some (.slice a0 xs.length c0))
    (hg1 : w.cell? ⟨g, 1, none⟩ = some (.slice a1 ys.length c1))
    (h0 : RowAt w noF a0 (intsOf xs)) (hc0 : a0 = none → c0 = 0)
    (h1 : RowAt w noF a1 (intsOf ys)) (hc1 : a1 = none → c1 = 0)
    : Calls Tryz.prog 81 #[.slice (some ⟨g, 0, none⟩) 2 cg] w fun e w' => ∃ v, e = .returned v ∧ OwnI w' w.heap.size v (xs ++ ys) ∧ Step noF w w' := by
  have H0 := hid h0
  have HC0 := hid hc0
  have H1 := hid h1
  have HC1 := hid hc1
  obtain ⟨m0, hm0⟩ : ∃ m, xs.length = m := ⟨_, rfl⟩
  obtain ⟨l1, hl1⟩ : ∃ m, ys.length = m := ⟨_, rfl⟩
  obtain ⟨m1, hm1⟩ : ∃ m, m0 + l1 = m := ⟨_, rfl⟩
  have en1 : (m0 : Int) + (l1 : Int) = (m1 : Int) := by omega
  have rn0 : IntKind.i64.wrap (m0 : Int) = (m0 : Int) := by rw [IntKind.wrap_i64]; omega
  have qn0 : ¬ (m0 : Int) < 0 := by omega
  have qp0 : (0 : Int) ≤ (m0 : Int) := by omega
  have rn1 : IntKind.i64.wrap (m1 : Int) = (m1 : Int) := by rw [IntKind.wrap_i64]; omega
  have qn1 : ¬ (m1 : Int) < 0 := by omega
  have qp1 : (0 : Int) ≤ (m1 : Int) := by omega
  have hnn : m1 ≤ 1000000 := by omega
  have hgl : g < w.heap.size := World.block_lt_of_cell? w _ hg0
  rw [hm0] at hg0
  have E0 := hid hm0
  rw [hl1] at hg1
  have E1 := hid hl1
  have M1 := hid hm1
  clear hl hm0 hm1 hl1 h0 hc0 h1 hc1
  have HG0 := hid hg0
  have HG1 := hid hg1
  go_enter Tryz.func81, Tryz.ntmps81
  go_wp2
  refine wp_loop_rounds 3 ?_
  rw [rounds_succ]
  go_wp2
  rw [rounds_succ]
  go_wp2
  rw [rounds_succ]
  go_wp2_with (go_at_call 127; refine (growI_any m1 hnn _).mono ?_; rintro e w2 ⟨v, rfl, o2, s2⟩)
  have O0 := hid o2
  have S0 := hid s2
  have G0 := hid (s2.after hg0)
  have G1 := hid (s2.after hg1)
  have k0 := G0.out
  clear o2 s2 hg0 hg1
  refine wp_loop_rounds 3 ?_
  rw [rounds_succ]
  go_wp2_with (at_builtin; refine wpList_append_I rfl _ _ rfl w.heap.size _ ([]) rfl O0.out a0 c0 xs (by rw [E0.out]; rfl) (rowAt_step H0.out S0.out (fun _ _ h => h)) HC0.out (by have e0 := E0.out; have e1 := E1.out; have f1 := M1.out; simp; omega) S0.out.size ?_)
  intro v3 w3 o3 g3
  have O1 := hid o3
  have S1 := hid (grown1_step S0.out O0.out (Nat.le_refl _) g3)
  have k1 := S1.out.after (show w.cell? ⟨g, 1, none⟩ = some (.slice a1 l1 c1) from HG1.out)
  clear o3 g3 k0
  go_wp2
  rw [rounds_succ]
  go_wp2_with (at_builtin; refine wpList_append_I rfl _ _ rfl w.heap.size _ (xs) rfl O1.out a1 c1 ys (by rw [E1.out]; rfl) (rowAt_step H1.out S1.out (fun _ _ h => h)) HC1.out (by have e0 := E0.out; have e1 := E1.out; have f1 := M1.out; simp; omega) S1.out.size ?_)
  intro v4 w4 o4 g4
  have O2 := hid o4
  have S2 := hid (grown1_step S1.out O1.out (Nat.le_refl _) g4)
  clear o4 g4 k1
  go_wp2
  rw [rounds_succ]
  go_wp2
  go_ret
  exact ⟨_, rfl, O2.out, S2.out⟩

set_option maxHeartbeats 2000000 in
/-- slices.Concat of 3. -/
theorem concatI3_any (g : Nat) (xs ys zs : List Int) (hl : xs.length + ys.length + zs.length ≤ 1000000) (a0 a1 a2 : Option Addr) (c0 c1 c2 cg : Nat) (w : World)
    (hg0 : w.cell? ⟨g, 0, none⟩ = some (.slice a0 xs.length c0))
    (hg1 : w.cell? ⟨g, 1, none⟩ = some (.slice a1 ys.length c1))
    (hg2 : w.cell? ⟨g, 2, none⟩ = some (.slice a2 zs.length c2))
    (h0 : RowAt w noF a0 (intsOf xs)) (hc0 : a0 = none → c0 = 0)
    (h1 : RowAt w noF a1 (intsOf ys)) (hc1 : a1 = none → c1 = 0)
    (h2 : RowAt w noF a2 (intsOf zs)) (hc2 : a2 = none → c2 = 0)
    : Calls Tryz.prog 81 #[.slice (some ⟨g, 0, none⟩) 3 cg] w fun e w' => ∃ v, e = .returned v ∧ OwnI w' w.heap.size v (xs ++ (ys ++ zs)) ∧ Step noF w w' := by
  have H0 := hid h0
  have HC0 := hid hc0
  have H1 := hid h1
  have HC1 := hid hc1
  have H2 := hid h2
  have HC2 := hid hc2
  obtain ⟨m0, hm0⟩ : ∃ m, xs.length = m := ⟨_, rfl⟩
  obtain ⟨l1, hl1⟩ : ∃ m, ys.length = m := ⟨_, rfl⟩
  obtain ⟨m1, hm1⟩ : ∃ m, m0 + l1 = m := ⟨_, rfl⟩
  obtain ⟨l2, hl2⟩ : ∃ m, zs.length = m := ⟨_, rfl⟩
  obtain ⟨m2, hm2⟩ : ∃ m, m1 + l2 = m := ⟨_, rfl⟩
  have en1 : (m0 : Int) + (l1 : Int) = (m1 : Int) := by omega
  have en2 : (m1 : Int) + (l2 : Int) = (m2 : Int) := by omega
  have rn0 : IntKind.i64.wrap (m0 : Int) = (m0 : Int) := by rw [IntKind.wrap_i64]; omega
  have qn0 : ¬ (m0 : Int) < 0 := by omega
  have qp0 : (0 : Int) ≤ (m0 : Int) := by omega
  have rn1 : IntKind.i64.wrap (m1 : Int) = (m1 : Int) := by rw [IntKind.wrap_i64]; omega
  have qn1 : ¬ (m1 : Int) < 0 := by omega
  have qp1 : (0 : Int) ≤ (m1 : Int) := by omega
  have rn2 : IntKind.i64.wrap (m2 : Int) = (m2 : Int) := by rw [IntKind.wrap_i64]; omega
  have qn2 : ¬ (m2 : Int) < 0 := by omega
  have qp2 : (0 : Int) ≤ (m2 : Int) := by omega
  have hnn : m2 ≤ 1000000 := by omega
  have hgl : g < w.heap.size := World.block_lt_of_cell? w _ hg0
  rw [hm0] at hg0
  have E0 := hid hm0
  rw [hl1] at hg1
  have E1 := hid hl1
  rw [hl2] at hg2
  have E2 := hid hl2
  have M1 := hid hm1
  have M2 := hid hm2
  clear hl hm0 hm1 hl1 hm2 hl2 h0 hc0 h1 hc1 h2 hc2
  have HG0 := hid hg0
  have HG1 := hid hg1
  have HG2 := hid hg2
  go_enter Tryz.func81, Tryz.ntmps81
  go_wp2
  refine wp_loop_rounds 4 ?_
  rw [rounds_succ]
  go_wp2
  rw [rounds_succ]
  go_wp2
  rw [rounds_succ]
  go_wp2
  rw [rounds_succ]
  go_wp2_with (go_at_call 127; refine (growI_any m2 hnn _).mono ?_; rintro e w2 ⟨v, rfl, o2, s2⟩)
  have O0 := hid o2
  have S0 := hid s2
  have G0 := hid (s2.after hg0)
  have G1 := hid (s2.after hg1)
  have G2 := hid (s2.after hg2)
  have k0 := G0.out
  clear o2 s2 hg0 hg1 hg2
  refine wp_loop_rounds 4 ?_
  rw [rounds_succ]
  go_wp2_with (at_builtin; refine wpList_append_I rfl _ _ rfl w.heap.size _ ([]) rfl O0.out a0 c0 xs (by rw [E0.out]; rfl) (rowAt_step H0.out S0.out (fun _ _ h => h)) HC0.out (by have e0 := E0.out; have e1 := E1.out; have e2 := E2.out; have f1 := M1.out; have f2 := M2.out; simp; omega) S0.out.size ?_)
  intro v3 w3 o3 g3
  have O1 := hid o3
  have S1 := hid (grown1_step S0.out O0.out (Nat.le_refl _) g3)
  have k1 := S1.out.after (show w.cell? ⟨g, 1, none⟩ = some (.slice a1 l1 c1) from HG1.out)
  clear o3 g3 k0
  go_wp2
  rw [rounds_succ]
  go_wp2_with (at_builtin; refine wpList_append_I rfl _ _ rfl w.heap.size _ (xs) rfl O1.out a1 c1 ys (by rw [E1.out]; rfl) (rowAt_step H1.out S1.out (fun _ _ h => h)) HC1.out (by have e0 := E0.out; have e1 := E1.out; have e2 := E2.out; have f1 := M1.out; have f2 := M2.out; simp; omega) S1.out.size ?_)
  intro v4 w4 o4 g4
  have O2 := hid o4
  have S2 := hid (grown1_step S1.out O1.out (Nat.le_refl _) g4)
  have k2 := S2.out.after (show w.cell? ⟨g, 2, none⟩ = some (.slice a2 l2 c2) from HG2.out)
  clear o4 g4 k1
  go_wp2
  rw [rounds_succ]
  go_wp2_with (at_builtin; refine wpList_append_I rfl _ _ rfl w.heap.size _ (xs ++ ys) rfl O2.out a2 c2 zs (by rw [E2.out]; rfl) (rowAt_step H2.out S2.out (fun _ _ h => h)) HC2.out (by have e0 := E0.out; have e1 := E1.out; have e2 := E2.out; have f1 := M1.out; have f2 := M2.out; simp; omega) S2.out.size ?_)
  intro v5 w5 o5 g5
  have O3 := hid o5
  have S3 := hid (grown1_step S2.out O2.out (Nat.le_refl _) g5)
  clear o5 g5 k2
  go_wp2
  rw [rounds_succ]
  go_wp2
  go_ret
  exact ⟨_, rfl, O3.out, S3.out⟩

/-- Whether two rows are the same. -/
def sameI (xs ys : List Int) : Bool := decide (xs = ys)
theorem sameI_iff (xs ys : List Int) : sameI xs ys = true ↔ xs = ys := by unfold sameI; rw [decide_eq_true_eq]
theorem sameI_not {xs ys : List Int} (h : xs ≠ ys) : sameI xs ys = false := by unfold sameI; rw [decide_eq_false_iff_not]; exact h
set_option maxHeartbeats 1000000 in
/-- slices.Equal. -/
theorem equalI_any (xs ys : List Int) (hl : xs.length ≤ 1000000 ∧ ys.length ≤ 1000000) (a1 a2 : Option Addr) (c1 c2 : Nat) (w : World) (h1 : RowAt w noF a1 (intsOf xs)) (h2 : RowAt w noF a2 (intsOf ys)) :
    Calls Tryz.prog 83 #[.slice a1 xs.length c1, .slice a2 ys.length c2] w fun e w' => e = .returned (.bool (sameI xs ys)) ∧ Step noF w w' := by
  have hE := same_str
  have H1 := hid h1
  have H2 := hid h2
  obtain ⟨hl1, hl2⟩ := hl
  clear h1 h2
  obtain ⟨D, hD⟩ : ∃ D, sameI xs ys = D := ⟨_, rfl⟩
  rw [hD]
  have HD := hid hD
  clear hD
  by_cases hlen : xs.length = ys.length
  · have HL := hid hlen
    rw [← hlen]
    clear hlen
    go_enter Tryz.func83, Tryz.ntmps83
    go_wp2_with fail
    go_loopw [13] (fun i wr => ∃ (j : Nat), j ≤ xs.length ∧ i = .int .i64 j ∧ Hid (xs.take j = ys.take j) ∧ Step noF w wr) (fun i _ => xs.length - (intOf i).toNat)
    case atStart => exact ⟨0, Nat.zero_le _, rfl, (by show _ = _; rfl), Step.refl _ _⟩
    case round =>
      obtain ⟨j, hj, rfl, HT, st⟩ := hrel
      have ST := hid st
      clear st
      by_cases hjl : j < xs.length
      · have hjy : j < ys.length := by have := HL.out; omega
        have hjz : (j : Int) < (xs.length : Int) := by omega
        obtain ⟨g, off, rfl, p0⟩ := ints_get (rowAt_step H1.out ST.out (fun _ _ h => h)) j hjl
        obtain ⟨g2, off2, rfl, r0⟩ := ints_get (rowAt_step H2.out ST.out (fun _ _ h => h)) j hjy
        have HN : Hid (xs.take (j + 1) = ys.take (j + 1) ↔ xs[j] = ys[j]) := by
          show _ ↔ _
          rw [List.take_succ_eq_append_getElem hjl, List.take_succ_eq_append_getElem hjy, HT.out, List.append_cancel_left_eq, List.cons.injEq]
          simp only [and_true]
        have HNE : Hid (xs[j] ≠ ys[j] → xs ≠ ys) := fun h e => h (by simp [e])
        obtain ⟨x0, hx⟩ : ∃ m, xs[j] = m := ⟨_, rfl⟩
        obtain ⟨y0, hy⟩ : ∃ m, ys[j] = m := ⟨_, rfl⟩
        rw [hx] at p0 HN HNE
        rw [hy] at r0 HN HNE
        clear hx hy
        by_cases e0 : x0 = y0
        · subst e0
          go_wp2_with fail
          go_quiet (fail)
          go_wp2_with fail
          go_roundw
          case rel => exact ⟨j + 1, by omega, int_eq (by omega), (by show _ = _; first | exact HN.out.2 rfl | exact HN.out.2 trivial), ST.out.drewN _⟩
          case measure => simp [intOf]; omega
        · have eb0 : (x0 == y0) = false := by rw [beq_eq_false_iff_ne]; exact e0
          go_wp2_with fail
          go_quiet (fail)
          go_wp2_with fail
          go_ret
          exact ⟨ret_bool (by rw [← HD.out, sameI_not (HNE.out (fun e => e0 (by first | exact e | injection e)))]), ST.out.drewN _⟩
      · obtain rfl : j = xs.length := by omega
        go_wp2_with fail
        go_ret
        refine ⟨ret_bool ?_, ST.out⟩
        have := HT.out
        rw [List.take_of_length_le (Nat.le_refl _), HL.out, List.take_of_length_le (Nat.le_refl _)] at this
        rw [← HD.out, (sameI_iff _ _).2 this]
  · have hz : ¬ (xs.length : Int) = (ys.length : Int) := by omega
    have hz2 : ((xs.length : Int) == (ys.length : Int)) = false := by rw [beq_eq_false_iff_ne]; exact hz
    have HNE : Hid (D = false) := by show _ = _; rw [← HD.out]; exact sameI_not (fun e => hlen (by rw [e]))
    go_enter Tryz.func83, Tryz.ntmps83
    go_wp2_with fail
    go_ret
    exact ⟨ret_bool (by rw [HNE.out]), Step.refl _ _⟩

/-- A row of one's own. -/
def OwnT (w : World) (base : Nat) (v : Value) (xs : List (List UInt8)) : Prop := w.ownsRow base 9 1 v xs.length (texts xs)
theorem OwnT.step {w w' : World} {base : Nat} {v : Value} {xs : List (List UInt8)} (h : OwnT w base v xs) (hs : Step noF w w') : OwnT w' base v xs := owns_step h hs (fun _ _ x => x)
theorem OwnT.row {w : World} {base : Nat} {v : Value} {xs : List (List UInt8)} (h : OwnT w base v xs) : ∃ a c, v = .slice a xs.length c ∧ xs.length ≤ c ∧ NilOk w a c ∧ RowAt w noF a (texts xs) := owns_row1 h

set_option maxHeartbeats 1000000 in
/-- slices.Clone. -/
theorem cloneT_any (xs : List (List UInt8)) (hl : xs.length ≤ 1000000) (a : Option Addr) (c : Nat) (w : World) (h : RowAt w noF a (texts xs)) (hc : a = none → c = 0) :
    Calls Tryz.prog 88 #[.slice a xs.length c] w fun e w' => ∃ v, e = .returned v ∧ OwnT w' w.heap.size v xs ∧ Step noF w w' := by
  obtain ⟨i0, hi, hz0, hz1, hz2⟩ := info_strA
  cases a with
  | none =>
    obtain rfl : xs = [] := List.map_eq_nil_iff.1 (row1_none h)
    obtain rfl := hc rfl
    have hq : ∀ (w : World), (binOp .eql 24 (.slice none 0 0) (.slice none 0 0)).run Tryz.prog w = .ok (.bool true) w := fun w => Lib.run_eql_slice_nil w _ _ none 0 0 0 0 Tryz.underlying24
    rw [List.length_nil]
    go_enter Tryz.func88, Tryz.ntmps88
    go_wp2
    go_ret
    exact ⟨_, rfl, World.ownsRow_nil w _ _ _, Step.refl _ _⟩
  | some ad =>
    have hq : ∀ (w : World), (binOp .eql 24 (.slice (some ad) xs.length c) (.slice none 0 0)).run Tryz.prog w = .ok (.bool false) w := fun w => Lib.run_eql_slice_nil w _ _ (some ad) xs.length c 0 0 Tryz.underlying24
    have hn : ∀ o, ∀ j u, (texts xs)[j]? = some u → (w.alloc o).cell? (Addr.add ad j) = some u := fun o j u hj => cell_alloc (row1_cells h j u hj) o
    go_enter Tryz.func88, Tryz.ntmps88
    go_wp2_with (at_builtin; refine wpList_append_own _ rfl _ _ 24 rfl w.heap.size 9 i0 (.string (str [])) 1 16 Tryz.underlying24 hi hz0 hz1 hz2 rfl (by decide) _ _ _ rfl (World.ownsRow_made w #[] 0 (Nat.le_refl _) (Nat.zero_le _) rfl) ad xs.length c (texts xs) rfl (by rw [texts_length, Nat.mul_one]) (hn _) (texts_one xs) (le_max (by omega)) (by omega) (by simp) ?_)
    intro v' w1 hown hgrow hnil
    go_wp2
    go_ret
    exact ⟨_, rfl, hown, Step.ofBelow (((Below.refl _ w).alloc (Nat.le_refl _) _).grown hgrow (by simp) (by intro k hk; simp [Value.ownBlock] at hk; omega))⟩

/-- append of a row, nil or not, onto a row of one's own. -/
theorem wpList_append_T {w : World} {ops : Array Oper} {rest : List Oper} {o : Oper} {a : Act} {Q : Exit → Act → World → Prop} (hgd : o.guard = none) (s x : Operand)
    (ho : o.op = .call { callee := .builtin .append, args := #[s, x], argTypes := #[24, 24] })
    (base : Nat) (v : Value) (xs : List (List UInt8)) (hs : a.eval s = v) (hown : OwnT w base v xs)
    (ad : Option Addr) (c : Nat) (ys : List (List UInt8)) (hx : a.eval x = .slice ad ys.length c) (hr : RowAt w noF ad (texts ys)) (hc : ad = none → c = 0)
    (hl : xs.length + ys.length ≤ 1000000000) (hbase : base ≤ w.heap.size)
    (h : ∀ v' w', OwnT w' base v' (xs ++ ys) → w.grownBy w' v.ownBlock → wpList Tryz.prog ops Q rest (a.put o.dst v') w') : wpList Tryz.prog ops Q (o :: rest) a w := by
  obtain ⟨i0, hi, hz0, hz1, hz2⟩ := info_strA
  cases ad with
  | none =>
    obtain rfl : ys = [] := List.map_eq_nil_iff.1 (row1_none hr)
    obtain rfl := hc rfl
    refine wpList_append_own_none hgd s x _ ho base 9 i0 1 Tryz.underlying24 hi v _ _ hs hown hx ?_
    have := h v w (by unfold OwnT; rw [List.append_nil]; exact hown) ⟨rfl, rfl, rfl, Nat.le_refl _, fun _ _ _ => rfl⟩
    exact this
  | some ad =>
    refine wpList_append_own w hgd s x _ ho base 9 i0 _ 1 16 Tryz.underlying24 hi hz0 hz1 hz2 rfl (by decide) v _ _ hs hown ad ys.length c (texts ys) hx (by rw [texts_length, Nat.mul_one]) (row1_cells hr) (texts_one ys) (le_max (by omega)) (by omega) hbase ?_
    intro v' w' h1 h2 h3
    refine h v' w' ?_ h2
    unfold OwnT
    rw [List.length_append, texts_append]
    exact h1

set_option maxHeartbeats 1000000 in
theorem growT_any (n : Nat) (hn : n ≤ 1000000) (w : World) :
    Calls Tryz.prog 128 #[.slice none 0 0, .int .i64 n] w fun e w' => ∃ v, e = .returned v ∧ w'.ownsRow w.heap.size 9 1 v 0 [] ∧ Step noF w w' := by
  obtain ⟨i0, hi, hz0, hz1, hz2⟩ := info_strA
  by_cases h0 : n = 0
  · subst h0
    go_enter Tryz.func128, Tryz.ntmps128
    go_wp2
    go_ret
    exact ⟨_, rfl, World.ownsRow_nil w _ _ _, Step.refl _ _⟩
  · have hpos : 0 < n := by omega
    have happ := Lib.run_append_nil_zeros (P := Tryz.prog) w 24 3 24 9 i0 (.string (str [])) .i64 .i64 Tryz.underlying24 Tryz.underlying3 hi hz0 n hpos (by omega) (by omega) (by rw [hz2]; omega)
    have hcg := grownCap_ge w n 0 9
    have hcm := grownCap_le_maxLen w n 0 9 (by unfold maxLen; omega)
    generalize grownCap w n 0 9 = cap at happ hcg hcm
    have hzs : (Builtin.zeroCells (Value.cells (.string (str []))) n ++ Builtin.zeroCells (Value.cells (.string (str []))) (cap - n)).size = cap * 1 := by
      rw [Array.size_append, size_zeroCells, size_zeroCells]
      simp [Value.cells]
      omega
    generalize Builtin.zeroCells (Value.cells (.string (str []))) n ++ Builtin.zeroCells (Value.cells (.string (str []))) (cap - n) = Z at happ hzs
    have HZ := hid hzs
    have HC := hid hcm
    have hz1' : (0 : Int) < (n : Int) := by omega
    clear hzs hcm hpos h0
    go_enter Tryz.func128, Tryz.ntmps128
    go_wp2_with (at_builtin; refine Lib.wpList_append_run _ rfl _ _ _ _ rfl _ _ rfl rfl _ _ happ ?_)
    go_wp2
    go_ret
    exact ⟨_, rfl, ⟨rfl, .inr ⟨w.heap.size, cap, Z, rfl, Nat.le_refl _, block_alloc_new _ _, Nat.zero_le _, HC.out, HZ.out, by simp⟩⟩, ((Step.refl noF w).drew).alloc _⟩

set_option maxHeartbeats 2000000 in
/-- slices.Concat of 2. -/
theorem concatT2_any (g : Nat) (xs ys : List (List UInt8)) (hl : xs.length + ys.length ≤ 1000000) (a0 a1 : Option Addr) (c0 c1 cg : Nat) (w : World)
    (hg0 : w.cell? ⟨g, 0, none⟩ = some (.slice a0 xs.length c0))
    (hg1 : w.cell? ⟨g, 1, none⟩ = some (.slice a1 ys.length c1))
    (h0 : RowAt w noF a0 (texts xs)) (hc0 : a0 = none → c0 = 0)
    (h1 : RowAt w noF a1 (texts ys)) (hc1 : a1 = none → c1 = 0)
    : Calls Tryz.prog 82 #[.slice (some ⟨g, 0, none⟩) 2 cg] w fun e w' => ∃ v, e = .returned v ∧ OwnT w' w.heap.size v (xs ++ ys) ∧ Step noF w w' := by
  have H0 := hid h0
  have HC0 := hid hc0
  have H1 := hid h1
  have HC1 := hid hc1
  obtain ⟨m0, hm0⟩ : ∃ m, xs.length = m := ⟨_, rfl⟩
  obtain ⟨l1, hl1⟩ : ∃ m, ys.length = m := ⟨_, rfl⟩
  obtain ⟨m1, hm1⟩ : ∃ m, m0 + l1 = m := ⟨_, rfl⟩
  have en1 : (m0 : Int) + (l1 : Int) = (m1 : Int) := by omega
  have rn0 : IntKind.i64.wrap (m0 : Int) = (m0 : Int) := by rw [IntKind.wrap_i64]; omega
  have qn0 : ¬ (m0 : Int) < 0 := by omega
  have qp0 : (0 : Int) ≤ (m0 : Int) := by omega
  have rn1 : IntKind.i64.wrap (m1 : Int) = (m1 : Int) := by rw [IntKind.wrap_i64]; omega
  have qn1 : ¬ (m1 : Int) < 0 := by omega
  have qp1 : (0 : Int) ≤ (m1 : Int) := by omega
  have hnn : m1 ≤ 1000000 := by omega
  have hgl : g < w.heap.size := World.block_lt_of_cell? w _ hg0
  rw [hm0] at hg0
  have E0 := hid hm0
  rw [hl1] at hg1
  have E1 := hid hl1
  have M1 := hid hm1
  clear hl hm0 hm1 hl1 h0 hc0 h1 hc1
  have HG0 := hid hg0
  have HG1 := hid hg1
  go_enter Tryz.func82, Tryz.ntmps82
  go_wp2
  refine wp_loop_rounds 3 ?_
  rw [rounds_succ]
  go_wp2
  rw [rounds_succ]
  go_wp2
  rw [rounds_succ]
  go_wp2_with (go_at_call 128; refine (growT_any m1 hnn _).mono ?_; rintro e w2 ⟨v, rfl, o2, s2⟩)
  have O0 := hid o2
  have S0 := hid s2
  have G0 := hid (s2.after hg0)
  have G1 := hid (s2.after hg1)
  have k0 := G0.out
  clear o2 s2 hg0 hg1
  refine wp_loop_rounds 3 ?_
  rw [rounds_succ]
  go_wp2_with (at_builtin; refine wpList_append_T rfl _ _ rfl w.heap.size _ ([]) rfl O0.out a0 c0 xs (by rw [E0.out]; rfl) (rowAt_step H0.out S0.out (fun _ _ h => h)) HC0.out (by have e0 := E0.out; have e1 := E1.out; have f1 := M1.out; simp; omega) S0.out.size ?_)
  intro v3 w3 o3 g3
  have O1 := hid o3
  have S1 := hid (grown1_step S0.out O0.out (Nat.le_refl _) g3)
  have k1 := S1.out.after (show w.cell? ⟨g, 1, none⟩ = some (.slice a1 l1 c1) from HG1.out)
  clear o3 g3 k0
  go_wp2
  rw [rounds_succ]
  go_wp2_with (at_builtin; refine wpList_append_T rfl _ _ rfl w.heap.size _ (xs) rfl O1.out a1 c1 ys (by rw [E1.out]; rfl) (rowAt_step H1.out S1.out (fun _ _ h => h)) HC1.out (by have e0 := E0.out; have e1 := E1.out; have f1 := M1.out; simp; omega) S1.out.size ?_)
  intro v4 w4 o4 g4
  have O2 := hid o4
  have S2 := hid (grown1_step S1.out O1.out (Nat.le_refl _) g4)
  clear o4 g4 k1
  go_wp2
  rw [rounds_succ]
  go_wp2
  go_ret
  exact ⟨_, rfl, O2.out, S2.out⟩

set_option maxHeartbeats 2000000 in
/-- slices.Concat of 3. -/
theorem concatT3_any (g : Nat) (xs ys zs : List (List UInt8)) (hl : xs.length + ys.length + zs.length ≤ 1000000) (a0 a1 a2 : Option Addr) (c0 c1 c2 cg : Nat) (w : World)
    (hg0 : w.cell? ⟨g, 0, none⟩ = some (.slice a0 xs.length c0))
    (hg1 : w.cell? ⟨g, 1, none⟩ = some (.slice a1 ys.length c1))
    (hg2 : w.cell? ⟨g, 2, none⟩ = some (.slice a2 zs.length c2))
    (h0 : RowAt w noF a0 (texts xs)) (hc0 : a0 = none → c0 = 0)
    (h1 : RowAt w noF a1 (texts ys)) (hc1 : a1 = none → c1 = 0)
    (h2 : RowAt w noF a2 (texts zs)) (hc2 : a2 = none → c2 = 0)
    : Calls Tryz.prog 82 #[.slice (some ⟨g, 0, none⟩) 3 cg] w fun e w' => ∃ v, e = .returned v ∧ OwnT w' w.heap.size v (xs ++ (ys ++ zs)) ∧ Step noF w w' := by
  have H0 := hid h0
  have HC0 := hid hc0
  have H1 := hid h1
  have HC1 := hid hc1
  have H2 := hid h2
  have HC2 := hid hc2
  obtain ⟨m0, hm0⟩ : ∃ m, xs.length = m := ⟨_, rfl⟩
  obtain ⟨l1, hl1⟩ : ∃ m, ys.length = m := ⟨_, rfl⟩
  obtain ⟨m1, hm1⟩ : ∃ m, m0 + l1 = m := ⟨_, rfl⟩
  obtain ⟨l2, hl2⟩ : ∃ m, zs.length = m := ⟨_, rfl⟩
  obtain ⟨m2, hm2⟩ : ∃ m, m1 + l2 = m := ⟨_, rfl⟩
  have en1 : (m0 : Int) + (l1 : Int) = (m1 : Int) := by omega
  have en2 : (m1 : Int) + (l2 : Int) = (m2 : Int) := by omega
  have rn0 : IntKind.i64.wrap (m0 : Int) = (m0 : Int) := by rw [IntKind.wrap_i64]; omega
  have qn0 : ¬ (m0 : Int) < 0 := by omega
  have qp0 : (0 : Int) ≤ (m0 : Int) := by omega
  have rn1 : IntKind.i64.wrap (m1 : Int) = (m1 : Int) := by rw [IntKind.wrap_i64]; omega
  have qn1 : ¬ (m1 : Int) < 0 := by omega
  have qp1 : (0 : Int) ≤ (m1 : Int) := by omega
  have rn2 : IntKind.i64.wrap (m2 : Int) = (m2 : Int) := by rw [IntKind.wrap_i64]; omega
  have qn2 : ¬ (m2 : Int) < 0 := by omega
  have qp2 : (0 : Int) ≤ (m2 : Int) := by omega
  have hnn : m2 ≤ 1000000 := by omega
  have hgl : g < w.heap.size := World.block_lt_of_cell? w _ hg0
  rw [hm0] at hg0
  have E0 := hid hm0
  rw [hl1] at hg1
  have E1 := hid hl1
  rw [hl2] at hg2
  have E2 := hid hl2
  have M1 := hid hm1
  have M2 := hid hm2
  clear hl hm0 hm1 hl1 hm2 hl2 h0 hc0 h1 hc1 h2 hc2
  have HG0 := hid hg0
  have HG1 := hid hg1
  have HG2 := hid hg2
  go_enter Tryz.func82, Tryz.ntmps82
  go_wp2
  refine wp_loop_rounds 4 ?_
  rw [rounds_succ]
  go_wp2
  rw [rounds_succ]
  go_wp2
  rw [rounds_succ]
  go_wp2
  rw [rounds_succ]
  go_wp2_with (go_at_call 128; refine (growT_any m2 hnn _).mono ?_; rintro e w2 ⟨v, rfl, o2, s2⟩)
  have O0 := hid o2
  have S0 := hid s2
  have G0 := hid (s2.after hg0)
  have G1 := hid (s2.after hg1)
  have G2 := hid (s2.after hg2)
  have k0 := G0.out
  clear o2 s2 hg0 hg1 hg2
  refine wp_loop_rounds 4 ?_
  rw [rounds_succ]
  go_wp2_with (at_builtin; refine wpList_append_T rfl _ _ rfl w.heap.size _ ([]) rfl O0.out a0 c0 xs (by rw [E0.out]; rfl) (rowAt_step H0.out S0.out (fun _ _ h => h)) HC0.out (by have e0 := E0.out; have e1 := E1.out; have e2 := E2.out; have f1 := M1.out; have f2 := M2.out; simp; omega) S0.out.size ?_)
  intro v3 w3 o3 g3
  have O1 := hid o3
  have S1 := hid (grown1_step S0.out O0.out (Nat.le_refl _) g3)
  have k1 := S1.out.after (show w.cell? ⟨g, 1, none⟩ = some (.slice a1 l1 c1) from HG1.out)
  clear o3 g3 k0
  go_wp2
  rw [rounds_succ]
  go_wp2_with (at_builtin; refine wpList_append_T rfl _ _ rfl w.heap.size _ (xs) rfl O1.out a1 c1 ys (by rw [E1.out]; rfl) (rowAt_step H1.out S1.out (fun _ _ h => h)) HC1.out (by have e0 := E0.out; have e1 := E1.out; have e2 := E2.out; have f1 := M1.out; have f2 := M2.out; simp; omega) S1.out.size ?_)
  intro v4 w4 o4 g4
  have O2 := hid o4
  have S2 := hid (grown1_step S1.out O1.out (Nat.le_refl _) g4)
  have k2 := S2.out.after (show w.cell? ⟨g, 2, none⟩ = some (.slice a2 l2 c2) from HG2.out)
  clear o4 g4 k1
  go_wp2
  rw [rounds_succ]
  go_wp2_with (at_builtin; refine wpList_append_T rfl _ _ rfl w.heap.size _ (xs ++ ys) rfl O2.out a2 c2 zs (by rw [E2.out]; rfl) (rowAt_step H2.out S2.out (fun _ _ h => h)) HC2.out (by have e0 := E0.out; have e1 := E1.out; have e2 := E2.out; have f1 := M1.out; have f2 := M2.out; simp; omega) S2.out.size ?_)
  intro v5 w5 o5 g5
  have O3 := hid o5
  have S3 := hid (grown1_step S2.out O2.out (Nat.le_refl _) g5)
  clear o5 g5 k2
  go_wp2
  rw [rounds_succ]
  go_wp2
  go_ret
  exact ⟨_, rfl, O3.out, S3.out⟩

/-- Whether two rows are the same. -/
def sameT (xs ys : List (List UInt8)) : Bool := decide (xs = ys)
theorem sameT_iff (xs ys : List (List UInt8)) : sameT xs ys = true ↔ xs = ys := by unfold sameT; rw [decide_eq_true_eq]
theorem sameT_not {xs ys : List (List UInt8)} (h : xs ≠ ys) : sameT xs ys = false := by unfold sameT; rw [decide_eq_false_iff_not]; exact h
set_option maxHeartbeats 1000000 in
/-- slices.Equal. -/
theorem equalT_any (xs ys : List (List UInt8)) (hl : xs.length ≤ 1000000 ∧ ys.length ≤ 1000000) (a1 a2 : Option Addr) (c1 c2 : Nat) (w : World) (h1 : RowAt w noF a1 (texts xs)) (h2 : RowAt w noF a2 (texts ys)) :
    Calls Tryz.prog 84 #[.slice a1 xs.length c1, .slice a2 ys.length c2] w fun e w' => e = .returned (.bool (sameT xs ys)) ∧ Step noF w w' := by
  have hE := same_str
  have H1 := hid h1
  have H2 := hid h2
  obtain ⟨hl1, hl2⟩ := hl
  clear h1 h2
  obtain ⟨D, hD⟩ : ∃ D, sameT xs ys = D := ⟨_, rfl⟩
  rw [hD]
  have HD := hid hD
  clear hD
  by_cases hlen : xs.length = ys.length
  · have HL := hid hlen
    rw [← hlen]
    clear hlen
    go_enter Tryz.func84, Tryz.ntmps84
    go_wp2_with fail
    go_loopw [13] (fun i wr => ∃ (j : Nat), j ≤ xs.length ∧ i = .int .i64 j ∧ Hid (xs.take j = ys.take j) ∧ Step noF w wr) (fun i _ => xs.length - (intOf i).toNat)
    case atStart => exact ⟨0, Nat.zero_le _, rfl, (by show _ = _; rfl), Step.refl _ _⟩
    case round =>
      obtain ⟨j, hj, rfl, HT, st⟩ := hrel
      have ST := hid st
      clear st
      by_cases hjl : j < xs.length
      · have hjy : j < ys.length := by have := HL.out; omega
        have hjz : (j : Int) < (xs.length : Int) := by omega
        obtain ⟨g, off, rfl, p0⟩ := texts_get (rowAt_step H1.out ST.out (fun _ _ h => h)) j hjl
        obtain ⟨g2, off2, rfl, r0⟩ := texts_get (rowAt_step H2.out ST.out (fun _ _ h => h)) j hjy
        have HN : Hid (xs.take (j + 1) = ys.take (j + 1) ↔ xs[j] = ys[j]) := by
          show _ ↔ _
          rw [List.take_succ_eq_append_getElem hjl, List.take_succ_eq_append_getElem hjy, HT.out, List.append_cancel_left_eq, List.cons.injEq]
          simp only [and_true]
        have HNE : Hid (xs[j] ≠ ys[j] → xs ≠ ys) := fun h e => h (by simp [e])
        obtain ⟨x0, hx⟩ : ∃ m, xs[j] = m := ⟨_, rfl⟩
        obtain ⟨y0, hy⟩ : ∃ m, ys[j] = m := ⟨_, rfl⟩
        rw [hx] at p0 HN HNE
        rw [hy] at r0 HN HNE
        clear hx hy
        by_cases e0 : x0 = y0
        · subst e0
          go_wp2_with fail
          go_quiet (fail)
          go_wp2_with fail
          go_roundw
          case rel => exact ⟨j + 1, by omega, int_eq (by omega), (by show _ = _; first | exact HN.out.2 rfl | exact HN.out.2 trivial), ST.out.drewN _⟩
          case measure => simp [intOf]; omega
        · have eb0 : decide (x0 = y0) = false := decide_eq_false e0
          go_wp2_with fail
          go_quiet (fail)
          go_wp2_with fail
          go_ret
          exact ⟨ret_bool (by rw [← HD.out, sameT_not (HNE.out (fun e => e0 (by first | exact e | injection e)))]), ST.out.drewN _⟩
      · obtain rfl : j = xs.length := by omega
        go_wp2_with fail
        go_ret
        refine ⟨ret_bool ?_, ST.out⟩
        have := HT.out
        rw [List.take_of_length_le (Nat.le_refl _), HL.out, List.take_of_length_le (Nat.le_refl _)] at this
        rw [← HD.out, (sameT_iff _ _).2 this]
  · have hz : ¬ (xs.length : Int) = (ys.length : Int) := by omega
    have hz2 : ((xs.length : Int) == (ys.length : Int)) = false := by rw [beq_eq_false_iff_ne]; exact hz
    have HNE : Hid (D = false) := by show _ = _; rw [← HD.out]; exact sameT_not (fun e => hlen (by rw [e]))
    go_enter Tryz.func84, Tryz.ntmps84
    go_wp2_with fail
    go_ret
    exact ⟨ret_bool (by rw [HNE.out]), Step.refl _ _⟩

theorem isNoRef_any (z : Int) (w : World) : Calls Tryz.prog 125 #[.int .i64 z] w fun e w' => e = .returned (.bool (decide (z < 0))) ∧ w = w' := by
  go_enter Tryz.func125, Tryz.ntmps125
  go_wp2
  go_ret
  exact ⟨rfl, rfl⟩
/-- Whether all of them may be kids. -/
def kidsOk (ks : List Int) : Bool := ks.all (fun k => decide (0 ≤ k))
theorem kidsOk_take (ks : List Int) (j : Nat) (hj : j < ks.length) : kidsOk (ks.take (j + 1)) = (kidsOk (ks.take j) && decide (0 ≤ ks[j])) := by
  unfold kidsOk
  rw [List.take_succ_eq_append_getElem hj, List.all_append]
  simp
set_option maxHeartbeats 1000000 in
theorem indexI_any (ks : List Int) (hl : ks.length ≤ 1000000) (a : Option Addr) (cap : Nat) (w : World) (hr : RowAt w noF a (intsOf ks)) :
    Calls Tryz.prog 92 #[.slice a ks.length cap, .func (.func 125) #[] #[]] w fun e w' => (∃ r : Int, e = .returned (.int .i64 r) ∧ decide (0 ≤ r) = !(kidsOk ks)) ∧ Step noF w w' := by
  have HR := hid hr
  clear hr
  go_enter Tryz.func92, Tryz.ntmps92
  go_wp2_with fail
  go_loopw [8] (fun i wr => ∃ (j : Nat), j ≤ ks.length ∧ i = .int .i64 j ∧ Hid (kidsOk (ks.take j) = true) ∧ Step noF w wr) (fun i _ => ks.length - (intOf i).toNat)
  case atStart => exact ⟨0, Nat.zero_le _, rfl, (by show _ = _; rfl), Step.refl _ _⟩
  case round =>
    obtain ⟨j, hj, rfl, HA, st⟩ := hrel
    have ST := hid st
    clear st
    by_cases hjl : j < ks.length
    · have hjz : (j : Int) < (ks.length : Int) := by omega
      obtain ⟨g, off, rfl, c0⟩ := ints_get (rowAt_step HR.out ST.out (fun _ _ h => h)) j hjl
      have HT := hid (kidsOk_take ks j hjl)
      have HN : Hid (¬ 0 ≤ ks[j] → kidsOk ks = false) := fun h => by
        unfold kidsOk
        rw [List.all_eq_false]
        exact ⟨ks[j], List.getElem_mem hjl, by simpa using h⟩
      obtain ⟨z, hz⟩ : ∃ m, ks[j] = m := ⟨_, rfl⟩
      rw [hz] at c0 HT HN
      clear hz
      by_cases hi : z < 0
      · have HF : Hid (kidsOk ks = false) := HN.out (by omega)
        have hd : decide (z < 0) = true := decide_eq_true hi
        have cN := isNoRef_any z
        rw [hd] at cN
        go_wp2_with fail
        refine (cN _).mono ?_
        rintro e w2 ⟨rfl, rfl⟩
        go_wp2_with fail
        go_ret
        refine ⟨⟨_, rfl, ?_⟩, ST.out⟩
        rw [HF.out]
        simp
      · have hd : decide (z < 0) = false := decide_eq_false hi
        have HT2 : Hid (kidsOk (ks.take (j + 1)) = true) := by
          show _ = _
          rw [HT.out, HA.out]
          simp; omega
        have cN := isNoRef_any z
        rw [hd] at cN
        go_wp2_with fail
        refine (cN _).mono ?_
        rintro e w2 ⟨rfl, rfl⟩
        go_wp2_with fail
        go_roundw
        case rel => exact ⟨j + 1, by omega, int_eq (by omega), HT2, ST.out⟩
        case measure => simp [intOf]; omega
    · obtain rfl : j = ks.length := by omega
      go_wp2_with fail
      go_ret
      refine ⟨⟨_, rfl, ?_⟩, ST.out⟩
      have := HA.out
      rw [List.take_of_length_le (Nat.le_refl _)] at this
      rw [this]
      rfl
theorem containsI_any (ks : List Int) (hl : ks.length ≤ 1000000) (a : Option Addr) (cap : Nat) (w : World) (hr : RowAt w noF a (intsOf ks)) :
    Calls Tryz.prog 40 #[.slice a ks.length cap, .func (.func 125) #[] #[]] w fun e w' => e = .returned (.bool !(kidsOk ks)) ∧ Step noF w w' := by
  have c := indexI_any ks hl a cap w hr
  obtain ⟨A, hA⟩ : ∃ A, kidsOk ks = A := ⟨_, rfl⟩
  rw [hA] at c ⊢
  go_enter Tryz.func40, Tryz.ntmps40
  go_wp2_with fail
  refine c.mono ?_
  rintro e w2 ⟨⟨r, rfl, hr2⟩, s2⟩
  have HR2 := hid hr2
  clear hr2
  go_wp2_with fail
  go_ret
  exact ⟨ret_bool (by rw [← HR2.out]), s2⟩

theorem upK_step (ps : List (List UInt8)) (j : Nat) (hj : j < ps.length) : upK ps (j + 1) = (upK ps j && (isK ps[j] && decide (([] :: ps).getD j [] < ps[j]))) := by
  have hg : ps.getD j [] = ps[j] := by simp [List.getD, List.getElem?_eq_getElem hj]
  rw [upK, hg]
  congr 1
  cases hk : isK ps[j]
  · rfl
  · rw [Bool.true_and, Bool.true_and]
    cases j with
    | zero =>
      have := isK_ne hk
      simp
      exact (pos_iff _).2 this
    | succ j => simp
set_option maxHeartbeats 1000000 in
theorem rising_any (ps : List (List UInt8)) (hl : ps.length ≤ 1000000) (a : Option Addr) (c : Nat) (w : World) (hr : RowAt w noF a (texts ps)) :
    Calls Tryz.prog 126 #[.slice a ps.length c] w fun e w' => e = .returned (.bool (upK ps ps.length)) ∧ Step noF w w' := by
  have h0 := nil_str
  have hE := same_str
  have hL := less_str
  have HR := hid hr
  clear hr
  obtain ⟨D, hD⟩ : ∃ D, upK ps ps.length = D := ⟨_, rfl⟩
  rw [hD]
  have HD := hid hD
  clear hD
  go_enter Tryz.func126, Tryz.ntmps126
  go_wp2_with fail
  go_loopw [3, 8] (fun lo i wr => ∃ (j : Nat), j ≤ ps.length ∧ lo = .string (str (([] :: ps).getD j [])) ∧ i = .int .i64 j ∧ Hid (upK ps j = true) ∧ Step noF w wr) (fun _ i _ => ps.length - (intOf i).toNat)
  case atStart => exact ⟨0, Nat.zero_le _, rfl, rfl, (by show _ = _; rfl), Step.refl _ _⟩
  case round =>
    obtain ⟨j, hj, rfl, rfl, HA, st⟩ := hrel
    have ST := hid st
    clear st
    by_cases hjl : j < ps.length
    · have hjz : (j : Int) < (ps.length : Int) := by omega
      obtain ⟨g, off, rfl, c0⟩ := texts_get (rowAt_step HR.out ST.out (fun _ _ h => h)) j hjl
      have HT := hid (upK_step ps j hjl)
      have HF : Hid (upK ps (j + 1) = false → D = false) := fun h => by rw [← HD.out]; exact upK_false ps (j + 1) h _ hjl
      have HNX : Hid (([] :: ps).getD (j + 1) [] = ps[j]) := by show _ = _; simp [List.getD, List.getElem?_eq_getElem hjl]
      obtain ⟨lo, hlo⟩ : ∃ lo, ([] :: ps).getD j [] = lo := ⟨_, rfl⟩
      obtain ⟨p, hp⟩ : ∃ p, ps[j] = p := ⟨_, rfl⟩
      rw [hlo] at HT ⊢
      rw [hp] at c0 HT HNX
      clear hlo hp
      have cK := is_any p
      cases hk : isK p
      · have HZ : Hid (D = false) := HF.out (by rw [HT.out, hk]; simp)
        rw [hk] at cK
        clear hk
        go_wp2_with fail
        refine (cK _).mono ?_
        rintro e w2 ⟨rfl, rfl⟩
        go_wp2_with fail
        go_ret
        exact ⟨ret_bool HZ.out.symm, ST.out⟩
      · rw [hk] at cK
        by_cases hpl : lo < p
        · have d1 : decide (p < lo) = false := decide_eq_false (fun h => lt_irrefl' (lt_trans' hpl h))
          have d2 : decide (p = lo) = false := decide_eq_false (fun h => by subst h; exact lt_irrefl' hpl)
          have HT2 : Hid (upK ps (j + 1) = true) := by
            show _ = _
            rw [HT.out, HA.out, hk]
            simp [hpl]
          clear hk hpl
          go_wp2_with fail
          refine (cK _).mono ?_
          rintro e w2 ⟨rfl, rfl⟩
          go_wp2_with fail
          go_roundw
          case rel => exact ⟨j + 1, by omega, by rw [HNX.out], int_eq (by omega), HT2, ST.out⟩
          case measure => simp [intOf]; omega
        · have HZ : Hid (D = false) := HF.out (by rw [HT.out, hk]; simp [hpl])
          by_cases hlt : p < lo
          · have d1 : decide (p < lo) = true := decide_eq_true hlt
            clear hk hpl hlt
            go_wp2_with fail
            refine (cK _).mono ?_
            rintro e w2 ⟨rfl, rfl⟩
            go_wp2_with fail
            go_ret
            exact ⟨ret_bool HZ.out.symm, ST.out⟩
          · have d2 : decide (p = lo) = true := decide_eq_true (Classical.byContradiction fun e => hpl (lt_or' hlt e))
            have d1 : decide (p < lo) = false := decide_eq_false hlt
            clear hk hpl hlt
            go_wp2_with fail
            refine (cK _).mono ?_
            rintro e w2 ⟨rfl, rfl⟩
            go_wp2_with fail
            go_ret
            exact ⟨ret_bool HZ.out.symm, ST.out⟩
    · obtain rfl : j = ps.length := by omega
      go_wp2_with fail
      go_ret
      exact ⟨ret_bool (by rw [← HD.out, HA.out]), ST.out⟩
end Go.Proofs.YtoobelcphcndoaaGreat
namespace Go.Proofs.YtoobelcphcndoaaGreat
open Go.RowKit Go.Sort
set_option linter.unusedVariables false
set_option linter.unusedSimpArgs false
set_option maxRecDepth 20000

/-- A row in memory, by a slice with room. -/
def SlAt (w : World) (a : Option Addr) (n c : Nat) (cs : List Value) : Prop := n ≤ c ∧ NilOk w a c ∧ RowAt w noF a cs
theorem SlAt.step {w w' : World} {a : Option Addr} {n c : Nat} {cs : List Value} (h : SlAt w a n c cs) (hs : Step noF w w') : SlAt w' a n c cs := ⟨h.1, h.2.1.step hs, rowAt_step h.2.2 hs (fun _ _ h => h)⟩
/-- An inner node. -/
def InnerAt (w : World) (p : Nat) (d : Nd) : Prop := ∃ (ka pa : Option Addr) (kc pc q : Nat), w.heap[p]? = some (.cells #[.slice ka d.kids.length kc, .slice pa d.pivs.length pc, .pointer (some ⟨q, 0, none⟩)] 132 (0, 0)) ∧ SlAt w ka d.kids.length kc (intsOf d.kids) ∧ SlAt w pa d.pivs.length pc (texts d.pivs) ∧ BuffAt w q d.ms
theorem InnerAt.step {w w' : World} {p : Nat} {d : Nd} (h : InnerAt w p d) (hs : Step noF w w') : InnerAt w' p d := by
  obtain ⟨ka, pa, kc, pc, q, h1, h2, h3, h4⟩ := h
  exact ⟨ka, pa, kc, pc, q, (hs.block p (lt_of_block h1) (fun x => x)).trans h1, h2.step hs, h3.step hs, h4.step hs⟩
theorem InnerAt.lt {w : World} {p : Nat} {d : Nd} (h : InnerAt w p d) : p < w.heap.size := by
  obtain ⟨ka, pa, kc, pc, q, h1, _⟩ := h
  exact lt_of_block h1
theorem InnerAt.cell {w : World} {p : Nat} {d : Nd} (h : InnerAt w p d) : ∃ (ka pa : Option Addr) (kc pc q : Nat), w.cell? ⟨p, 0, none⟩ = some (.slice ka d.kids.length kc) ∧ w.cell? ⟨p, 1, none⟩ = some (.slice pa d.pivs.length pc) ∧ w.cell? ⟨p, 2, none⟩ = some (.pointer (some ⟨q, 0, none⟩)) ∧ SlAt w ka d.kids.length kc (intsOf d.kids) ∧ SlAt w pa d.pivs.length pc (texts d.pivs) ∧ BuffAt w q d.ms := by
  obtain ⟨ka, pa, kc, pc, q, h1, h2⟩ := h
  exact ⟨ka, pa, kc, pc, q, by rw [cell_of_block h1]; rfl, by rw [cell_of_block h1]; rfl, by rw [cell_of_block h1]; rfl, h2⟩
theorem innerAt_new {w : World} {ka pa : Option Addr} {kc pc q : Nat} {d : Nd} (h2 : SlAt w ka d.kids.length kc (intsOf d.kids)) (h3 : SlAt w pa d.pivs.length pc (texts d.pivs)) (h4 : BuffAt w q d.ms) :
    InnerAt (w.alloc (.cells #[.slice ka d.kids.length kc, .slice pa d.pivs.length pc, .pointer (some ⟨q, 0, none⟩)] 132)) w.heap.size d := by
  have hs : Step noF w (w.alloc (.cells #[.slice ka d.kids.length kc, .slice pa d.pivs.length pc, .pointer (some ⟨q, 0, none⟩)] 132)) := (Step.refl noF w).alloc _
  exact ⟨ka, pa, kc, pc, q, block_alloc_new w _, h2.step hs, h3.step hs, h4.step hs⟩

theorem good_parts (ks : List Int) (ps : List (List UInt8)) : goodN ks ps = (decide (ps.length + 1 = ks.length) && kidsOk ks && upK ps ps.length) := by
  unfold goodN kidsOk
  congr 2
  by_cases h : ps.length + 1 = ks.length
  · have : ks ≠ [] := fun e => by rw [e] at h; simp at h
    simp [h, this]
  · simp [h]
/-- What is made of kids, pivots and a buffer. -/
def MadeN (w : World) (d : Nd) (e : Ending) : Prop := (goodN d.kids d.pivs = false ∧ e = .returned (.tuple #[.pointer none, .int .i64 1])) ∨ (goodN d.kids d.pivs = true ∧ ∃ p, e = .returned (.tuple #[.pointer (some ⟨p, 0, none⟩), .int .i64 0]) ∧ InnerAt w p d)
set_option maxHeartbeats 1000000 in
theorem build_any (ks : List Int) (ps : List (List UInt8)) (ms : List Mg) (hkl : ks.length ≤ 1000000) (hpl : ps.length ≤ 1000000) (ka pa : Option Addr) (kc pc q : Nat) (w : World) (hk : SlAt w ka ks.length kc (intsOf ks)) (hp : SlAt w pa ps.length pc (texts ps)) (hb : BuffAt w q ms) :
    Calls Tryz.prog 80 #[.slice ka ks.length kc, .slice pa ps.length pc, .pointer (some ⟨q, 0, none⟩)] w fun e w' => MadeN w' ⟨ks, ps, ms⟩ e ∧ Step noF w w' := by
  have cK := containsI_any ks hkl ka kc w hk.2.2
  have cR := fun w' (hs : Step noF w w') => rising_any ps hpl pa pc w' (hp.step hs).2.2
  have HG := hid (good_parts ks ps)
  have HN := fun w' (hs : Step noF w w') => hid (innerAt_new (d := ⟨ks, ps, ms⟩) (hk.step hs) (hp.step hs) (hb.step hs))
  simp only at HN
  clear hk hp hb
  obtain ⟨n, hn⟩ : ∃ n, ps.length = n := ⟨_, rfl⟩
  obtain ⟨m, hm⟩ : ∃ m, ks.length = m := ⟨_, rfl⟩
  rw [hm] at cK hkl
  rw [hn] at cR hpl
  rw [hn, hm] at HG
  simp only [hn, hm] at HN
  rw [hn, hm]
  clear hn hm
  have rw1 : IntKind.i64.wrap ((m : Int) - 1) = (m : Int) - 1 := by rw [IntKind.wrap_i64]; omega
  by_cases hl : n + 1 = m
  · have em : (m : Int) - 1 = (n : Int) := by omega
    have HL := hid hl
    cases hk : kidsOk ks
    · have HF : Hid (goodN ks ps = false) := by show _ = _; rw [HG.out, hk]; simp
      rw [hk] at cK
      clear hk hl
      go_enter Tryz.func80, Tryz.ntmps80
      go_wp2_with fail
      refine cK.mono ?_
      rintro e w2 ⟨rfl, s2⟩
      have S2 := hid s2
      clear s2
      go_wp2_with fail
      go_ret2
      exact ⟨.inl ⟨HF.out, rfl⟩, S2.out⟩
    · rw [hk] at cK
      cases hu : upK ps n
      · have HF : Hid (goodN ks ps = false) := by show _ = _; rw [HG.out, hk, hu]; simp
        rw [hu] at cR
        clear hk hu hl
        go_enter Tryz.func80, Tryz.ntmps80
        go_wp2_with fail
        refine cK.mono ?_
        rintro e w2 ⟨rfl, s2⟩
        have S2 := hid s2
        clear s2
        go_wp2_with fail
        refine (cR _ S2.out).mono ?_
        rintro e w3 ⟨rfl, s3⟩
        have S3 := hid (S2.out.trans s3)
        clear s3
        go_wp2_with fail
        go_ret2
        exact ⟨.inl ⟨HF.out, rfl⟩, S3.out⟩
      · have HF : Hid (goodN ks ps = true) := by show _ = _; rw [HG.out, hk, hu]; simp [HL.out]
        rw [hu] at cR
        clear hk hu hl
        go_enter Tryz.func80, Tryz.ntmps80
        go_wp2_with fail
        refine cK.mono ?_
        rintro e w2 ⟨rfl, s2⟩
        have S2 := hid s2
        clear s2
        go_wp2_with fail
        refine (cR _ S2.out).mono ?_
        rintro e w3 ⟨rfl, s3⟩
        have S3 := hid (S2.out.trans s3)
        clear s3
        go_wp2_with fail
        go_ret2
        exact ⟨.inr ⟨HF.out, _, rfl, (HN _ S3.out).out⟩, S3.out.alloc _⟩
  · have HF : Hid (goodN ks ps = false) := by show _ = _; rw [HG.out]; simp [hl]
    have hz : ¬ (n : Int) = (m : Int) - 1 := by omega
    have hz2 : ((n : Int) == (m : Int) - 1) = false := by rw [beq_eq_false_iff_ne]; exact hz
    clear hl
    go_enter Tryz.func80, Tryz.ntmps80
    go_wp2_with fail
    go_ret2
    exact ⟨.inl ⟨HF.out, rfl⟩, Step.refl _ _⟩

theorem lenN_any (p : Nat) (d : Nd) (w : World) (h : InnerAt w p d) : Calls Tryz.prog 39 #[.pointer (some ⟨p, 0, none⟩)] w fun e w' => e = .returned (.int .i64 d.kids.length) ∧ w = w' := by
  obtain ⟨ka, pa, kc, pc, q, h1, h2, h3, _⟩ := h.cell
  clear h h2 h3
  go_enter Tryz.func39, Tryz.ntmps39
  go_wp2
  go_ret
  exact ⟨rfl, rfl⟩
theorem lenN_nil (w : World) : Calls Tryz.prog 39 #[.pointer none] w fun e w' => e = .returned (.int .i64 0) ∧ w = w' := by
  go_enter Tryz.func39, Tryz.ntmps39
  go_wp2
  go_ret
  exact ⟨rfl, rfl⟩
theorem kidsN_nil (w : World) : Calls Tryz.prog 44 #[.pointer none] w fun e w' => e = .returned (.slice none 0 0) ∧ w = w' := by
  go_enter Tryz.func44, Tryz.ntmps44
  go_wp2
  go_ret
  exact ⟨rfl, rfl⟩
theorem pivotsN_nil (w : World) : Calls Tryz.prog 61 #[.pointer none] w fun e w' => e = .returned (.slice none 0 0) ∧ w = w' := by
  go_enter Tryz.func61, Tryz.ntmps61
  go_wp2
  go_ret
  exact ⟨rfl, rfl⟩
theorem buffN_nil (w : World) : Calls Tryz.prog 31 #[.pointer none] w fun e w' => e = .returned (.pointer none) ∧ w = w' := by
  go_enter Tryz.func31, Tryz.ntmps31
  go_wp2
  go_ret
  exact ⟨rfl, rfl⟩
theorem kidsN_any (p : Nat) (d : Nd) (hl : d.kids.length ≤ 1000000) (w : World) (h : InnerAt w p d) : Calls Tryz.prog 44 #[.pointer (some ⟨p, 0, none⟩)] w fun e w' => ∃ a c, e = .returned (.slice a d.kids.length c) ∧ Hid (SlAt w' a d.kids.length c (intsOf d.kids)) ∧ Hid (Step noF w w') := by
  obtain ⟨ka, pa, kc, pc, q, h1, h2, h3, hk, _, _⟩ := h.cell
  have hc := cloneI_any d.kids hl ka kc w hk.2.2 hk.2.1.1
  clear h h2 h3 hk
  go_enter Tryz.func44, Tryz.ntmps44
  go_wp2_with fail
  refine hc.mono ?_
  rintro e w' ⟨v, rfl, ho, hs⟩
  obtain ⟨a, c, rfl, o1, o2, o3⟩ := ho.row
  have HO : Hid (SlAt w' a d.kids.length c (intsOf d.kids)) := ⟨o1, o2, o3⟩
  have HS := hid hs
  clear ho o1 o2 o3 hs
  go_wp2_with fail
  go_ret
  exact ⟨a, c, rfl, HO, HS⟩
theorem pivotsN_any (p : Nat) (d : Nd) (hl : d.pivs.length ≤ 1000000) (w : World) (h : InnerAt w p d) : Calls Tryz.prog 61 #[.pointer (some ⟨p, 0, none⟩)] w fun e w' => ∃ a c, e = .returned (.slice a d.pivs.length c) ∧ Hid (SlAt w' a d.pivs.length c (texts d.pivs)) ∧ Hid (Step noF w w') := by
  obtain ⟨ka, pa, kc, pc, q, h1, h2, h3, _, hk, _⟩ := h.cell
  have hc := cloneT_any d.pivs hl pa pc w hk.2.2 hk.2.1.1
  clear h h1 h3 hk
  go_enter Tryz.func61, Tryz.ntmps61
  go_wp2_with fail
  refine hc.mono ?_
  rintro e w' ⟨v, rfl, ho, hs⟩
  obtain ⟨a, c, rfl, o1, o2, o3⟩ := ho.row
  have HO : Hid (SlAt w' a d.pivs.length c (texts d.pivs)) := ⟨o1, o2, o3⟩
  have HS := hid hs
  clear ho o1 o2 o3 hs
  go_wp2_with fail
  go_ret
  exact ⟨a, c, rfl, HO, HS⟩
theorem buffN_any (p : Nat) (d : Nd) (w : World) (h : InnerAt w p d) : Calls Tryz.prog 31 #[.pointer (some ⟨p, 0, none⟩)] w fun e w' => ∃ q, e = .returned (.pointer (some ⟨q, 0, none⟩)) ∧ Hid (BuffAt w q d.ms) ∧ w = w' := by
  obtain ⟨ka, pa, kc, pc, q, h1, h2, h3, _, _, hb⟩ := h.cell
  have HB := hid hb
  clear h h1 h2 hb
  go_enter Tryz.func31, Tryz.ntmps31
  go_wp2
  go_ret
  exact ⟨q, rfl, HB, rfl⟩
/-- Whether there is a kid at that place. -/
def hasZ (n : Nat) (z : Int) : Bool := decide (0 ≤ z) && decide (z < (n : Int))
theorem hasN_any (p : Nat) (d : Nd) (z : Int) (w : World) (h : InnerAt w p d) : Calls Tryz.prog 157 #[.pointer (some ⟨p, 0, none⟩), .int .i64 z] w fun e w' => e = .returned (.bool (hasZ d.kids.length z)) ∧ w = w' := by
  have cL := lenN_any p d w h
  obtain ⟨n, hn⟩ : ∃ n, d.kids.length = n := ⟨_, rfl⟩
  rw [hn] at cL ⊢
  clear h hn
  by_cases h0 : 0 ≤ z
  · have HZ : Hid (hasZ n z = decide (z < (n : Int))) := by show _ = _; unfold hasZ; simp [h0]
    go_enter Tryz.func157, Tryz.ntmps157
    go_wp2_with fail
    refine cL.mono ?_
    rintro e w' ⟨rfl, rfl⟩
    go_wp2_with fail
    go_ret
    exact ⟨by rw [HZ.out]; rfl, rfl⟩
  · have HZ : Hid (hasZ n z = false) := by show _ = _; unfold hasZ; simp [h0]
    go_enter Tryz.func157, Tryz.ntmps157
    go_wp2_with fail
    go_ret
    exact ⟨by rw [HZ.out]; rfl, rfl⟩
theorem hasN_nil (z : Int) (w : World) : Calls Tryz.prog 157 #[.pointer none, .int .i64 z] w fun e w' => e = .returned (.bool false) ∧ w = w' := by
  have cL := lenN_nil w
  by_cases h0 : 0 ≤ z
  · have hn : ¬ z < 0 := by omega
    have hd : decide (z < 0) = false := decide_eq_false hn
    go_enter Tryz.func157, Tryz.ntmps157
    go_wp2_with fail
    refine cL.mono ?_
    rintro e w' ⟨rfl, rfl⟩
    go_wp2_with fail
    go_ret
    exact ⟨by first | rfl | simp [hn], rfl⟩
  · go_enter Tryz.func157, Tryz.ntmps157
    go_wp2_with fail
    go_ret
    exact ⟨rfl, rfl⟩
end Go.Proofs.YtoobelcphcndoaaGreat
