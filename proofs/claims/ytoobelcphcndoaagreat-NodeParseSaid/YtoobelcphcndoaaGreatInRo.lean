/-
  Rows of one's own, of numbers, of texts: empty, of one, beside one another; append as an operation of a region that draws.
-/
import Derived.Test.YtoobelcphcndoaaGreatInA
import Derived.Test.YtoobelcphcndoaaGreatLfRow
namespace Go.Proofs.YtoobelcphcndoaaGreat
open Go.RowKit Go.Sort
set_option linter.unusedVariables false
set_option linter.unusedSimpArgs false
set_option maxRecDepth 20000

theorem ownI_empty (w : World) : OwnI (w.alloc (.cells #[] 3)) w.heap.size (.slice (some ⟨w.heap.size, 0, none⟩) 0 0) [] :=
  ⟨rfl, .inr ⟨w.heap.size, 0, #[], rfl, Nat.le_refl _, block_alloc_new w _, Nat.le_refl _, Nat.zero_le _, rfl, rfl⟩⟩
theorem ownT_empty (w : World) : OwnT (w.alloc (.cells #[] 9)) w.heap.size (.slice (some ⟨w.heap.size, 0, none⟩) 0 0) [] :=
  ⟨rfl, .inr ⟨w.heap.size, 0, #[], rfl, Nat.le_refl _, block_alloc_new w _, Nat.le_refl _, Nat.zero_le _, rfl, rfl⟩⟩
theorem int_one (w : World) (z : Int) : RowAt (w.alloc (.cells #[.int .i64 z] 3)) noF (some ⟨w.heap.size, 0, none⟩) (intsOf [z]) :=
  .inr ⟨w.heap.size, 0, rfl, fun h => h, fun j hj => by
    simp [intsOf] at hj
    subst hj
    rw [cell_of_block (block_alloc_new w _)]
    rfl⟩
theorem text_one (w : World) (k : List UInt8) : RowAt (w.alloc (.cells #[.string (str k)] 9)) noF (some ⟨w.heap.size, 0, none⟩) (texts [k]) :=
  .inr ⟨w.heap.size, 0, rfl, fun h => h, fun j hj => by
    simp [texts] at hj
    subst hj
    rw [cell_of_block (block_alloc_new w _)]
    rfl⟩

theorem owns_upN {w : World} {base : Nat} {e : TypeId} {size : Nat} {v : Value} {n : Nat} {xs : List Value} (h : w.ownsRow 0 e size v n xs) (hb : ∀ k, v.ownBlock = some k → base ≤ k) : w.ownsRow base e size v n xs := by
  refine ⟨h.1, ?_⟩
  rcases h.2 with h | ⟨g, cap, cur, rfl, _, h2⟩
  · exact .inl h
  · exact .inr ⟨g, cap, cur, rfl, hb g rfl, h2⟩
theorem own_ne {w : World} {base size n r : Nat} {e t : TypeId} {v : Value} {xs : List Value} {A : Array Value} {f : Nat × Nat} (h : w.ownsRow base e size v n xs) (hb : w.heap[r]? = some (.cells A t f)) (he : e ≠ t) : v.ownBlock ≠ some r := by
  rcases h.2 with ⟨rfl, _⟩ | ⟨g, cap, cur, rfl, _, hgg, _⟩
  · intro e; cases e
  · intro e2
    simp only [Value.ownBlock, Option.some.injEq] at e2
    subst e2
    rw [hgg] at hb
    injection hb with hb
    injection hb with _ hb _
    exact he hb
/-- A row of one's own stays where another one, of another type, grows. -/
theorem own_apart {w w' : World} {base size n base2 size2 n2 : Nat} {e e2 : TypeId} {v v2 : Value} {xs xs2 : List Value} (h : w.ownsRow base e size v n xs) (hi : w.ownsRow base2 e2 size2 v2 n2 xs2) (he : e ≠ e2) (hg : w.grownBy w' v2.ownBlock) : w'.ownsRow base e size v n xs := by
  refine World.ownsRow.kept h hg ?_
  rcases hi.2 with ⟨rfl, _⟩ | ⟨g2, cap2, cur2, rfl, _, hgg2, _⟩
  · cases hv : v.ownBlock with
    | none => exact .inl rfl
    | some k => exact .inr (by intro e; cases e)
  · exact .inr (own_ne h hgg2 he)
theorem own_keep {w w' : World} {base size n r : Nat} {e t : TypeId} {v : Value} {xs : List Value} {A : Array Value} {f : Nat × Nat} (h : w.ownsRow base e size v n xs) (hb : w.heap[r]? = some (.cells A t f)) (he : e ≠ t) (hs : Step (fun k => k = r) w w') : w'.ownsRow base e size v n xs :=
  owns_step h hs (fun k hk e => own_ne h hb he (by rw [hk, e]))
theorem block_apart {w w' : World} {base size n r : Nat} {e t : TypeId} {v : Value} {xs : List Value} {A : Array Value} {f : Nat × Nat} (h : w.ownsRow base e size v n xs) (hb : w.heap[r]? = some (.cells A t f)) (he : e ≠ t) (hg : w.grownBy w' v.ownBlock) : w'.heap[r]? = some (.cells A t f) :=
  (hg.block r (lt_of_block hb) (fun e => own_ne h hb he e.symm)).trans hb
theorem OwnT.beside {w w' : World} {base base2 : Nat} {v v2 : Value} {ps : List (List UInt8)} {zs : List Int} (h : OwnT w base v ps) (hi : OwnI w base2 v2 zs) (hg : w.grownBy w' v2.ownBlock) : OwnT w' base v ps := own_apart h hi (by decide) hg
theorem OwnI.beside {w w' : World} {base base2 : Nat} {v v2 : Value} {ps : List (List UInt8)} {zs : List Int} (h : OwnI w base2 v2 zs) (hi : OwnT w base v ps) (hg : w.grownBy w' v.ownBlock) : OwnI w' base2 v2 zs := own_apart h hi (by decide) hg
theorem run_append_I {w : World} (ty : TypeId) (base : Nat) (v : Value) (xs : List Int) (hown : OwnI w base v xs) (ad : Option Addr) (c : Nat) (ys : List Int) (hr : RowAt w noF ad (intsOf ys)) (hc : ad = none → c = 0) (hl : xs.length + ys.length ≤ 1000000000) (hbase : base ≤ w.heap.size) :
    ∃ v' w', (Builtin.append_ #[23, 23] ty #[v, .slice ad ys.length c]).run Tryz.prog w = .ok v' w' ∧ OwnI w' base v' (xs ++ ys) ∧ w.grownBy w' v.ownBlock := by
  obtain ⟨i0, hi, hz0, hz1, hz2⟩ := info_intA
  cases ad with
  | none =>
    obtain rfl : ys = [] := List.map_eq_nil_iff.1 (row1_none hr)
    obtain rfl := hc rfl
    exact ⟨v, w, run_append_owned_none (P := Tryz.prog) w base 23 ty 3 i0 1 Tryz.underlying23 hi v _ _ hown, by rw [List.append_nil]; exact hown, ⟨rfl, rfl, rfl, Nat.le_refl _, fun _ _ _ => rfl⟩⟩
  | some ad =>
    obtain ⟨v', w', h1, h2, h3, h4⟩ := run_append_fresh (P := Tryz.prog) w 23 ty 3 i0 _ 1 8 Tryz.underlying23 hi hz0 hz1 hz2 rfl (by decide) v _ _ (owns_base hown (Nat.zero_le _)) ad ys.length c (intsOf ys) (by rw [ints_length, Nat.mul_one]) (row1_cells hr) (ints_one ys) (le_max (by omega)) (by omega)
    refine ⟨v', w', h1, owns_upN (by rw [List.length_append, ints_append]; exact h2) (fun k hk => ?_), h3⟩
    rcases h4 with h4 | h4
    · rw [h4] at hk
      exact (hown.lt k hk).1
    · exact Nat.le_trans hbase (h4 k hk)
theorem step_append_I {ops : Array Oper} {o : Oper} {a : Act} {w : World} {K : Act → World → Prop} {Q : Exit → Act → World → Prop} {E : Prop}
    (hg : o.guard = none) (s x : Operand) (hop : o.op = Op.call { callee := Callee.builtin Builtin.append, args := #[s, x], argTypes := #[23, 23] })
    (base : Nat) (v : Value) (xs : List Int) (hs : a.eval s = v) (hown : OwnI w base v xs) (ad : Option Addr) (c : Nat) (ys : List Int) (m : Nat) (hm : ys.length = m) (hx : a.eval x = .slice ad m c) (hr : RowAt w noF ad (intsOf ys)) (hc : ad = none → c = 0) (hl : xs.length + ys.length ≤ 1000000000) (hbase : base ≤ w.heap.size)
    (hK : ∀ v' w', OwnI w' base v' (xs ++ ys) → w.grownBy w' v.ownBlock → K (a.put o.dst v') w') :
    if Region.wanted o (yielded ops a.tmps) = true then Oper.wp Tryz.prog o a w K Q else E := by
  have hw : Region.wanted o (yielded ops a.tmps) = true := by simp [Region.wanted, hg]
  rw [if_pos hw]
  subst hm
  obtain ⟨v', w', hrun, r1, r2⟩ := run_append_I o.type base v xs hown ad c ys hr hc hl hbase
  unfold Oper.wp
  simp [execOp, hop, resolve, invoke, builtin, hs, hx, hrun, Result.andThen]
  exact hK v' w' r1 r2
theorem run_append_T {w : World} (ty : TypeId) (base : Nat) (v : Value) (xs : List (List UInt8)) (hown : OwnT w base v xs) (ad : Option Addr) (c : Nat) (ys : List (List UInt8)) (hr : RowAt w noF ad (texts ys)) (hc : ad = none → c = 0) (hl : xs.length + ys.length ≤ 1000000000) (hbase : base ≤ w.heap.size) :
    ∃ v' w', (Builtin.append_ #[24, 24] ty #[v, .slice ad ys.length c]).run Tryz.prog w = .ok v' w' ∧ OwnT w' base v' (xs ++ ys) ∧ w.grownBy w' v.ownBlock := by
  obtain ⟨i0, hi, hz0, hz1, hz2⟩ := info_strA
  cases ad with
  | none =>
    obtain rfl : ys = [] := List.map_eq_nil_iff.1 (row1_none hr)
    obtain rfl := hc rfl
    exact ⟨v, w, run_append_owned_none (P := Tryz.prog) w base 24 ty 9 i0 1 Tryz.underlying24 hi v _ _ hown, by rw [List.append_nil]; exact hown, ⟨rfl, rfl, rfl, Nat.le_refl _, fun _ _ _ => rfl⟩⟩
  | some ad =>
    obtain ⟨v', w', h1, h2, h3, h4⟩ := run_append_fresh (P := Tryz.prog) w 24 ty 9 i0 _ 1 16 Tryz.underlying24 hi hz0 hz1 hz2 rfl (by decide) v _ _ (owns_base hown (Nat.zero_le _)) ad ys.length c (texts ys) (by rw [texts_length, Nat.mul_one]) (row1_cells hr) (texts_one ys) (le_max (by omega)) (by omega)
    refine ⟨v', w', h1, owns_upN (by rw [List.length_append, texts_append]; exact h2) (fun k hk => ?_), h3⟩
    rcases h4 with h4 | h4
    · rw [h4] at hk
      exact (hown.lt k hk).1
    · exact Nat.le_trans hbase (h4 k hk)
theorem step_append_T {ops : Array Oper} {o : Oper} {a : Act} {w : World} {K : Act → World → Prop} {Q : Exit → Act → World → Prop} {E : Prop}
    (hg : o.guard = none) (s x : Operand) (hop : o.op = Op.call { callee := Callee.builtin Builtin.append, args := #[s, x], argTypes := #[24, 24] })
    (base : Nat) (v : Value) (xs : List (List UInt8)) (hs : a.eval s = v) (hown : OwnT w base v xs) (ad : Option Addr) (c : Nat) (ys : List (List UInt8)) (m : Nat) (hm : ys.length = m) (hx : a.eval x = .slice ad m c) (hr : RowAt w noF ad (texts ys)) (hc : ad = none → c = 0) (hl : xs.length + ys.length ≤ 1000000000) (hbase : base ≤ w.heap.size)
    (hK : ∀ v' w', OwnT w' base v' (xs ++ ys) → w.grownBy w' v.ownBlock → K (a.put o.dst v') w') :
    if Region.wanted o (yielded ops a.tmps) = true then Oper.wp Tryz.prog o a w K Q else E := by
  have hw : Region.wanted o (yielded ops a.tmps) = true := by simp [Region.wanted, hg]
  rw [if_pos hw]
  subst hm
  obtain ⟨v', w', hrun, r1, r2⟩ := run_append_T o.type base v xs hown ad c ys hr hc hl hbase
  unfold Oper.wp
  simp [execOp, hop, resolve, invoke, builtin, hs, hx, hrun, Result.andThen]
  exact hK v' w' r1 r2
end Go.Proofs.YtoobelcphcndoaaGreat
