/-
  Rows of one's own: empty, of one; append of a row whose length has another name. The reference of layer 11: Fuse.
  Plain lemmas of a Swap; rows of one's own beside one another; append as a step of a region that draws.
-/
import Derived.Test.YtgmgoaencaldmaaGreatInRA
import Derived.Test.YtgmgoaencaldmaaGreatInG
import Derived.Test.YtgmgoaencaldmaaGreatLfRow
namespace Go.Proofs.YtgmgoaencaldmaaGreat
open Go.RowKit Go.Sort
set_option linter.unusedVariables false
set_option linter.unusedSimpArgs false
set_option maxRecDepth 20000

theorem ownI_empty (w : World) : OwnI (w.alloc (.cells #[] 3)) w.heap.size (.slice (some ⟨w.heap.size, 0, none⟩) 0 0) [] :=
  ⟨rfl, .inr ⟨w.heap.size, 0, #[], rfl, Nat.le_refl _, block_alloc_new w _, Nat.le_refl _, Nat.zero_le _, rfl, rfl⟩⟩
theorem ownT_empty (w : World) : OwnT (w.alloc (.cells #[] 9)) w.heap.size (.slice (some ⟨w.heap.size, 0, none⟩) 0 0) [] :=
  ⟨rfl, .inr ⟨w.heap.size, 0, #[], rfl, Nat.le_refl _, block_alloc_new w _, Nat.le_refl _, Nat.zero_le _, rfl, rfl⟩⟩
theorem int_one (w : World) (z : Int) : RowAt (w.alloc (.cells #[.int .i64 z] 3)) noF (some ⟨w.heap.size, 0, none⟩) (intsOf [z]) :=
  .inr ⟨w.heap.size, 0, rfl, fun h => h, fun j hj => by
    simp [intsOf] at hj
    subst hj
    rw [cell_of_block (block_alloc_new w _)]
    rfl⟩
theorem text_one (w : World) (k : List UInt8) : RowAt (w.alloc (.cells #[.string (str k)] 9)) noF (some ⟨w.heap.size, 0, none⟩) (texts [k]) :=
  .inr ⟨w.heap.size, 0, rfl, fun h => h, fun j hj => by
    simp [texts] at hj
    subst hj
    rw [cell_of_block (block_alloc_new w _)]
    rfl⟩

theorem wpList_append_In {w : World} {ops : Array Oper} {rest : List Oper} {o : Oper} {a : Act} {Q : Exit → Act → World → Prop} (hgd : o.guard = none) (s x : Operand)
    (ho : o.op = .call { callee := .builtin .append, args := #[s, x], argTypes := #[22, 22] })
    (base : Nat) (v : Value) (xs : List Int) (hs : a.eval s = v) (hown : OwnI w base v xs)
    {ad : Option Addr} {c : Nat} (ys : List Int) (m : Nat) (hm : ys.length = m) (hx : a.eval x = .slice ad m c) (hr : RowAt w noF ad (intsOf ys)) (hc : ad = none → c = 0)
    (hl : xs.length + ys.length ≤ 1000000000) (hbase : base ≤ w.heap.size)
    (h : ∀ v' w', OwnI w' base v' (xs ++ ys) → w.grownBy w' v.ownBlock → wpList Tryz.prog ops Q rest (a.put o.dst v') w') : wpList Tryz.prog ops Q (o :: rest) a w :=
  wpList_append_I hgd s x ho base v xs hs hown ad c ys (by rw [hm]; exact hx) hr hc hl hbase h
theorem wpList_append_Tn {w : World} {ops : Array Oper} {rest : List Oper} {o : Oper} {a : Act} {Q : Exit → Act → World → Prop} (hgd : o.guard = none) (s x : Operand)
    (ho : o.op = .call { callee := .builtin .append, args := #[s, x], argTypes := #[23, 23] })
    (base : Nat) (v : Value) (xs : List (List UInt8)) (hs : a.eval s = v) (hown : OwnT w base v xs)
    {ad : Option Addr} {c : Nat} (ys : List (List UInt8)) (m : Nat) (hm : ys.length = m) (hx : a.eval x = .slice ad m c) (hr : RowAt w noF ad (texts ys)) (hc : ad = none → c = 0)
    (hl : xs.length + ys.length ≤ 1000000000) (hbase : base ≤ w.heap.size)
    (h : ∀ v' w', OwnT w' base v' (xs ++ ys) → w.grownBy w' v.ownBlock → wpList Tryz.prog ops Q rest (a.put o.dst v') w') : wpList Tryz.prog ops Q (o :: rest) a w :=
  wpList_append_T hgd s x ho base v xs hs hown ad c ys (by rw [hm]; exact hx) hr hc hl hbase h


end Go.Proofs.YtgmgoaencaldmaaGreat
namespace Go.Proofs.YtgmgoaencaldmaaGreat
open Go.RowKit Go.Sort
set_option linter.unusedVariables false
set_option linter.unusedSimpArgs false
set_option maxRecDepth 20000

/-- Behind k kids of a Swap: the kids, the pivots. -/
def swK (ks : List Int) (i : Nat) (rs : List Int) (k : Nat) : List Int := if k ≤ i then ks.take k else ks.take i ++ rs ++ (ks.take k).drop (i + 1)
def swP (ps : List (List UInt8)) (i : Nat) (ls : List (List UInt8)) (k : Nat) : List (List UInt8) := if k ≤ i then ps.take (k - 1) else ps.take i ++ ls.drop 1 ++ (ps.take (k - 1)).drop i
/-- With the pivot ahead of kid k. -/
def swM (ps : List (List UInt8)) (i : Nat) (ls : List (List UInt8)) (k : Nat) : List (List UInt8) := if k = 0 then [] else swP ps i ls k ++ [ps.getD (k - 1) []]

theorem take_one {α : Type} (xs : List α) (k : Nat) (h : k < xs.length) : xs.take (k + 1) = xs.take k ++ [xs[k]] := by
  rw [List.take_add_one, List.getElem?_eq_getElem h]; rfl
theorem drop_one {α : Type} (xs : List α) (k j : Nat) (h : k < xs.length) (hj : j ≤ k) : (xs.take (k + 1)).drop j = (xs.take k).drop j ++ [xs[k]] := by
  rw [take_one xs k h, List.drop_append_of_le_length (by simp; omega)]
theorem swK_zero (ks : List Int) (i : Nat) (rs : List Int) : swK ks i rs 0 = [] := by simp [swK]
theorem swK_step (ks : List Int) (i : Nat) (rs : List Int) (k : Nat) (hk : k < ks.length) (hi : k ≠ i) : swK ks i rs (k + 1) = swK ks i rs k ++ [ks[k]] := by
  unfold swK
  by_cases h : k < i
  · rw [if_pos (by omega), if_pos (by omega), take_one ks k hk]
  · rw [if_neg (by omega), if_neg (by omega), drop_one ks k (i + 1) hk (by omega)]; simp only [List.append_assoc]
theorem swK_at (ks : List Int) (i : Nat) (rs : List Int) : swK ks i rs i = ks.take i := by simp [swK]
theorem swK_next (ks : List Int) (i : Nat) (rs : List Int) : swK ks i rs (i + 1) = ks.take i ++ rs := by
  unfold swK
  rw [if_neg (by omega), List.drop_eq_nil_of_le (by simp; omega), List.append_nil]
theorem swK_all (ks : List Int) (i : Nat) (rs : List Int) (hi : i < ks.length) : swK ks i rs ks.length = swapKids ks i rs := by
  unfold swK swapKids
  rw [if_neg (by omega), List.take_of_length_le (Nat.le_refl _)]
theorem swP_zero (ps : List (List UInt8)) (i : Nat) (ls : List (List UInt8)) : swP ps i ls 0 = [] := by simp [swP]
theorem swM_zero (ps : List (List UInt8)) (i : Nat) (ls : List (List UInt8)) : swM ps i ls 0 = [] := by simp [swM]
theorem swM_pos (ps : List (List UInt8)) (i : Nat) (ls : List (List UInt8)) (k : Nat) (hk : k < ps.length) : swM ps i ls (k + 1) = swP ps i ls (k + 1) ++ [ps[k]] := by
  unfold swM
  rw [if_neg (by omega)]
  simp [List.getD, List.getElem?_eq_getElem hk]
theorem swP_step (ps : List (List UInt8)) (i : Nat) (ls : List (List UInt8)) (k : Nat) (hk : k ≤ ps.length) (hi : k ≠ i) : swP ps i ls (k + 1) = swM ps i ls k := by
  unfold swM
  cases k with
  | zero => rw [if_pos rfl]; unfold swP; rw [if_pos (by omega)]; rfl
  | succ t =>
    have ht : t < ps.length := by omega
    have hg : ps.getD (t + 1 - 1) [] = ps[t] := by simp [List.getD, List.getElem?_eq_getElem ht]
    rw [if_neg (by omega), hg]
    unfold swP
    by_cases h : t + 1 < i
    · rw [if_pos (by omega), if_pos (by omega)]
      exact take_one ps t ht
    · rw [if_neg (by omega), if_neg (by omega), Nat.add_sub_cancel, Nat.add_sub_cancel, drop_one ps t i ht (by omega)]; simp only [List.append_assoc]
theorem swM_at (ps : List (List UInt8)) (i : Nat) (ls : List (List UInt8)) (hi : i ≤ ps.length) : swM ps i ls i = ps.take i := by
  unfold swM
  cases i with
  | zero => rfl
  | succ t =>
    have ht : t < ps.length := by omega
    have hg : ps.getD (t + 1 - 1) [] = ps[t] := by simp [List.getD, List.getElem?_eq_getElem ht]
    rw [if_neg (by omega), hg]
    unfold swP
    rw [if_pos (by omega)]
    exact (take_one ps t ht).symm
theorem swP_next (ps : List (List UInt8)) (i : Nat) (ls : List (List UInt8)) : swP ps i ls (i + 1) = ps.take i ++ ls.drop 1 := by
  unfold swP
  rw [if_neg (by omega), Nat.add_sub_cancel, List.drop_eq_nil_of_le (show (ps.take i).length ≤ i by rw [List.length_take]; omega), List.append_nil]
theorem swP_all (ps : List (List UInt8)) (i : Nat) (ls : List (List UInt8)) (hi : i ≤ ps.length) : swP ps i ls (ps.length + 1) = swapPivs ps i ls := by
  unfold swP swapPivs
  rw [if_neg (by omega), Nat.add_sub_cancel, List.take_of_length_le (Nat.le_refl _)]
theorem low_first (ls : List (List UInt8)) : (ls.take (0 + 1)).drop 1 = [] := by cases ls <;> simp
theorem low_next (ls : List (List UInt8)) (j : Nat) (hj : j < ls.length) (h0 : 0 < j) : (ls.take (j + 1)).drop 1 = (ls.take j).drop 1 ++ [ls[j]] := drop_one ls j 1 hj h0

theorem OwnT.weak {w : World} {base b2 : Nat} {v : Value} {xs : List (List UInt8)} (h : OwnT w base v xs) (hb : b2 ≤ base) : OwnT w b2 v xs := owns_base h hb
theorem OwnI.weak {w : World} {base b2 : Nat} {v : Value} {xs : List Int} (h : OwnI w base v xs) (hb : b2 ≤ base) : OwnI w b2 v xs := owns_base h hb
theorem swK_len (ks : List Int) (i : Nat) (rs : List Int) (k : Nat) : (swK ks i rs k).length ≤ 2 * ks.length + rs.length := by
  unfold swK; split <;> simp <;> omega
theorem swP_len (ps : List (List UInt8)) (i : Nat) (ls : List (List UInt8)) (k : Nat) : (swP ps i ls k).length ≤ 2 * ps.length + ls.length := by
  unfold swP; split <;> simp <;> omega

theorem owns_upN {w : World} {base : Nat} {e : TypeId} {size : Nat} {v : Value} {n : Nat} {xs : List Value} (h : w.ownsRow 0 e size v n xs) (hb : ∀ k, v.ownBlock = some k → base ≤ k) : w.ownsRow base e size v n xs := by
  refine ⟨h.1, ?_⟩
  rcases h.2 with h | ⟨g, cap, cur, rfl, _, h2⟩
  · exact .inl h
  · exact .inr ⟨g, cap, cur, rfl, hb g rfl, h2⟩
theorem own_ne {w : World} {base size n r : Nat} {e t : TypeId} {v : Value} {xs : List Value} {A : Array Value} {f : Nat × Nat} (h : w.ownsRow base e size v n xs) (hb : w.heap[r]? = some (.cells A t f)) (he : e ≠ t) : v.ownBlock ≠ some r := by
  rcases h.2 with ⟨rfl, _⟩ | ⟨g, cap, cur, rfl, _, hgg, _⟩
  · intro e; cases e
  · intro e2
    simp only [Value.ownBlock, Option.some.injEq] at e2
    subst e2
    rw [hgg] at hb
    injection hb with hb
    injection hb with _ hb _
    exact he hb
/-- A row of one's own stays where another one, of another type, grows. -/
theorem own_apart {w w' : World} {base size n base2 size2 n2 : Nat} {e e2 : TypeId} {v v2 : Value} {xs xs2 : List Value} (h : w.ownsRow base e size v n xs) (hi : w.ownsRow base2 e2 size2 v2 n2 xs2) (he : e ≠ e2) (hg : w.grownBy w' v2.ownBlock) : w'.ownsRow base e size v n xs := by
  refine World.ownsRow.kept h hg ?_
  rcases hi.2 with ⟨rfl, _⟩ | ⟨g2, cap2, cur2, rfl, _, hgg2, _⟩
  · cases hv : v.ownBlock with
    | none => exact .inl rfl
    | some k => exact .inr (by intro e; cases e)
  · exact .inr (own_ne h hgg2 he)
theorem own_keep {w w' : World} {base size n r : Nat} {e t : TypeId} {v : Value} {xs : List Value} {A : Array Value} {f : Nat × Nat} (h : w.ownsRow base e size v n xs) (hb : w.heap[r]? = some (.cells A t f)) (he : e ≠ t) (hs : Step (fun k => k = r) w w') : w'.ownsRow base e size v n xs :=
  owns_step h hs (fun k hk e => own_ne h hb he (by rw [hk, e]))
theorem block_apart {w w' : World} {base size n r : Nat} {e t : TypeId} {v : Value} {xs : List Value} {A : Array Value} {f : Nat × Nat} (h : w.ownsRow base e size v n xs) (hb : w.heap[r]? = some (.cells A t f)) (he : e ≠ t) (hg : w.grownBy w' v.ownBlock) : w'.heap[r]? = some (.cells A t f) :=
  (hg.block r (lt_of_block hb) (fun e => own_ne h hb he e.symm)).trans hb
theorem OwnT.beside {w w' : World} {base base2 : Nat} {v v2 : Value} {ps : List (List UInt8)} {zs : List Int} (h : OwnT w base v ps) (hi : OwnI w base2 v2 zs) (hg : w.grownBy w' v2.ownBlock) : OwnT w' base v ps := own_apart h hi (by decide) hg
theorem OwnI.beside {w w' : World} {base base2 : Nat} {v v2 : Value} {ps : List (List UInt8)} {zs : List Int} (h : OwnI w base2 v2 zs) (hi : OwnT w base v ps) (hg : w.grownBy w' v.ownBlock) : OwnI w' base2 v2 zs := own_apart h hi (by decide) hg
theorem run_append_I {w : World} (ty : TypeId) (base : Nat) (v : Value) (xs : List Int) (hown : OwnI w base v xs) (ad : Option Addr) (c : Nat) (ys : List Int) (hr : RowAt w noF ad (intsOf ys)) (hc : ad = none → c = 0) (hl : xs.length + ys.length ≤ 1000000000) (hbase : base ≤ w.heap.size) :
    ∃ v' w', (Builtin.append_ #[22, 22] ty #[v, .slice ad ys.length c]).run Tryz.prog w = .ok v' w' ∧ OwnI w' base v' (xs ++ ys) ∧ w.grownBy w' v.ownBlock := by
  obtain ⟨i0, hi, hz0, hz1, hz2⟩ := info_intA
  cases ad with
  | none =>
    obtain rfl : ys = [] := List.map_eq_nil_iff.1 (row1_none hr)
    obtain rfl := hc rfl
    exact ⟨v, w, run_append_owned_none (P := Tryz.prog) w base 22 ty 3 i0 1 Tryz.underlying22 hi v _ _ hown, by rw [List.append_nil]; exact hown, ⟨rfl, rfl, rfl, Nat.le_refl _, fun _ _ _ => rfl⟩⟩
  | some ad =>
    obtain ⟨v', w', h1, h2, h3, h4⟩ := run_append_fresh (P := Tryz.prog) w 22 ty 3 i0 _ 1 8 Tryz.underlying22 hi hz0 hz1 hz2 rfl (by decide) v _ _ (owns_base hown (Nat.zero_le _)) ad ys.length c (intsOf ys) (by rw [ints_length, Nat.mul_one]) (row1_cells hr) (ints_one ys) (le_max (by omega)) (by omega)
    refine ⟨v', w', h1, owns_upN (by rw [List.length_append, ints_append]; exact h2) (fun k hk => ?_), h3⟩
    rcases h4 with h4 | h4
    · rw [h4] at hk
      exact (hown.lt k hk).1
    · exact Nat.le_trans hbase (h4 k hk)
theorem step_append_I {ops : Array Oper} {o : Oper} {a : Act} {w : World} {K : Act → World → Prop} {Q : Exit → Act → World → Prop} {E : Prop}
    (hg : o.guard = none) (s x : Operand) (hop : o.op = Op.call { callee := Callee.builtin Builtin.append, args := #[s, x], argTypes := #[22, 22] })
    (base : Nat) (v : Value) (xs : List Int) (hs : a.eval s = v) (hown : OwnI w base v xs) (ad : Option Addr) (c : Nat) (ys : List Int) (m : Nat) (hm : ys.length = m) (hx : a.eval x = .slice ad m c) (hr : RowAt w noF ad (intsOf ys)) (hc : ad = none → c = 0) (hl : xs.length + ys.length ≤ 1000000000) (hbase : base ≤ w.heap.size)
    (hK : ∀ v' w', OwnI w' base v' (xs ++ ys) → w.grownBy w' v.ownBlock → K (a.put o.dst v') w') :
    if Region.wanted o (yielded ops a.tmps) = true then Oper.wp Tryz.prog o a w K Q else E := by
  have hw : Region.wanted o (yielded ops a.tmps) = true := by simp [Region.wanted, hg]
  rw [if_pos hw]
  subst hm
  obtain ⟨v', w', hrun, r1, r2⟩ := run_append_I o.type base v xs hown ad c ys hr hc hl hbase
  unfold Oper.wp
  simp [execOp, hop, resolve, invoke, builtin, hs, hx, hrun, Result.andThen]
  exact hK v' w' r1 r2
end Go.Proofs.YtgmgoaencaldmaaGreat
