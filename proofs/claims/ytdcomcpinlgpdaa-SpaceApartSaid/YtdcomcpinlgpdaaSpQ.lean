/-
  A queue of places in a slice: append at its end, the first one taken off.
-/
import Derived.Test.YtdcomcpinlgpdaaSpG
import Derived.ArgAppend
namespace Go.Proofs.Ytdcomcpinlgpdaa
open Go.RowKit
set_option linter.unusedVariables false

/-- The places xs in a slice v of one's own, in block g. -/
def OwnQ (w : World) (g : Nat) (v : Value) (xs : List (Int × Int)) : Prop :=
  ∃ off c A, v = .slice (some ⟨g, off, none⟩) xs.length c ∧ xs.length ≤ c ∧ w.heap[g]? = some (.cells A 31 (0, 0)) ∧ off + c * 2 ≤ A.size ∧
    ∀ j (h : j < xs.length), A[off + j * 2]? = some (.int .i64 xs[j].1) ∧ A[off + j * 2 + 1]? = some (.int .i64 xs[j].2)
theorem OwnQ.lt {w : World} {g : Nat} {v : Value} {xs : List (Int × Int)} (h : OwnQ w g v xs) : g < w.heap.size := by obtain ⟨_, _, _, _, _, h, _⟩ := h; exact lt_of_block h
theorem OwnQ.keep {w w' : World} {g : Nat} {v : Value} {xs : List (Int × Int)} {F : Nat → Prop} (h : OwnQ w g v xs) (hs : Step F w w') (hg : ¬ F g) : OwnQ w' g v xs := by
  obtain ⟨off, c, A, h1, h2, h3, h4, h5⟩ := h
  exact ⟨off, c, A, h1, h2, (hs.block g (lt_of_block h3) hg).trans h3, h4, h5⟩
theorem OwnQ.step {w w' : World} {g : Nat} {v : Value} {xs : List (Int × Int)} (h : OwnQ w g v xs) (hs : Step noF w w') : OwnQ w' g v xs := h.keep hs (fun x => x)
theorem OwnQ.ext {w : World} {g : Nat} {v : Value} {xs : List (Int × Int)} (h : OwnQ w g v xs) : ∃ a c, v = .slice a xs.length c ∧ ExtAt w a xs := by
  obtain ⟨off, c, A, h1, h2, h3, h4, h5⟩ := h
  exact ⟨_, c, h1, .inr ⟨g, off, rfl, lt_of_block h3, fun j hj => ⟨(cell_of_block h3 _).trans (h5 j hj).1, (cell_of_block h3 _).trans (h5 j hj).2⟩⟩⟩
theorem OwnQ.ne {w : World} {g p : Nat} {v : Value} {xs : List (Int × Int)} {A : Array Value} {t : TypeId} {f : Nat × Nat} (h : OwnQ w g v xs) (hp : w.heap[p]? = some (.cells A t f)) (ht : 31 ≠ t) : g ≠ p := by
  rintro rfl
  obtain ⟨_, _, B, _, _, h, _⟩ := h
  rw [h] at hp
  injection hp with hp
  injection hp with _ hp _
  exact ht hp
/-- The first one off. -/
theorem OwnQ.tail {w : World} {g off c : Nat} {y : Int × Int} {ys : List (Int × Int)} (h : OwnQ w g (.slice (some ⟨g, off, none⟩) (ys.length + 1) c) (y :: ys)) : 1 ≤ c ∧ OwnQ w g (.slice (if c = 1 then some ⟨g, off, none⟩ else some ⟨g, off + 2, none⟩) ys.length (c - 1)) ys := by
  obtain ⟨off', c', A, h1, h2, h3, h4, h5⟩ := h
  injection h1 with e1 _ e3
  injection e1 with e1
  injection e1 with _ e1 _
  subst e1 e3
  simp only [List.length_cons] at h2
  refine ⟨by omega, ?_⟩
  by_cases hc : c = 1
  · subst hc
    have hy : ys = [] := List.eq_nil_of_length_eq_zero (by omega)
    subst hy
    exact ⟨off, 0, A, by simp, Nat.zero_le _, h3, by omega, fun j hj => by simp at hj⟩
  · refine ⟨off + 2, c - 1, A, by rw [if_neg hc], by omega, h3, by omega, fun j hj => ?_⟩
    have := h5 (j + 1) (by simp; omega)
    simp only [List.getElem_cons_succ] at this
    rw [show off + (j + 1) * 2 = off + 2 + j * 2 by omega] at this
    exact this

theorem q_append {P : Program} (w : World) (t ty : TypeId) (i : TypeInfo) (z : Value) (ht : P.underlying t = some (.slice 31)) (hi : P.info? 31 = some i) (hz : i.zero = some z) (hsize : i.size = 2) (hby : i.bytes = 16) (hzs : z.cells.size = 2)
    (g : Nat) (v : Value) (xs : List (Int × Int)) (h : OwnQ w g v xs) (hl : xs.length ≤ 1000) (a : Addr) (x y : Int) (hn : ∀ j u, [Value.int .i64 x, .int .i64 y][j]? = some u → w.cell? (a.add j) = some u) :
    ∃ v' w' g', (Builtin.append_ #[t, t] ty #[v, .slice (some a) 1 1]).run P w = .ok v' w' ∧ OwnQ w' g' v' (xs ++ [(x, y)]) ∧ Step (oneF g) w w' ∧ (g' = g ∨ w.heap.size ≤ g') := by
  obtain ⟨off, c, A, rfl, h2, h3, h4, h5⟩ := h
  by_cases hroom : xs.length + 1 ≤ c
  · have hr := run_append_room_cells (P := P) w t ty 31 i ht hi g off xs.length c a 1 1 [.int .i64 x, .int .i64 y] (by rw [hsize]; rfl) hn (fun u hu => by simp at hu; rcases hu with rfl | rfl <;> rfl) hroom
      (fun j hj => by
        simp only [List.length_cons, List.length_nil] at hj
        rw [cell_of_block h3, Array.getElem?_eq_getElem (by rw [hsize]; omega)]; rfl) (fun j hj => frozen_of_block h3 _)
    rw [hsize] at hr
    have hw : w.setCells g (off + xs.length * 2) [.int .i64 x, .int .i64 y] = (w.setCell ⟨g, off + xs.length * 2, none⟩ (.int .i64 x)).setCell ⟨g, off + xs.length * 2 + 1, none⟩ (.int .i64 y) := rfl
    rw [hw] at hr
    refine ⟨_, _, g, hr, ?_, ((Step.refl (oneF g) w).setCell (p := ⟨g, off + xs.length * 2, none⟩) (.inl rfl) _).setCell (p := ⟨g, off + xs.length * 2 + 1, none⟩) (.inl rfl) _, .inl rfl⟩
    refine ⟨off, c, _, by simp, by simpa using hroom, block_setCell (block_setCell h3 _ _) _ _, by simpa using h4, fun j hj => ?_⟩
    simp only [List.length_append, List.length_cons, List.length_nil] at hj
    by_cases hjx : j < xs.length
    · rw [List.getElem_append_left hjx]
      obtain ⟨e1, e2⟩ := h5 j hjx
      rw [Array.getElem?_setIfInBounds_ne (by omega), Array.getElem?_setIfInBounds_ne (by omega), Array.getElem?_setIfInBounds_ne (by omega), Array.getElem?_setIfInBounds_ne (by omega)]
      exact ⟨e1, e2⟩
    · obtain rfl : j = xs.length := by omega
      rw [List.getElem_append_right (Nat.le_refl _)]
      refine ⟨?_, ?_⟩
      · rw [Array.getElem?_setIfInBounds_ne (by omega), Array.getElem?_setIfInBounds_self_of_lt (by omega)]; simp
      · rw [Array.getElem?_setIfInBounds_self_of_lt (by simp; omega)]; simp
  · obtain ⟨v', w', hr, ho, hg⟩ := run_append_arg_grows (P := P) w t ty 31 i z 2 16 ht hi hz hsize hby hzs (by decide) ⟨g, off, none⟩ xs.length c (pairs xs) (pairs_length xs)
      (fun j u hj => by
        rw [Addr.add_lit, cell_of_block h3]
        obtain ⟨hj1, hj2⟩ := List.getElem?_eq_some_iff.1 hj
        rw [pairs_length] at hj1
        obtain ⟨p1, p2⟩ := pairs_at xs (j / 2) (by omega)
        obtain ⟨e1, e2⟩ := h5 (j / 2) (by omega)
        rcases Nat.mod_two_eq_zero_or_one j with h0 | h0
        · rw [show 2 * (j / 2) = j by omega, hj] at p1
          rw [show off + j / 2 * 2 = off + j by omega] at e1
          rw [e1, ← p1]
        · rw [show 2 * (j / 2) + 1 = j by omega, hj] at p2
          rw [show off + j / 2 * 2 + 1 = off + j by omega] at e2
          rw [e2, ← p2]) a 1 1 [.int .i64 x, .int .i64 y] rfl hn (by omega) (le_max (by omega)) (by omega)
    rcases ho.2 with ⟨_, h0⟩ | ⟨g', cap, cur, rfl, hb, hg', hnc, _, hcs, htk⟩
    · omega
    · refine ⟨_, w', g', hr, ?_, (Step.refl (oneF g) w).grown hg (fun k hk => by cases hk), .inr hb⟩
      have hp : pairs xs ++ [.int .i64 x, .int .i64 y] = pairs (xs ++ [(x, y)]) := by rw [pairs_append]; rfl
      rw [hp] at ho
      refine ⟨0, cap, cur, by simp, by simpa using hnc, hg', by rw [hcs]; omega, fun j hj => ?_⟩
      obtain ⟨p1, p2⟩ := pairs_at (xs ++ [(x, y)]) j hj
      have e1 := ho.cells (g := g') rfl _ _ p1
      have e2 := ho.cells (g := g') rfl _ _ p2
      rw [Addr.add_lit, cell_of_block hg', Nat.zero_add, Nat.mul_comm] at e1 e2
      exact ⟨by rw [Nat.zero_add]; exact e1, by rw [Nat.zero_add]; exact e2⟩

theorem wpList_append_q {P : Program} {ops : Array Oper} {rest : List Oper} {o : Oper} {a : Act} {w : World} {Q : Exit → Act → World → Prop}
    (hgd : o.guard = none) (s x : Operand) (t : TypeId) (hop : o.op = Op.call { callee := Callee.builtin Builtin.append, args := #[s, x], argTypes := #[t, t] })
    (i : TypeInfo) (z : Value) (ht : P.underlying t = some (.slice 31)) (hi : P.info? 31 = some i) (hz : i.zero = some z) (hsize : i.size = 2) (hby : i.bytes = 16) (hzs : z.cells.size = 2)
    (g : Nat) (v : Value) (xs : List (Int × Int)) (hs : a.eval s = v) (h : OwnQ w g v xs) (hl : xs.length ≤ 1000) (ad : Addr) (y1 y2 : Int) (hx : a.eval x = .slice (some ad) 1 1) (hn : ∀ j u, [Value.int .i64 y1, .int .i64 y2][j]? = some u → w.cell? (ad.add j) = some u)
    (hK : ∀ v' w' g', OwnQ w' g' v' (xs ++ [(y1, y2)]) → Step (oneF g) w w' → (g' = g ∨ w.heap.size ≤ g') → wpList P ops Q rest (a.put o.dst v') w') :
    wpList P ops Q (o :: rest) a w := by
  obtain ⟨v', w', g', hrun, r1, r2, r3⟩ := q_append (P := P) w t o.type i z ht hi hz hsize hby hzs g v xs h hl ad y1 y2 hn
  refine wpList_plain hgd fun K hK2 => ?_
  unfold Oper.wp
  simp [execOp, hop, resolve, invoke, builtin, hs, hx, hrun, Result.andThen]
  exact hK2 _ _ (hK v' w' g' r1 r2 r3)
end Go.Proofs.Ytdcomcpinlgpdaa
