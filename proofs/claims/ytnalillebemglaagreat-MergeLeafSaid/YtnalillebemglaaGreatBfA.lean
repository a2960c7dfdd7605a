/-
  What the small functions of package buff do: keys compared, what can't be; a buffer in memory; how many, how heavy, the list, one found.
  What all messages of a buffer weigh; a key's message.
-/
import Derived.Test.YtnalillebemglaaGreatLfRow
import Derived.Test.YtnalillebemglaaGreatBuffM
namespace Go.Proofs.YtnalillebemglaaGreat
open Go.RowKit Go.Sort
set_option linter.unusedVariables false
set_option linter.unusedSimpArgs false
set_option maxRecDepth 20000

theorem cmpB_neg (a b : List UInt8) : cmpL a b < 0 ↔ a < b := by
  unfold cmpL
  by_cases h : a < b
  · simp [h]
  · by_cases h2 : b < a <;> simp [h, h2]
theorem cmpB_zero (a b : List UInt8) : cmpL a b = 0 ↔ a = b := by
  unfold cmpL
  by_cases h : a < b
  · simp [h]
    intro e
    subst e
    exact lt_irrefl' h
  · by_cases h2 : b < a
    · simp [h, h2]
      intro e
      subst e
      exact lt_irrefl' h2
    · simp [h, h2]
      exact Classical.byContradiction fun e => h2 (lt_or' h e)
/-- A row of messages of one's own. -/
theorem owns_msgs {w : World} {base : Nat} {v : Value} {xs : List Mg} {e : TypeId} (h : w.ownsRow base e 3 v xs.length (msgs xs)) : ∃ a c, v = .slice a xs.length c ∧ xs.length ≤ c ∧ NilOk w a c ∧ MsgsAt w noF a xs := by
  obtain ⟨a, c, rfl, h1, h2⟩ := msgsAt_owns (owns_base h (Nat.zero_le _)) rfl
  refine ⟨a, c, rfl, h1, ⟨owns_none h a c rfl, fun ad e => ?_⟩, h2⟩
  subst e
  rcases h.2 with ⟨h, _⟩ | ⟨g, cap, cur, h, _, hg, _⟩
  · injection h with h
    cases h
  · injection h with h
    exact ⟨g, 0, Option.some.inj h, lt_of_block hg⟩
theorem MsgsAt.stepB {w w' : World} {a : Option Addr} {xs : List Mg} (h : MsgsAt w noF a xs) (hs : Step noF w w') : MsgsAt w' noF a xs := h.step hs (fun _ h => h)

theorem wtM_take (xs : List Mg) (j : Nat) (hj : j < xs.length) : wtM (xs.take (j + 1)) = wtM (xs.take j) + mgW xs[j] := by
  rw [List.take_succ_eq_append_getElem hj, wtM_append, wtM_cons]
  simp [wtM]
/-- Messages of no great length. -/
def SmallM (xs : List Mg) : Prop := xs.length ≤ 1000000 ∧ ∀ x ∈ xs, x.key.length ≤ 1000000 ∧ x.val.length ≤ 1000000
theorem wtM_small (xs : List Mg) (h : ∀ x ∈ xs, x.key.length ≤ 1000000 ∧ x.val.length ≤ 1000000) : wtM xs ≤ xs.length * 2000003 := by
  induction xs with
  | nil => simp [wtM]
  | cons x xs ih =>
    rw [wtM_cons, List.length_cons]
    have := ih (fun y hy => h y (by simp [hy]))
    have := h x (by simp)
    unfold mgW
    omega
theorem good_small {xs : List Mg} (hg : GoodM xs) (hl : xs.length ≤ 1000000) : SmallM xs := ⟨hl, fun x hx => by
  have := (is_iff x).1 (hg x hx)
  have h1 := this.1
  simp [isK] at h1
  rcases this.2 with h | h | h
  · omega
  · rw [h.2]; simp; omega
  · omega⟩
end Go.Proofs.YtnalillebemglaaGreat
namespace Go.Proofs.YtnalillebemglaaGreat
open Go.RowKit Go.Sort
set_option linter.unusedVariables false
set_option linter.unusedSimpArgs false
set_option maxRecDepth 20000

theorem grown_tri {w : World} {g off j : Nat} {x y z : Value} (h1 : w.cell? ⟨g, off + j * 3, none⟩ = some x) (h2 : w.cell? ⟨g, off + j * 3 + 1, none⟩ = some y) (h3 : w.cell? ⟨g, off + j * 3 + 2, none⟩ = some z) : (∀ n os, (grow (w.drewN n) os).cell? ⟨g, off + j * 3, none⟩ = some x) ∧ (∀ n os, (grow (w.drewN n) os).cell? ⟨g, off + j * 3 + 1, none⟩ = some y) ∧ (∀ n os, (grow (w.drewN n) os).cell? ⟨g, off + j * 3 + 2, none⟩ = some z) :=
  ⟨fun n os => cell_grown (World.block_lt_of_cell? w _ h1) h1 n os, fun n os => cell_grown (World.block_lt_of_cell? w _ h2) h2 n os, fun n os => cell_grown (World.block_lt_of_cell? w _ h3) h3 n os⟩
theorem risingM_at {xs : List Mg} (h : RisingM xs) {i j : Nat} (hj : j < xs.length) (hij : i ≤ j) (k : List UInt8) (hk : xs[j].key < k) : (xs[i]'(by omega)).key < k := by
  rcases Nat.lt_or_eq_of_le hij with e | e
  · exact lt_trans' (List.pairwise_iff_getElem.1 h i j (by omega) hj e) hk
  · subst e; exact hk
theorem findM_there (k : List UInt8) (xs : List Mg) (hR : RisingM xs) (i : Nat) (hi : i < xs.length) (hk : xs[i].key = k) : findM k xs = some xs[i] := by
  have := findM_some hR xs[i] (List.getElem_mem hi)
  rw [hk] at this
  exact this
theorem findM_not (k : List UInt8) (xs : List Mg) (hR : RisingM xs) (i : Nat) (h1 : ∀ t (h : t < xs.length), t < i → xs[t].key < k) (h2 : ∀ t (h : t < xs.length), i ≤ t → ¬ xs[t].key < k) (h : ∀ (hi : i < xs.length), xs[i].key ≠ k) : findM k xs = none := by
  refine findM_none (fun x hx e => ?_)
  obtain ⟨t, ht, rfl⟩ := List.getElem_of_mem hx
  by_cases hti : t < i
  · have := h1 t ht hti
    rw [e] at this
    exact lt_irrefl' this
  · by_cases hte : t = i
    · subst hte; exact h ht e
    · have h3 := List.pairwise_iff_getElem.1 hR i t (by omega) ht (by omega)
      rw [e] at h3
      exact h2 i (by omega) (Nat.le_refl _) h3
/-- Where a key is, or would be; and whether it is there. -/
def BsPostM (k : List UInt8) (xs : List Mg) (e : Ending) : Prop := ∃ i, i ≤ xs.length ∧ ((∃ h : i < xs.length, xs[i].key = k ∧ e = .returned (.tuple #[.int .i64 i, .bool true])) ∨ (findM k xs = none ∧ e = .returned (.tuple #[.int .i64 i, .bool false])))

/-- What Find answers. -/
def findMV (k : List UInt8) (xs : List Mg) : Value := match findM k xs with
  | none => .tuple #[.agg #[.int .i64 0, .string (str []), .string (str [])], .bool false]
  | some m => .tuple #[.agg #[.int .i64 m.kind, .string (str m.key), .string (str m.val)], .bool true]
end Go.Proofs.YtnalillebemglaaGreat
