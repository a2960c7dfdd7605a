/-
  Readings opened: a struct's fields of one cell each, a slice's elements. Nothing of the program is named here.
-/
import Derived.ProofKit
import Derived.OpenShut
import Derived.ShutString
import Derived.ChangeOld
import Derived.Below
import Derived.Deep.Slices
import Derived.Test.YtnalillebemglaaGreatFrame
namespace Go.Proofs.YtnalillebemglaaGreat
open Go.RowKit Go.Deep Go.ChangeShapes Go.WideShapes
set_option linter.unusedVariables false

section
variable {H : Type} {enc : TypeId × Value → H} {P : Program} {w : World} {base : Nat} {spare : Nat → Bool} {held : Bool}

/-- One field of one cell. -/
theorem open_field {t : TypeId} {fs : Array Field} {fuel : Nat} {cs : List Value} {x : DataW H × List MemPlace} (ht : P.underlying t = some (.struct fs)) (h : DataW.trod enc P w base spare held fuel t cs = some x) (i : Nat) (f : Field) (hf : fs[i]? = some f)
    (hc : P.cellsOf f.type = 1) (ho : f.offset < P.cellsOf t) : ∃ n v y, cs[f.offset]? = some v ∧ DataW.trod enc P w base spare held n f.type [v] = some y := by
  obtain ⟨xs, n, _, _, hl, hx, hfs⟩ := DataW.trod_struct ht h
  have h1 := hfs i f hf
  have hi : i < xs.length := by rw [hx]; exact (Array.getElem?_eq_some_iff.1 hf).1
  rw [hc, List.getElem?_eq_getElem hi] at h1
  have h2 : (cs.drop f.offset).take 1 = [cs[f.offset]'(by omega)] := by
    rw [List.drop_eq_getElem_cons (by omega)]
    rfl
  rw [h2] at h1
  exact ⟨n, _, _, List.getElem?_eq_getElem (by omega), h1⟩
theorem open_field_int {t : TypeId} {fs : Array Field} {fuel : Nat} {cs : List Value} {x : DataW H × List MemPlace} {k : IntKind} (ht : P.underlying t = some (.struct fs)) (h : DataW.trod enc P w base spare held fuel t cs = some x) (i : Nat) (f : Field) (hf : fs[i]? = some f)
    (hc : P.cellsOf f.type = 1) (ho : f.offset < P.cellsOf t) (hk : P.underlying f.type = some (.int k)) : ∃ z, cs[f.offset]? = some (.int k z) ∧ (Lit.int k z).wf = true := by
  obtain ⟨n, v, y, h1, h2⟩ := open_field ht h i f hf hc ho
  obtain ⟨z, e, _, hz⟩ := DataW.trod_int hk h2
  simp at e
  subst e
  exact ⟨z, h1, hz⟩
theorem open_field_string {t : TypeId} {fs : Array Field} {fuel : Nat} {cs : List Value} {x : DataW H × List MemPlace} (ht : P.underlying t = some (.struct fs)) (h : DataW.trod enc P w base spare held fuel t cs = some x) (i : Nat) (f : Field) (hf : fs[i]? = some f)
    (hc : P.cellsOf f.type = 1) (ho : f.offset < P.cellsOf t) (hk : P.underlying f.type = some .string) : ∃ s : ByteArray, cs[f.offset]? = some (.string s) ∧ s.size ≤ maxLen := by
  obtain ⟨n, v, y, h1, h2⟩ := open_field ht h i f hf hc ho
  obtain ⟨z, e, _, hz⟩ := DataW.trod_string hk h2
  simp at e
  subst e
  exact ⟨z, h1, hz⟩

theorem cells_at {a : Addr} {n : Nat} {cs : List Value} (h : w.cells? base a n = some cs) (j : Nat) (hj : j < n) : w.cell? (a.add j) = cs[j]? ∧ j < cs.length := by
  unfold World.cells? at h
  split at h
  · have h1 := mapM_some_get h j j (by simp [hj])
    have h2 := mapM_some_length h
    simp at h2
    exact ⟨h1, by omega⟩
  · cases h

/-- A slice's value, its address and its elements' readings. -/
theorem open_elems {t e : TypeId} {a : Option Addr} {len cap : Nat} {d : DataW H} {p : List MemPlace} (ht : P.underlying t = some (.slice e)) (hc : 0 < P.cellsOf e) (h : DataW.Trod enc P w base (fun _ => true) held t (.slice a len cap) d p) :
    len ≤ maxLen ∧ ((len = 0) ∨ ∃ b off, a = some ⟨b, off, none⟩ ∧ b < w.heap.size ∧ ∀ i, i < len → ∃ cs n y, cs.length = P.cellsOf e ∧ (∀ f, f < P.cellsOf e → w.cell? ⟨b, off + i * P.cellsOf e + f, none⟩ = cs[f]?) ∧ DataW.trod enc P w base (fun _ => true) held n e cs = some y) := by
  obtain ⟨fuel, hf⟩ := h
  rcases open_slice ht hf with ⟨hcs, _⟩ | ⟨a', len', cap', m, n, D, Pl, hcs, hb, hl, hm, hmm, hx, hel⟩
  · simp [Value.cells] at hcs
    exact ⟨by omega, .inl hcs.2.1⟩
  · simp [Value.cells] at hcs
    obtain ⟨rfl, rfl, rfl⟩ := hcs
    refine ⟨by omega, ?_⟩
    by_cases h0 : len = 0
    · exact .inl h0
    · right
      obtain ⟨b, off, spot⟩ := a'
      simp at hmm
      subst hmm
      obtain ⟨cs0, h1, h2⟩ := hel 0 (by omega)
      obtain ⟨h3, h4⟩ := cells_at h1 0 hc
      rw [List.getElem?_eq_getElem h4] at h3
      have hspot : spot = none := by simpa [Addr.add] using World.cell?_spot h3
      subst hspot
      have hbl : b < w.heap.size := by
        have := World.block_lt_of_cell? w _ h3
        simpa [Addr.add] using this
      refine ⟨b, off, rfl, hbl, fun i hi => ?_⟩
      obtain ⟨cs, h5, h6⟩ := hel i (by omega)
      refine ⟨cs, n, _, ?_, fun f hf => ?_, h6⟩
      · obtain ⟨_, h8⟩ := cells_at h5 (P.cellsOf e - 1) (by omega)
        have h9 := h5
        unfold World.cells? at h9
        split at h9
        · have := mapM_some_length h9
          simpa using this
        · cases h9
      · obtain ⟨h7, _⟩ := cells_at h5 f hf
        rw [← h7, add_add, Addr.add_lit, Nat.add_assoc]
end
end Go.Proofs.YtnalillebemglaaGreat
