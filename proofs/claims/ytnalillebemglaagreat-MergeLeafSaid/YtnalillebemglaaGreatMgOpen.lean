/-
  Rows of rows of messages that came in, opened as the walks want them.
-/
import Derived.Test.YtnalillebemglaaGreatKeyRows
import Derived.Test.YtnalillebemglaaGreatMgA
namespace Go.Proofs.YtnalillebemglaaGreat
open Go.ChangeShapes Go.WideShapes Go.ChangeAt Go.RowKit
set_option maxRecDepth 4000
set_option linter.unusedVariables false

theorem open_capR {H : Type} {enc : TypeId × Value → H} {P : Program} {w : World} {base : Nat} {held : Bool} {a : Option Addr} {len cap : Nat} {t e : TypeId} {d : DataW H} {p : List MemPlace} (ht : P.underlying t = some (.slice e))
    (h : DataW.Trod enc P w base (fun _ => true) held t (.slice a len cap) d p) : len ≤ cap := by
  obtain ⟨fuel, hf⟩ := h
  rcases Go.Deep.open_slice ht hf with ⟨hcs, _⟩ | ⟨a', len', cap', m, n, D, Pl, hcs, hb, hl, hm, hmm, hx, hel⟩
  · simp [Value.cells] at hcs
    omega
  · simp [Value.cells] at hcs
    omega
theorem cellsRunR : Tryz.prog.cellsOf 29 = 1 := by kernel_rfl
theorem open_runs {H : Type} {enc : TypeId × Value → H} {w : World} {base : Nat} {held : Bool} {a : Option Addr} {len cap : Nat} {d : DataW H} {p : List MemPlace}
    (h : DataW.Trod enc Tryz.prog w base (fun _ => true) held 22 (.slice a len cap) d p) : (len ≤ maxLen ∧ (a = none → cap = 0) ∧ len ≤ cap) ∧ ∃ rs : List (List Mg), rs.length = len ∧ RunsAt w a rs ∧ ∀ r ∈ rs, r.length ≤ maxLen ∧ ∀ m ∈ r, m.key.length ≤ maxLen ∧ m.val.length ≤ maxLen := by
  obtain ⟨h1, h2⟩ := open_elems Tryz.underlying22 (by rw [cellsRunR]; decide) h
  refine ⟨⟨h1, open_cap Tryz.underlying22 h, open_capR Tryz.underlying22 h⟩, ?_⟩
  rcases h2 with rfl | ⟨b, off, rfl, hb, hel⟩
  · exact ⟨[], rfl, .inl rfl, fun t ht => by simp at ht⟩
  · rw [cellsRunR] at hel
    have hel2 : ∀ i, i < len → ∃ m : List Mg, (∃ aj cj, w.cell? ⟨b, off + i, none⟩ = some (.slice aj m.length cj) ∧ (aj = none → cj = 0) ∧ m.length ≤ cj ∧ MsgsAt w noF aj m) ∧ m.length ≤ maxLen ∧ ∀ x ∈ m, x.key.length ≤ maxLen ∧ x.val.length ≤ maxLen := fun i hi => by
      obtain ⟨cs, n, y, h3, h4, h5⟩ := hel i hi
      obtain ⟨v, rfl⟩ : ∃ v, cs = [v] := List.length_eq_one_iff.1 h3
      obtain ⟨aj, lj, cj, rfl, hk⟩ := slice_of_trod Tryz.underlying29 h5
      have hcap := open_capR Tryz.underlying29 hk
      obtain ⟨⟨m1, m2⟩, ms, rfl, m3, m4⟩ := open_mss hk
      refine ⟨ms, ⟨aj, cj, ?_, m2, hcap, m3⟩, m1, m4⟩
      have h6 := h4 0 (by omega)
      simpa using h6
    haveI : Inhabited (List Mg) := ⟨[]⟩
    obtain ⟨X, hX⟩ := Deep.choose_lt hel2
    refine ⟨(List.range len).map X, by simp, .inr ⟨b, off, rfl, hb, fun i hi => ?_⟩, fun t ht => ?_⟩
    · simp at hi ⊢
      exact (hX i hi).1
    · simp at ht
      obtain ⟨i, hi, rfl⟩ := ht
      exact (hX i hi).2
end Go.Proofs.YtnalillebemglaaGreat
