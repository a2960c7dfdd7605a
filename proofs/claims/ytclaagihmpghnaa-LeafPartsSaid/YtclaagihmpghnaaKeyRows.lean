/-
  Ranges and rows of texts that came in, opened as the walks want them.
-/
import Derived.Test.YtclaagihmpghnaaKeyRow
import Derived.Test.YtclaagihmpghnaaRows
import Derived.Test.YtclaagihmpghnaaOpens
namespace Go.Proofs.Ytclaagihmpghnaa
open Go.ChangeShapes Go.WideShapes Go.ChangeAt Go.RowKit
set_option maxRecDepth 4000
set_option linter.unusedVariables false

theorem own_okK : ownKnob Try.prog.godebug = none := by kernel_rfl
theorem laidOutK : laidOutB Try.prog = true := by kernel_rfl
theorem cellsStrK : Try.prog.cellsOf 9 = 1 := by kernel_rfl
theorem cellsRgK : Try.prog.cellsOf 25 = 2 := by kernel_rfl

theorem open_rgK {H : Type} {enc : TypeId × Value → H} {w : World} {base b2 : Nat} {spare : Nat → Bool} {held : Bool} {v : Value} {d : DataW H} {p : List MemPlace}
    (hv : Value.okWide Try.prog w .any base 25 v) (h : DataW.Trod enc Try.prog w b2 spare held 25 v d p) : ∃ g : Rg, v = g.val ∧ g.lo.length ≤ maxLen ∧ g.hi.length ≤ maxLen := by
  obtain ⟨cs, rfl, hsz⟩ := okWide_struct Try.underlying25 hv
  rw [cellsRgK] at hsz
  obtain ⟨fuel, hf⟩ := h
  obtain ⟨s0, e0, z0⟩ := open_field_string Try.underlying25 hf 0 _ rfl cellsStrK (by rw [cellsRgK]; decide) Try.underlying9
  obtain ⟨s1, e1, z1⟩ := open_field_string Try.underlying25 hf 1 _ rfl cellsStrK (by rw [cellsRgK]; decide) Try.underlying9
  refine ⟨⟨s0.data.toList, s1.data.toList⟩, ?_, by rw [list_len]; exact z0, by rw [list_len]; exact z1⟩
  unfold Rg.val
  rw [← str_of s0, ← str_of s1]
  congr 1
  simp [Value.cells] at e0 e1
  apply Array.ext'
  match cs, hsz with
  | ⟨[x, y]⟩, _ =>
    simp at e0 e1
    rw [e0, e1]

theorem open_textsK {H : Type} {enc : TypeId × Value → H} {w : World} {base : Nat} {held : Bool} {a : Option Addr} {len cap : Nat} {d : DataW H} {p : List MemPlace}
    (h : DataW.Trod enc Try.prog w base (fun _ => true) held 91 (.slice a len cap) d p) : len ≤ maxLen ∧ ∃ ps : List (List UInt8), ps.length = len ∧ RowAt w noF a (texts ps) ∧ ∀ t ∈ ps, t.length ≤ maxLen := by
  obtain ⟨h1, h2⟩ := open_elems Try.underlying91 (by rw [cellsStrK]; decide) h
  refine ⟨h1, ?_⟩
  rcases h2 with rfl | ⟨b, off, rfl, hb, hel⟩
  · exact ⟨[], rfl, .inl rfl, fun t ht => by simp at ht⟩
  · rw [cellsStrK] at hel
    have hel2 : ∀ i, i < len → ∃ z : List UInt8, w.cell? ⟨b, off + i, none⟩ = some (.string (str z)) ∧ z.length ≤ maxLen := fun i hi => by
      obtain ⟨cs, n, y, h3, h4, h5⟩ := hel i hi
      obtain ⟨z, e, _, hz⟩ := DataW.trod_string Try.underlying9 h5
      subst e
      refine ⟨z.data.toList, ?_, by rw [list_len]; exact hz⟩
      have h6 := h4 0 (by omega)
      rw [← str_of z]
      simpa using h6
    obtain ⟨X, hX⟩ := Deep.choose_lt hel2
    refine ⟨(List.range len).map X, by simp, .inr ⟨b, off, rfl, fun h => h, fun i hi => ?_⟩, fun t ht => ?_⟩
    · simp [texts] at hi ⊢
      exact (hX i hi).1
    · simp at ht
      obtain ⟨i, hi, rfl⟩ := ht
      exact (hX i hi).2
end Go.Proofs.Ytclaagihmpghnaa
