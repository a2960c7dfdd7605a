/-
  Rows of numbers and of bools that came in, opened as the walks want them.
-/
import Derived.Test.YtmijbplhmjledaaSpA
import Derived.Test.YtmijbplhmjledaaOpens
namespace Go.Proofs.Ytmijbplhmjledaa
open Go.ChangeShapes Go.WideShapes Go.ChangeAt Go.RowKit
set_option linter.unusedVariables false

theorem own_okS : ownKnob Try.prog.godebug = none := by kernel_rfl
theorem laidOutS : laidOutB Try.prog = true := by kernel_rfl
theorem cellsIntS : Try.prog.cellsOf 3 = 1 := by kernel_rfl
theorem cellsBoolS : Try.prog.cellsOf 4 = 1 := by kernel_rfl

theorem open_intsS {H : Type} {enc : TypeId × Value → H} {w : World} {base : Nat} {held : Bool} {a : Option Addr} {len cap : Nat} {d : DataW H} {p : List MemPlace}
    (h : DataW.Trod enc Try.prog w base (fun _ => true) held 30 (.slice a len cap) d p) : len ≤ maxLen ∧ ∃ zs : List Int, zs.length = len ∧ RowAt w noF a (intsOf zs) := by
  obtain ⟨h1, h2⟩ := open_elems Try.underlying30 (by rw [cellsIntS]; decide) h
  refine ⟨h1, ?_⟩
  rcases h2 with rfl | ⟨b, off, rfl, hb, hel⟩
  · exact ⟨[], rfl, .inl rfl⟩
  · rw [cellsIntS] at hel
    have hel2 : ∀ i, i < len → ∃ z : Int, w.cell? ⟨b, off + i, none⟩ = some (.int .i64 z) := fun i hi => by
      obtain ⟨cs, n, y, h3, h4, h5⟩ := hel i hi
      obtain ⟨z, e, _, hz⟩ := DataW.trod_int Try.underlying3 h5
      subst e
      refine ⟨z, ?_⟩
      have h6 := h4 0 (by omega)
      simpa using h6
    obtain ⟨X, hX⟩ := Deep.choose_lt hel2
    refine ⟨(List.range len).map X, by simp, .inr ⟨b, off, rfl, fun h => h, fun i hi => ?_⟩⟩
    simp [intsOf] at hi ⊢
    exact hX i hi
theorem open_boolsS {H : Type} {enc : TypeId × Value → H} {w : World} {base : Nat} {held : Bool} {a : Option Addr} {len cap : Nat} {d : DataW H} {p : List MemPlace}
    (h : DataW.Trod enc Try.prog w base (fun _ => true) held 51 (.slice a len cap) d p) : len ≤ maxLen ∧ ∃ ks : List Bool, ks.length = len ∧ RowAt w noF a (bools ks) := by
  obtain ⟨h1, h2⟩ := open_elems Try.underlying51 (by rw [cellsBoolS]; decide) h
  refine ⟨h1, ?_⟩
  rcases h2 with rfl | ⟨b, off, rfl, hb, hel⟩
  · exact ⟨[], rfl, .inl rfl⟩
  · rw [cellsBoolS] at hel
    have hel2 : ∀ i, i < len → ∃ z : Bool, w.cell? ⟨b, off + i, none⟩ = some (.bool z) := fun i hi => by
      obtain ⟨cs, n, y, h3, h4, h5⟩ := hel i hi
      obtain ⟨z, e, _⟩ := DataW.trod_bool Try.underlying4 h5
      subst e
      refine ⟨z, ?_⟩
      have h6 := h4 0 (by omega)
      simpa using h6
    obtain ⟨X, hX⟩ := Deep.choose_lt hel2
    refine ⟨(List.range len).map X, by simp, .inr ⟨b, off, rfl, fun h => h, fun i hi => ?_⟩⟩
    simp [bools] at hi ⊢
    exact hX i hi
end Go.Proofs.Ytmijbplhmjledaa
