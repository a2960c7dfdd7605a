/-
  Rows of numbers and of bools that came in, opened as the walks want them.
-/
import Derived.Test.YthgcpeibjnflaaaDevA
import Derived.Test.YthgcpeibjnflaaaOpens
namespace Go.Proofs.Ythgcpeibjnflaaa
open Go.ChangeShapes Go.WideShapes Go.ChangeAt Go.RowKit
set_option linter.unusedVariables false

theorem own_okD : ownKnob Try.prog.godebug = none := by kernel_rfl
theorem laidOutD : laidOutB Try.prog = true := by kernel_rfl
theorem cellsIntD : Try.prog.cellsOf 3 = 1 := by kernel_rfl
theorem cellsBoolD : Try.prog.cellsOf 4 = 1 := by kernel_rfl

theorem open_intsD {H : Type} {enc : TypeId × Value → H} {w : World} {base : Nat} {held : Bool} {a : Option Addr} {len cap : Nat} {d : DataW H} {p : List MemPlace}
    (h : DataW.Trod enc Try.prog w base (fun _ => true) held 46 (.slice a len cap) d p) : len ≤ maxLen ∧ ∃ zs : List Int, zs.length = len ∧ RowAt w noF a (intsOf zs) := by
  obtain ⟨h1, h2⟩ := open_elems Try.underlying46 (by rw [cellsIntD]; decide) h
  refine ⟨h1, ?_⟩
  rcases h2 with rfl | ⟨b, off, rfl, hb, hel⟩
  · exact ⟨[], rfl, .inl rfl⟩
  · rw [cellsIntD] at hel
    have hel2 : ∀ i, i < len → ∃ z : Int, w.cell? ⟨b, off + i, none⟩ = some (.int .i64 z) := fun i hi => by
      obtain ⟨cs, n, y, h3, h4, h5⟩ := hel i hi
      obtain ⟨z, e, _, hz⟩ := DataW.trod_int Try.underlying3 h5
      subst e
      refine ⟨z, ?_⟩
      have h6 := h4 0 (by omega)
      simpa using h6
    obtain ⟨X, hX⟩ := Deep.choose_lt hel2
    refine ⟨(List.range len).map X, by simp, .inr ⟨b, off, rfl, fun h => h, fun i hi => ?_⟩⟩
    simp [intsOf] at hi ⊢
    exact hX i hi
theorem open_capD {H : Type} {enc : TypeId × Value → H} {w : World} {base : Nat} {held : Bool} {a : Option Addr} {len cap : Nat} {t e : TypeId} {d : DataW H} {p : List MemPlace} (ht : Try.prog.underlying t = some (.slice e))
    (h : DataW.Trod enc Try.prog w base (fun _ => true) held t (.slice a len cap) d p) : len ≤ cap := by
  obtain ⟨fuel, hf⟩ := h
  rcases Deep.open_slice ht hf with ⟨hcs, _⟩ | ⟨a', len', cap', m, n, D, Pl, hcs, hb, hl, hm, hmm, hx, hel⟩
  · simp [Value.cells] at hcs
    omega
  · simp [Value.cells] at hcs
    omega
theorem open_boolsD {H : Type} {enc : TypeId × Value → H} {w : World} {base : Nat} {held : Bool} {a : Option Addr} {len cap : Nat} {d : DataW H} {p : List MemPlace}
    (h : DataW.Trod enc Try.prog w base (fun _ => true) held 28 (.slice a len cap) d p) : len ≤ maxLen ∧ ∃ ks : List Bool, ks.length = len ∧ RowAt w noF a (bools ks) := by
  obtain ⟨h1, h2⟩ := open_elems Try.underlying28 (by rw [cellsBoolD]; decide) h
  refine ⟨h1, ?_⟩
  rcases h2 with rfl | ⟨b, off, rfl, hb, hel⟩
  · exact ⟨[], rfl, .inl rfl⟩
  · rw [cellsBoolD] at hel
    have hel2 : ∀ i, i < len → ∃ z : Bool, w.cell? ⟨b, off + i, none⟩ = some (.bool z) := fun i hi => by
      obtain ⟨cs, n, y, h3, h4, h5⟩ := hel i hi
      obtain ⟨z, e, _⟩ := DataW.trod_bool Try.underlying4 h5
      subst e
      refine ⟨z, ?_⟩
      have h6 := h4 0 (by omega)
      simpa using h6
    obtain ⟨X, hX⟩ := Deep.choose_lt hel2
    refine ⟨(List.range len).map X, by simp, .inr ⟨b, off, rfl, fun h => h, fun i hi => ?_⟩⟩
    simp [bools] at hi ⊢
    exact hX i hi
end Go.Proofs.Ythgcpeibjnflaaa
