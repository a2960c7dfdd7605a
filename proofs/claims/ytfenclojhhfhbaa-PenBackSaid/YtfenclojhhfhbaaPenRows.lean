/-
  Rows of numbers and of texts that came in, opened as the walks want them.
-/
import Derived.Test.YtfenclojhhfhbaaPenBack
import Derived.Test.YtfenclojhhfhbaaOpens
namespace Go.Proofs.Ytfenclojhhfhbaa
open Go.ChangeShapes Go.WideShapes Go.ChangeAt Go.RowKit
set_option linter.unusedVariables false

theorem own_ok2 : ownKnob Try.prog.godebug = none := by kernel_rfl
theorem laidOut2 : laidOutB Try.prog = true := by kernel_rfl
theorem cellsInt2 : Try.prog.cellsOf 3 = 1 := by kernel_rfl
theorem cellsStr2 : Try.prog.cellsOf 9 = 1 := by kernel_rfl

theorem open_ints_row {H : Type} {enc : TypeId × Value → H} {w : World} {base : Nat} {held : Bool} {a : Option Addr} {len cap : Nat} {d : DataW H} {p : List MemPlace}
    (h : DataW.Trod enc Try.prog w base (fun _ => true) held 49 (.slice a len cap) d p) : len ≤ maxLen ∧ ∃ zs : List Int, zs.length = len ∧ IsInts w a zs := by
  obtain ⟨h1, h2⟩ := open_elems Try.underlying49 (by rw [cellsInt2]; decide) h
  refine ⟨h1, ?_⟩
  rcases h2 with rfl | ⟨b, off, rfl, hb, hel⟩
  · exact ⟨[], rfl, ⟨fun x hx => absurd hx (by simp), .inl rfl⟩⟩
  · rw [cellsInt2] at hel
    have hel2 : ∀ i, i < len → ∃ z : Int, (-9223372036854775808 ≤ z ∧ z ≤ 9223372036854775807) ∧ w.cell? ⟨b, off + i, none⟩ = some (.int .i64 z) := fun i hi => by
      obtain ⟨cs, n, y, h3, h4, h5⟩ := hel i hi
      obtain ⟨z, e, _, hz⟩ := DataW.trod_int Try.underlying3 h5
      subst e
      have := bounds_i64 hz
      refine ⟨z, by omega, ?_⟩
      have h6 := h4 0 (by omega)
      simpa using h6
    obtain ⟨X, hX⟩ := Deep.choose_lt hel2
    refine ⟨(List.range len).map X, by simp, ⟨fun x hx => ?_, .inr ⟨b, off, rfl, fun h => h, fun i hi => ?_⟩⟩⟩
    · simp at hx
      obtain ⟨i, hi, rfl⟩ := hx
      exact (hX i hi).1
    · simp [intsOf] at hi ⊢
      exact (hX i hi).2

theorem open_strs_row {H : Type} {enc : TypeId × Value → H} {w : World} {base : Nat} {held : Bool} {a : Option Addr} {len cap : Nat} {d : DataW H} {p : List MemPlace}
    (h : DataW.Trod enc Try.prog w base (fun _ => true) held 50 (.slice a len cap) d p) : len ≤ maxLen ∧ ∃ ts : List ByteArray, ts.length = len ∧ IsStrs w a ts := by
  obtain ⟨h1, h2⟩ := open_elems Try.underlying50 (by rw [cellsStr2]; decide) h
  refine ⟨h1, ?_⟩
  rcases h2 with rfl | ⟨b, off, rfl, hb, hel⟩
  · exact ⟨[], rfl, ⟨fun x hx => absurd hx (by simp), .inl rfl⟩⟩
  · rw [cellsStr2] at hel
    have hel2 : ∀ i, i < len → ∃ s : ByteArray, s.size ≤ maxLen ∧ w.cell? ⟨b, off + i, none⟩ = some (.string s) := fun i hi => by
      obtain ⟨cs, n, y, h3, h4, h5⟩ := hel i hi
      obtain ⟨z, e, _, hz⟩ := DataW.trod_string Try.underlying9 h5
      subst e
      refine ⟨z, hz, ?_⟩
      have h6 := h4 0 (by omega)
      simpa using h6
    haveI : Inhabited ByteArray := ⟨ByteArray.empty⟩
    obtain ⟨X, hX⟩ := Deep.choose_lt hel2
    refine ⟨(List.range len).map X, by simp, ⟨fun x hx => ?_, .inr ⟨b, off, rfl, fun h => h, fun i hi => ?_⟩⟩⟩
    · simp at hx
      obtain ⟨i, hi, rfl⟩ := hx
      exact (hX i hi).1
    · simp [strsOf] at hi ⊢
      exact (hX i hi).2
end Go.Proofs.Ytfenclojhhfhbaa
