/-
  A row of deeds, opened as the walks want it.
-/
import Derived.Test.YtfenclojhhfhbaaPenWrites
import Derived.Test.YtfenclojhhfhbaaOpens
namespace Go.Proofs.Ytfenclojhhfhbaa
open Go.ChangeShapes Go.WideShapes Go.ChangeAt Go.RowKit
open Go.ChangeMaps (open_string shut_string)
set_option linter.unusedVariables false

theorem own_ok : ownKnob Try.prog.godebug = none := by kernel_rfl
theorem laidOut : laidOutB Try.prog = true := by kernel_rfl
theorem cellsAct : Try.prog.cellsOf 29 = 6 := by kernel_rfl
theorem cellsInt : Try.prog.cellsOf 3 = 1 := by kernel_rfl
theorem cellsStr : Try.prog.cellsOf 9 = 1 := by kernel_rfl

theorem in64_of {z : Int} (h : (Lit.int .i64 z).wf = true) : in64 z := by
  have := bounds_i64 h
  unfold in64
  omega

/-- A deed's reading. -/
theorem open_act {H : Type} {enc : TypeId × Value → H} {w : World} {base : Nat} {spare : Nat → Bool} {held : Bool} {fuel : Nat} {cs : List Value} {y : DataW H × List MemPlace}
    (h : DataW.trod enc Try.prog w base spare held fuel 29 cs = some y) : ∃ x : ActV, x.ok ∧ ∀ (f : Nat) (v : Value), x.cells[f]? = some v → cs[f]? = some v := by
  obtain ⟨z0, e0, k0⟩ := open_field_int Try.underlying29 h 0 _ rfl cellsInt (by rw [cellsAct]; decide) Try.underlying3
  obtain ⟨z1, e1, k1⟩ := open_field_int Try.underlying29 h 1 _ rfl cellsInt (by rw [cellsAct]; decide) Try.underlying3
  obtain ⟨z2, e2, k2⟩ := open_field_int Try.underlying29 h 2 _ rfl cellsInt (by rw [cellsAct]; decide) Try.underlying3
  obtain ⟨z3, e3, k3⟩ := open_field_int Try.underlying29 h 3 _ rfl cellsInt (by rw [cellsAct]; decide) Try.underlying3
  obtain ⟨s4, e4, k4⟩ := open_field_string Try.underlying29 h 4 _ rfl cellsStr (by rw [cellsAct]; decide) Try.underlying9
  obtain ⟨s5, e5, k5⟩ := open_field_string Try.underlying29 h 5 _ rfl cellsStr (by rw [cellsAct]; decide) Try.underlying9
  refine ⟨⟨z0, z1, z2, z3, s4, s5⟩, ⟨in64_of k0, in64_of k1, in64_of k2, in64_of k3, k4, k5⟩, fun f v hv => ?_⟩
  match f, hv with
  | 0, hv => simpa [ActV.cells] using e0.trans hv
  | 1, hv => simpa [ActV.cells] using e1.trans hv
  | 2, hv => simpa [ActV.cells] using e2.trans hv
  | 3, hv => simpa [ActV.cells] using e3.trans hv
  | 4, hv => simpa [ActV.cells] using e4.trans hv
  | 5, hv => simpa [ActV.cells] using e5.trans hv
  | n + 6, hv => simp [ActV.cells] at hv

theorem open_acts {H : Type} {enc : TypeId × Value → H} {w : World} {base : Nat} {held : Bool} {a : Option Addr} {len cap : Nat} {d : DataW H} {p : List MemPlace}
    (h : DataW.Trod enc Try.prog w base (fun _ => true) held 22 (.slice a len cap) d p) : len ≤ maxLen ∧ ∃ xs : List ActV, xs.length = len ∧ IsActs w a xs := by
  obtain ⟨h1, h2⟩ := open_elems Try.underlying22 (by rw [cellsAct]; decide) h
  refine ⟨h1, ?_⟩
  rcases h2 with rfl | ⟨b, off, rfl, hb, hel⟩
  · exact ⟨[], rfl, ⟨fun x hx => absurd hx (by simp), .inl rfl⟩⟩
  · rw [cellsAct] at hel
    have hel2 : ∀ i, i < len → ∃ x : ActV, x.ok ∧ ∀ (f : Nat) (v : Value), x.cells[f]? = some v → w.cell? ⟨b, off + i * 6 + f, none⟩ = some v := fun i hi => by
      obtain ⟨cs, n, y, h3, h4, h5⟩ := hel i hi
      obtain ⟨x, hx, hxc⟩ := open_act h5
      refine ⟨x, hx, fun f v hv => ?_⟩
      have hf : f < 6 := by
        have := (List.getElem?_eq_some_iff.1 hv).1
        simpa [ActV.cells] using this
      rw [h4 f hf]
      exact hxc f v hv
    haveI : Inhabited ActV := ⟨⟨0, 0, 0, 0, ByteArray.empty, ByteArray.empty⟩⟩
    obtain ⟨X, hX⟩ := Deep.choose_lt hel2
    refine ⟨(List.range len).map X, by simp, ⟨fun x hx => ?_, .inr ⟨b, off, rfl, hb, fun i hi f v hv => ?_⟩⟩⟩
    · simp at hx
      obtain ⟨i, hi, rfl⟩ := hx
      exact (hX i hi).1
    · simp at hi hv
      exact (hX i hi).2 f v hv
end Go.Proofs.Ytfenclojhhfhbaa
