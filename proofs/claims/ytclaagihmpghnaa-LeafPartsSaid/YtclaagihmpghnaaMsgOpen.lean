/-
  Messages that came in, opened as the walks want them.
-/
import Derived.Test.YtclaagihmpghnaaKeyJ
import Derived.Test.YtclaagihmpghnaaRows
import Derived.Test.YtclaagihmpghnaaOpens
namespace Go.Proofs.Ytclaagihmpghnaa
open Go.ChangeShapes Go.WideShapes Go.ChangeAt Go.RowKit
set_option maxRecDepth 4000
set_option linter.unusedVariables false

theorem own_okM : ownKnob Try.prog.godebug = none := by kernel_rfl
theorem laidOutM : laidOutB Try.prog = true := by kernel_rfl
theorem cellsStrM : Try.prog.cellsOf 9 = 1 := by kernel_rfl
theorem cellsIntM : Try.prog.cellsOf 3 = 1 := by kernel_rfl
theorem cellsMgM : Try.prog.cellsOf 58 = 3 := by kernel_rfl

theorem open_mgM {H : Type} {enc : TypeId × Value → H} {w : World} {base b2 : Nat} {spare : Nat → Bool} {held : Bool} {v : Value} {d : DataW H} {p : List MemPlace}
    (hv : Value.okWide Try.prog w .any base 58 v) (h : DataW.Trod enc Try.prog w b2 spare held 58 v d p) : ∃ m : Mg, v = m.value ∧ m.key.length ≤ maxLen ∧ m.val.length ≤ maxLen ∧ (-9223372036854775808 ≤ m.kind ∧ m.kind ≤ 9223372036854775807) := by
  obtain ⟨cs, rfl, hsz⟩ := okWide_struct Try.underlying58 hv
  rw [cellsMgM] at hsz
  obtain ⟨fuel, hf⟩ := h
  obtain ⟨k, ek, zk⟩ := open_field_int Try.underlying58 hf 0 _ rfl cellsIntM (by rw [cellsMgM]; decide) Try.underlying3
  obtain ⟨s0, e0, z0⟩ := open_field_string Try.underlying58 hf 1 _ rfl cellsStrM (by rw [cellsMgM]; decide) Try.underlying9
  obtain ⟨s1, e1, z1⟩ := open_field_string Try.underlying58 hf 2 _ rfl cellsStrM (by rw [cellsMgM]; decide) Try.underlying9
  have hb := bounds_i64 zk
  refine ⟨⟨k, s0.data.toList, s1.data.toList⟩, ?_, by rw [list_len]; exact z0, by rw [list_len]; exact z1, by show _ ≤ k ∧ k ≤ _; omega⟩
  unfold Mg.value
  rw [← str_of s0, ← str_of s1]
  congr 1
  simp [Value.cells] at ek e0 e1
  apply Array.ext'
  match cs, hsz with
  | ⟨[x, y, z]⟩, _ =>
    simp at ek e0 e1
    rw [ek, e0, e1]
end Go.Proofs.Ytclaagihmpghnaa
