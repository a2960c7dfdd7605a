/-
  Ranges and rows of texts that came in, opened as the walks want them.
  Messages that came in, opened as the walks want them.
  Rows of items and of messages that came in, opened as the walks want them.
  Rows of numbers, and nodes, that came in, opened as the walks want them.
-/
import Derived.Test.YtnalillebemglaaGreatKeyRow
import Derived.Test.YtnalillebemglaaGreatRows
import Derived.Test.YtnalillebemglaaGreatOpens
import Derived.Test.YtnalillebemglaaGreatKeyJ
namespace Go.Proofs.YtnalillebemglaaGreat
open Go.ChangeShapes Go.WideShapes Go.ChangeAt Go.RowKit
set_option maxRecDepth 4000
set_option linter.unusedVariables false

theorem own_okK : ownKnob Tryz.prog.godebug = none := by kernel_rfl
theorem laidOutK : laidOutB Tryz.prog = true := by kernel_rfl
theorem cellsStrK : Tryz.prog.cellsOf 9 = 1 := by kernel_rfl
end Go.Proofs.YtnalillebemglaaGreat
namespace Go.Proofs.YtnalillebemglaaGreat
open Go.ChangeShapes Go.WideShapes Go.ChangeAt Go.RowKit
set_option maxRecDepth 4000
set_option linter.unusedVariables false

theorem own_okM : ownKnob Tryz.prog.godebug = none := by kernel_rfl
theorem laidOutM : laidOutB Tryz.prog = true := by kernel_rfl
theorem cellsStrM : Tryz.prog.cellsOf 9 = 1 := by kernel_rfl
theorem cellsIntM : Tryz.prog.cellsOf 3 = 1 := by kernel_rfl
theorem cellsMgM : Tryz.prog.cellsOf 37 = 3 := by kernel_rfl

theorem open_mgM {H : Type} {enc : TypeId × Value → H} {w : World} {base b2 : Nat} {spare : Nat → Bool} {held : Bool} {v : Value} {d : DataW H} {p : List MemPlace}
    (hv : Value.okWide Tryz.prog w .any base 37 v) (h : DataW.Trod enc Tryz.prog w b2 spare held 37 v d p) : ∃ m : Mg, v = m.value ∧ m.key.length ≤ maxLen ∧ m.val.length ≤ maxLen ∧ (-9223372036854775808 ≤ m.kind ∧ m.kind ≤ 9223372036854775807) := by
  obtain ⟨cs, rfl, hsz⟩ := okWide_struct Tryz.underlying37 hv
  rw [cellsMgM] at hsz
  obtain ⟨fuel, hf⟩ := h
  obtain ⟨k, ek, zk⟩ := open_field_int Tryz.underlying37 hf 0 _ rfl cellsIntM (by rw [cellsMgM]; decide) Tryz.underlying3
  obtain ⟨s0, e0, z0⟩ := open_field_string Tryz.underlying37 hf 1 _ rfl cellsStrM (by rw [cellsMgM]; decide) Tryz.underlying9
  obtain ⟨s1, e1, z1⟩ := open_field_string Tryz.underlying37 hf 2 _ rfl cellsStrM (by rw [cellsMgM]; decide) Tryz.underlying9
  have hb := bounds_i64 zk
  refine ⟨⟨k, s0.data.toList, s1.data.toList⟩, ?_, by rw [list_len]; exact z0, by rw [list_len]; exact z1, by show _ ≤ k ∧ k ≤ _; omega⟩
  unfold Mg.value
  rw [← str_of s0, ← str_of s1]
  congr 1
  simp [Value.cells] at ek e0 e1
  apply Array.ext'
  match cs, hsz with
  | ⟨[x, y, z]⟩, _ =>
    simp at ek e0 e1
    rw [ek, e0, e1]
end Go.Proofs.YtnalillebemglaaGreat
namespace Go.Proofs.YtnalillebemglaaGreat
open Go.ChangeShapes Go.WideShapes Go.ChangeAt Go.RowKit
open Go.ChangeMaps (open_string shut_string)
set_option maxRecDepth 4000
set_option linter.unusedVariables false

theorem cellsItL : Tryz.prog.cellsOf 42 = 2 := by kernel_rfl
theorem open_cap {H : Type} {enc : TypeId × Value → H} {P : Program} {w : World} {base : Nat} {held : Bool} {t e : TypeId} {a : Option Addr} {len cap : Nat} {d : DataW H} {p : List MemPlace} (ht : P.underlying t = some (.slice e)) (h : DataW.Trod enc P w base (fun _ => true) held t (.slice a len cap) d p) : a = none → cap = 0 := by
  obtain ⟨fuel, hf⟩ := h
  rcases Go.Deep.open_slice ht hf with ⟨hcs, _⟩ | ⟨a', len', cap', m, n, D, Pl, hcs, _⟩
  · simp [Value.cells] at hcs
    intro _
    exact hcs.2.2
  · simp [Value.cells] at hcs
    obtain ⟨rfl, rfl, rfl⟩ := hcs
    intro h
    cases h
theorem open_its {H : Type} {enc : TypeId × Value → H} {w : World} {base : Nat} {held : Bool} {a : Option Addr} {len cap : Nat} {d : DataW H} {p : List MemPlace}
    (h : DataW.Trod enc Tryz.prog w base (fun _ => true) held 40 (.slice a len cap) d p) : (len ≤ maxLen ∧ (a = none → cap = 0)) ∧ ∃ xs : List Rg, xs.length = len ∧ RgsAt w a xs ∧ ∀ x ∈ xs, x.lo.length ≤ maxLen ∧ x.hi.length ≤ maxLen := by
  obtain ⟨h1, h2⟩ := open_elems Tryz.underlying40 (by rw [cellsItL]; decide) h
  refine ⟨⟨h1, open_cap Tryz.underlying40 h⟩, ?_⟩
  rcases h2 with rfl | ⟨b, off, rfl, hb, hel⟩
  · exact ⟨[], rfl, .inl rfl, fun t ht => by simp at ht⟩
  · rw [cellsItL] at hel
    have hel2 : ∀ i, i < len → ∃ m : Rg, (w.cell? ⟨b, off + i * 2, none⟩ = some (.string (str m.lo)) ∧ w.cell? ⟨b, off + i * 2 + 1, none⟩ = some (.string (str m.hi))) ∧ m.lo.length ≤ maxLen ∧ m.hi.length ≤ maxLen := fun i hi => by
      obtain ⟨cs, n, y, h3, h4, h5⟩ := hel i hi
      obtain ⟨s0, e0, z0⟩ := open_field_string Tryz.underlying42 h5 0 _ rfl cellsStrM (by rw [cellsItL]; decide) Tryz.underlying9
      obtain ⟨s1, e1, z1⟩ := open_field_string Tryz.underlying42 h5 1 _ rfl cellsStrM (by rw [cellsItL]; decide) Tryz.underlying9
      have q0 := h4 0 (by omega)
      have q1 := h4 1 (by omega)
      refine ⟨⟨s0.data.toList, s1.data.toList⟩, ⟨?_, ?_⟩, by rw [list_len]; exact z0, by rw [list_len]; exact z1⟩
      · show _ = some (Value.string (str s0.data.toList))
        rw [← str_of s0]
        exact q0.trans e0
      · show _ = some (Value.string (str s1.data.toList))
        rw [← str_of s1]
        exact q1.trans e1
    haveI : Inhabited Rg := ⟨⟨[], []⟩⟩
    obtain ⟨X, hX⟩ := Deep.choose_lt hel2
    refine ⟨(List.range len).map X, by simp, .inr ⟨b, off, rfl, hb, fun i hi => ?_⟩, fun t ht => ?_⟩
    · simp at hi ⊢
      exact (hX i hi).1
    · simp at ht
      obtain ⟨i, hi, rfl⟩ := ht
      exact (hX i hi).2

theorem open_mss {H : Type} {enc : TypeId × Value → H} {w : World} {base : Nat} {held : Bool} {a : Option Addr} {len cap : Nat} {d : DataW H} {p : List MemPlace}
    (h : DataW.Trod enc Tryz.prog w base (fun _ => true) held 29 (.slice a len cap) d p) : (len ≤ maxLen ∧ (a = none → cap = 0)) ∧ ∃ ms : List Mg, ms.length = len ∧ MsgsAt w noF a ms ∧ ∀ m ∈ ms, m.key.length ≤ maxLen ∧ m.val.length ≤ maxLen := by
  obtain ⟨h1, h2⟩ := open_elems Tryz.underlying29 (by rw [cellsMgM]; decide) h
  refine ⟨⟨h1, open_cap Tryz.underlying29 h⟩, ?_⟩
  rcases h2 with rfl | ⟨b, off, rfl, hb, hel⟩
  · exact ⟨[], rfl, .inl rfl, fun t ht => by simp at ht⟩
  · rw [cellsMgM] at hel
    have hel2 : ∀ i, i < len → ∃ m : Mg, (w.cell? ⟨b, off + i * 3, none⟩ = some (.int .i64 m.kind) ∧ w.cell? ⟨b, off + i * 3 + 1, none⟩ = some (.string (str m.key)) ∧ w.cell? ⟨b, off + i * 3 + 2, none⟩ = some (.string (str m.val))) ∧ m.key.length ≤ maxLen ∧ m.val.length ≤ maxLen := fun i hi => by
      obtain ⟨cs, n, y, h3, h4, h5⟩ := hel i hi
      obtain ⟨k, ek, zk⟩ := open_field_int Tryz.underlying37 h5 0 _ rfl cellsIntM (by rw [cellsMgM]; decide) Tryz.underlying3
      obtain ⟨s0, e0, z0⟩ := open_field_string Tryz.underlying37 h5 1 _ rfl cellsStrM (by rw [cellsMgM]; decide) Tryz.underlying9
      obtain ⟨s1, e1, z1⟩ := open_field_string Tryz.underlying37 h5 2 _ rfl cellsStrM (by rw [cellsMgM]; decide) Tryz.underlying9
      have q0 := h4 0 (by omega)
      have q1 := h4 1 (by omega)
      have q2 := h4 2 (by omega)
      refine ⟨⟨k, s0.data.toList, s1.data.toList⟩, ⟨q0.trans ek, ?_, ?_⟩, by rw [list_len]; exact z0, by rw [list_len]; exact z1⟩
      · show _ = some (Value.string (str s0.data.toList))
        rw [← str_of s0]
        exact q1.trans e0
      · show _ = some (Value.string (str s1.data.toList))
        rw [← str_of s1]
        exact q2.trans e1
    haveI : Inhabited Mg := ⟨Mg.zero⟩
    obtain ⟨X, hX⟩ := Deep.choose_lt hel2
    refine ⟨(List.range len).map X, by simp, .inr ⟨b, off, rfl, fun h => h, hb, fun i hi => ?_⟩, fun t ht => ?_⟩
    · simp at hi ⊢
      exact (hX i hi).1
    · simp at ht
      obtain ⟨i, hi, rfl⟩ := ht
      exact (hX i hi).2

end Go.Proofs.YtnalillebemglaaGreat
namespace Go.Proofs.YtnalillebemglaaGreat
open Go.ChangeShapes Go.WideShapes Go.ChangeAt Go.RowKit
set_option maxRecDepth 4000
set_option linter.unusedVariables false

theorem cellsIntsN : Tryz.prog.cellsOf 149 = 1 := by kernel_rfl
theorem cellsMsgsN : Tryz.prog.cellsOf 29 = 1 := by kernel_rfl
theorem open_intsN {H : Type} {enc : TypeId × Value → H} {w : World} {base : Nat} {held : Bool} {a : Option Addr} {len cap : Nat} {d : DataW H} {p : List MemPlace}
    (h : DataW.Trod enc Tryz.prog w base (fun _ => true) held 149 (.slice a len cap) d p) : (len ≤ maxLen ∧ (a = none → cap = 0)) ∧ ∃ zs : List Int, zs.length = len ∧ RowAt w noF a (intsOf zs) := by
  obtain ⟨h1, h2⟩ := open_elems Tryz.underlying149 (by rw [cellsIntM]; decide) h
  refine ⟨⟨h1, open_cap Tryz.underlying149 h⟩, ?_⟩
  rcases h2 with rfl | ⟨b, off, rfl, hb, hel⟩
  · exact ⟨[], rfl, .inl rfl⟩
  · rw [cellsIntM] at hel
    have hel2 : ∀ i, i < len → ∃ z : Int, w.cell? ⟨b, off + i, none⟩ = some (.int .i64 z) := fun i hi => by
      obtain ⟨cs, n, y, h3, h4, h5⟩ := hel i hi
      obtain ⟨z, e, _, hz⟩ := DataW.trod_int Tryz.underlying3 h5
      subst e
      refine ⟨z, ?_⟩
      have h6 := h4 0 (by omega)
      simpa using h6
    obtain ⟨X, hX⟩ := Deep.choose_lt hel2
    refine ⟨(List.range len).map X, by simp, .inr ⟨b, off, rfl, fun h => h, fun i hi => ?_⟩⟩
    simp [intsOf] at hi ⊢
    exact hX i hi
/-- A field that is a slice. -/
theorem slice_of_trod {H : Type} {enc : TypeId × Value → H} {P : Program} {w : World} {base n : Nat} {spare : Nat → Bool} {held : Bool} {t e : TypeId} {v : Value} {y : DataW H × List MemPlace} (ht : P.underlying t = some (.slice e)) (h : DataW.trod enc P w base spare held n t [v] = some y) :
    ∃ a len cap, v = .slice a len cap ∧ DataW.Trod enc P w base spare held t (.slice a len cap) y.1 y.2 := by
  rcases Go.Deep.open_slice ht h with ⟨hcs, _⟩ | ⟨a', len', cap', m, k, D, Pl, hcs, _⟩
  · have hv : v = .slice none 0 0 := by simpa using hcs
    subst hv
    exact ⟨none, 0, 0, rfl, n, h⟩
  · have hv : v = .slice (some a') len' cap' := by simpa using hcs
    subst hv
    exact ⟨some a', len', cap', rfl, n, h⟩
end Go.Proofs.YtnalillebemglaaGreat
