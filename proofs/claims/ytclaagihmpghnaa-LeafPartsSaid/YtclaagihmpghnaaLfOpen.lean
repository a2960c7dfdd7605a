/-
  Rows of items and of messages that came in, opened as the walks want them.
-/
import Derived.Test.YtclaagihmpghnaaKeyRows
import Derived.Test.YtclaagihmpghnaaMsgOpen
import Derived.Test.YtclaagihmpghnaaKeyJ
namespace Go.Proofs.Ytclaagihmpghnaa
open Go.ChangeShapes Go.WideShapes Go.ChangeAt Go.RowKit
open Go.ChangeMaps (open_string shut_string)
set_option maxRecDepth 4000
set_option linter.unusedVariables false

theorem cellsItL : Try.prog.cellsOf 46 = 2 := by kernel_rfl
theorem open_cap {H : Type} {enc : TypeId × Value → H} {P : Program} {w : World} {base : Nat} {held : Bool} {t e : TypeId} {a : Option Addr} {len cap : Nat} {d : DataW H} {p : List MemPlace} (ht : P.underlying t = some (.slice e)) (h : DataW.Trod enc P w base (fun _ => true) held t (.slice a len cap) d p) : a = none → cap = 0 := by
  obtain ⟨fuel, hf⟩ := h
  rcases Go.Deep.open_slice ht hf with ⟨hcs, _⟩ | ⟨a', len', cap', m, n, D, Pl, hcs, _⟩
  · simp [Value.cells] at hcs
    intro _
    exact hcs.2.2
  · simp [Value.cells] at hcs
    obtain ⟨rfl, rfl, rfl⟩ := hcs
    intro h
    cases h
theorem open_its {H : Type} {enc : TypeId × Value → H} {w : World} {base : Nat} {held : Bool} {a : Option Addr} {len cap : Nat} {d : DataW H} {p : List MemPlace}
    (h : DataW.Trod enc Try.prog w base (fun _ => true) held 22 (.slice a len cap) d p) : (len ≤ maxLen ∧ (a = none → cap = 0)) ∧ ∃ xs : List Rg, xs.length = len ∧ RgsAt w a xs ∧ ∀ x ∈ xs, x.lo.length ≤ maxLen ∧ x.hi.length ≤ maxLen := by
  obtain ⟨h1, h2⟩ := open_elems Try.underlying22 (by rw [cellsItL]; decide) h
  refine ⟨⟨h1, open_cap Try.underlying22 h⟩, ?_⟩
  rcases h2 with rfl | ⟨b, off, rfl, hb, hel⟩
  · exact ⟨[], rfl, .inl rfl, fun t ht => by simp at ht⟩
  · rw [cellsItL] at hel
    have hel2 : ∀ i, i < len → ∃ m : Rg, (w.cell? ⟨b, off + i * 2, none⟩ = some (.string (str m.lo)) ∧ w.cell? ⟨b, off + i * 2 + 1, none⟩ = some (.string (str m.hi))) ∧ m.lo.length ≤ maxLen ∧ m.hi.length ≤ maxLen := fun i hi => by
      obtain ⟨cs, n, y, h3, h4, h5⟩ := hel i hi
      obtain ⟨s0, e0, z0⟩ := open_field_string Try.underlying46 h5 0 _ rfl cellsStrM (by rw [cellsItL]; decide) Try.underlying9
      obtain ⟨s1, e1, z1⟩ := open_field_string Try.underlying46 h5 1 _ rfl cellsStrM (by rw [cellsItL]; decide) Try.underlying9
      have q0 := h4 0 (by omega)
      have q1 := h4 1 (by omega)
      refine ⟨⟨s0.data.toList, s1.data.toList⟩, ⟨?_, ?_⟩, by rw [list_len]; exact z0, by rw [list_len]; exact z1⟩
      · show _ = some (Value.string (str s0.data.toList))
        rw [← str_of s0]
        exact q0.trans e0
      · show _ = some (Value.string (str s1.data.toList))
        rw [← str_of s1]
        exact q1.trans e1
    haveI : Inhabited Rg := ⟨⟨[], []⟩⟩
    obtain ⟨X, hX⟩ := Deep.choose_lt hel2
    refine ⟨(List.range len).map X, by simp, .inr ⟨b, off, rfl, hb, fun i hi => ?_⟩, fun t ht => ?_⟩
    · simp at hi ⊢
      exact (hX i hi).1
    · simp at ht
      obtain ⟨i, hi, rfl⟩ := ht
      exact (hX i hi).2

theorem open_mss {H : Type} {enc : TypeId × Value → H} {w : World} {base : Nat} {held : Bool} {a : Option Addr} {len cap : Nat} {d : DataW H} {p : List MemPlace}
    (h : DataW.Trod enc Try.prog w base (fun _ => true) held 23 (.slice a len cap) d p) : (len ≤ maxLen ∧ (a = none → cap = 0)) ∧ ∃ ms : List Mg, ms.length = len ∧ MsgsAt w noF a ms ∧ ∀ m ∈ ms, m.key.length ≤ maxLen ∧ m.val.length ≤ maxLen := by
  obtain ⟨h1, h2⟩ := open_elems Try.underlying23 (by rw [cellsMgM]; decide) h
  refine ⟨⟨h1, open_cap Try.underlying23 h⟩, ?_⟩
  rcases h2 with rfl | ⟨b, off, rfl, hb, hel⟩
  · exact ⟨[], rfl, .inl rfl, fun t ht => by simp at ht⟩
  · rw [cellsMgM] at hel
    have hel2 : ∀ i, i < len → ∃ m : Mg, (w.cell? ⟨b, off + i * 3, none⟩ = some (.int .i64 m.kind) ∧ w.cell? ⟨b, off + i * 3 + 1, none⟩ = some (.string (str m.key)) ∧ w.cell? ⟨b, off + i * 3 + 2, none⟩ = some (.string (str m.val))) ∧ m.key.length ≤ maxLen ∧ m.val.length ≤ maxLen := fun i hi => by
      obtain ⟨cs, n, y, h3, h4, h5⟩ := hel i hi
      obtain ⟨k, ek, zk⟩ := open_field_int Try.underlying58 h5 0 _ rfl cellsIntM (by rw [cellsMgM]; decide) Try.underlying3
      obtain ⟨s0, e0, z0⟩ := open_field_string Try.underlying58 h5 1 _ rfl cellsStrM (by rw [cellsMgM]; decide) Try.underlying9
      obtain ⟨s1, e1, z1⟩ := open_field_string Try.underlying58 h5 2 _ rfl cellsStrM (by rw [cellsMgM]; decide) Try.underlying9
      have q0 := h4 0 (by omega)
      have q1 := h4 1 (by omega)
      have q2 := h4 2 (by omega)
      refine ⟨⟨k, s0.data.toList, s1.data.toList⟩, ⟨q0.trans ek, ?_, ?_⟩, by rw [list_len]; exact z0, by rw [list_len]; exact z1⟩
      · show _ = some (Value.string (str s0.data.toList))
        rw [← str_of s0]
        exact q1.trans e0
      · show _ = some (Value.string (str s1.data.toList))
        rw [← str_of s1]
        exact q2.trans e1
    haveI : Inhabited Mg := ⟨Mg.zero⟩
    obtain ⟨X, hX⟩ := Deep.choose_lt hel2
    refine ⟨(List.range len).map X, by simp, .inr ⟨b, off, rfl, fun h => h, hb, fun i hi => ?_⟩, fun t ht => ?_⟩
    · simp at hi ⊢
      exact (hX i hi).1
    · simp at ht
      obtain ⟨i, hi, rfl⟩ := ht
      exact (hX i hi).2

end Go.Proofs.Ytclaagihmpghnaa
