/-
  Rows of numbers, and nodes, that came in, opened as the walks want them.
-/
import Derived.Test.YtgmgoaencaldmaaKeyRows
import Derived.Test.YtgmgoaencaldmaaInA
namespace Go.Proofs.Ytgmgoaencaldmaa
open Go.ChangeShapes Go.WideShapes Go.ChangeAt Go.RowKit
set_option maxRecDepth 4000
set_option linter.unusedVariables false

theorem cellsNdN : Try.prog.cellsOf 49 = 3 := by kernel_rfl
theorem cellsIntsN : Try.prog.cellsOf 22 = 1 := by kernel_rfl
theorem cellsTextsN : Try.prog.cellsOf 23 = 1 := by kernel_rfl
theorem cellsMsgsN : Try.prog.cellsOf 24 = 1 := by kernel_rfl
theorem open_intsN {H : Type} {enc : TypeId × Value → H} {w : World} {base : Nat} {held : Bool} {a : Option Addr} {len cap : Nat} {d : DataW H} {p : List MemPlace}
    (h : DataW.Trod enc Try.prog w base (fun _ => true) held 22 (.slice a len cap) d p) : (len ≤ maxLen ∧ (a = none → cap = 0)) ∧ ∃ zs : List Int, zs.length = len ∧ RowAt w noF a (intsOf zs) := by
  obtain ⟨h1, h2⟩ := open_elems Try.underlying22 (by rw [cellsIntM]; decide) h
  refine ⟨⟨h1, open_cap Try.underlying22 h⟩, ?_⟩
  rcases h2 with rfl | ⟨b, off, rfl, hb, hel⟩
  · exact ⟨[], rfl, .inl rfl⟩
  · rw [cellsIntM] at hel
    have hel2 : ∀ i, i < len → ∃ z : Int, w.cell? ⟨b, off + i, none⟩ = some (.int .i64 z) := fun i hi => by
      obtain ⟨cs, n, y, h3, h4, h5⟩ := hel i hi
      obtain ⟨z, e, _, hz⟩ := DataW.trod_int Try.underlying3 h5
      subst e
      refine ⟨z, ?_⟩
      have h6 := h4 0 (by omega)
      simpa using h6
    obtain ⟨X, hX⟩ := Deep.choose_lt hel2
    refine ⟨(List.range len).map X, by simp, .inr ⟨b, off, rfl, fun h => h, fun i hi => ?_⟩⟩
    simp [intsOf] at hi ⊢
    exact hX i hi
/-- A field that is a slice. -/
theorem slice_of_trod {H : Type} {enc : TypeId × Value → H} {P : Program} {w : World} {base n : Nat} {spare : Nat → Bool} {held : Bool} {t e : TypeId} {v : Value} {y : DataW H × List MemPlace} (ht : P.underlying t = some (.slice e)) (h : DataW.trod enc P w base spare held n t [v] = some y) :
    ∃ a len cap, v = .slice a len cap ∧ DataW.Trod enc P w base spare held t (.slice a len cap) y.1 y.2 := by
  rcases Go.Deep.open_slice ht h with ⟨hcs, _⟩ | ⟨a', len', cap', m, k, D, Pl, hcs, _⟩
  · have hv : v = .slice none 0 0 := by simpa using hcs
    subst hv
    exact ⟨none, 0, 0, rfl, n, h⟩
  · have hv : v = .slice (some a') len' cap' := by simpa using hcs
    subst hv
    exact ⟨some a', len', cap', rfl, n, h⟩
theorem open_nd {H : Type} {enc : TypeId × Value → H} {w : World} {base b2 : Nat} {held : Bool} {v : Value} {d : DataW H} {p : List MemPlace}
    (hv : Value.okWide Try.prog w .any base 49 v) (h : DataW.Trod enc Try.prog w b2 (fun _ => true) held 49 v d p) :
    ∃ (ka : Option Addr) (kc : Nat) (ks : List Int) (pa : Option Addr) (pc : Nat) (ps : List (List UInt8)) (a : Option Addr) (c : Nat) (ms : List Mg), v = .agg #[.slice ka ks.length kc, .slice pa ps.length pc, .slice a ms.length c]
      ∧ (ks.length ≤ maxLen ∧ (ka = none → kc = 0) ∧ RowAt w noF ka (intsOf ks)) ∧ (ps.length ≤ maxLen ∧ (pa = none → pc = 0) ∧ RowAt w noF pa (texts ps) ∧ ∀ t ∈ ps, t.length ≤ maxLen)
      ∧ (ms.length ≤ maxLen ∧ (a = none → c = 0) ∧ MsgsAt w noF a ms ∧ ∀ m ∈ ms, m.key.length ≤ maxLen ∧ m.val.length ≤ maxLen) := by
  obtain ⟨cs, rfl, hsz⟩ := okWide_struct Try.underlying49 hv
  rw [cellsNdN] at hsz
  obtain ⟨fuel, hf⟩ := h
  obtain ⟨n0, v0, y0, e0, z0⟩ := open_field Try.underlying49 hf 0 _ rfl cellsIntsN (by rw [cellsNdN]; decide)
  obtain ⟨n1, v1, y1, e1, z1⟩ := open_field Try.underlying49 hf 1 _ rfl cellsTextsN (by rw [cellsNdN]; decide)
  obtain ⟨n2, v2, y2, e2, z2⟩ := open_field Try.underlying49 hf 2 _ rfl cellsMsgsN (by rw [cellsNdN]; decide)
  obtain ⟨ka, kl, kc, rfl, hk⟩ := slice_of_trod Try.underlying22 z0
  obtain ⟨pa, pl, pc, rfl, hp⟩ := slice_of_trod Try.underlying23 z1
  obtain ⟨a, l, c, rfl, hm⟩ := slice_of_trod Try.underlying24 z2
  obtain ⟨⟨k1, k2⟩, ks, rfl, k3⟩ := open_intsN hk
  obtain ⟨p1, ps, rfl, p2, p3⟩ := open_textsK hp
  obtain ⟨⟨m1, m2⟩, ms, rfl, m3, m4⟩ := open_mss hm
  refine ⟨ka, kc, ks, pa, pc, ps, a, c, ms, ?_, ⟨k1, k2, k3⟩, ⟨p1, open_cap Try.underlying23 hp, p2, p3⟩, ⟨m1, m2, m3, m4⟩⟩
  congr 1
  simp [Value.cells] at e0 e1 e2
  apply Array.ext'
  match cs, hsz with
  | ⟨[x, y, z]⟩, _ =>
    simp at e0 e1 e2
    rw [e0, e1, e2]
end Go.Proofs.Ytgmgoaencaldmaa
