/-
  A row of deeds of layer 3, opened as the walk wants it.
-/
import Derived.Test.YthgcpeibjnflaaaDevRows
namespace Go.Proofs.Ythgcpeibjnflaaa
open Go.ChangeShapes Go.WideShapes Go.ChangeAt Go.RowKit
set_option linter.unusedVariables false

/-- A deed: its kind, its number, its byte, its row keep. -/
structure ActD where
  kind : Int
  at_ : Int
  n : UInt8
  ka : Option Addr
  kc : Nat
  ks : List Bool
def ActD.cells (x : ActD) : List Value := [.int .i64 x.kind, .int .i64 x.at_, .int .u8 x.n.toNat, .slice x.ka x.ks.length x.kc]
def ActD.ok (w : World) (x : ActD) : Prop := x.at_ ≤ 9223372036854775807 ∧ x.ks.length ≤ maxLen ∧ x.ks.length ≤ x.kc ∧ RowAt w noF x.ka (bools x.ks)
def IsActsD (w : World) (a : Option Addr) (xs : List ActD) : Prop :=
  (∀ x ∈ xs, x.ok w) ∧ (xs = [] ∨ ∃ b off, a = some ⟨b, off, none⟩ ∧ b < w.heap.size ∧ ∀ i (h : i < xs.length) (f : Nat) (v : Value), xs[i].cells[f]? = some v → w.cell? ⟨b, off + i * 4 + f, none⟩ = some v)

theorem cellsActD : Try.prog.cellsOf 30 = 4 := by kernel_rfl
theorem cellsU8D : Try.prog.cellsOf 5 = 1 := by kernel_rfl
theorem cellsSlD : Try.prog.cellsOf 28 = 1 := by kernel_rfl

theorem open_actD {H : Type} {enc : TypeId × Value → H} {w : World} {base : Nat} {held : Bool} {fuel : Nat} {cs : List Value} {y : DataW H × List MemPlace}
    (h : DataW.trod enc Try.prog w base (fun _ => true) held fuel 30 cs = some y) : ∃ x : ActD, x.ok w ∧ ∀ (f : Nat) (v : Value), x.cells[f]? = some v → cs[f]? = some v := by
  obtain ⟨z0, e0, k0⟩ := open_field_int Try.underlying30 h 0 _ rfl cellsIntD (by rw [cellsActD]; decide) Try.underlying3
  obtain ⟨z1, e1, k1⟩ := open_field_int Try.underlying30 h 1 _ rfl cellsIntD (by rw [cellsActD]; decide) Try.underlying3
  obtain ⟨z2, e2, k2⟩ := open_field_int Try.underlying30 h 2 _ rfl cellsU8D (by rw [cellsActD]; decide) Try.underlying5
  obtain ⟨m, v3, y3, e3, t3⟩ := open_field Try.underlying30 h 3 _ rfl cellsSlD (by rw [cellsActD]; decide)
  have hz1 := bounds_i64 k1
  have hz2 := bounds_u8 k2
  have hv3 : ∃ a len cap, v3 = .slice a len cap := by
    rcases Deep.open_slice Try.underlying28 t3 with ⟨hcs, _⟩ | ⟨a', len', cap', m', n', D, Pl, hcs, _⟩
    · simp at hcs; exact ⟨_, _, _, hcs⟩
    · simp at hcs; exact ⟨_, _, _, hcs⟩
  obtain ⟨a, len, cap, rfl⟩ := hv3
  have hT : DataW.Trod enc Try.prog w base (fun _ => true) held 28 (.slice a len cap) y3.1 y3.2 := ⟨m, by simpa [Value.cells] using t3⟩
  obtain ⟨hl, ks, hkl, hks⟩ := open_boolsD hT
  have hcap := open_capD Try.underlying28 hT
  subst hkl
  refine ⟨⟨z0, z1, UInt8.ofNat z2.toNat, a, cap, ks⟩, ⟨by show z1 ≤ _; omega, hl, hcap, hks⟩, fun f v hv => ?_⟩
  match f, hv with
  | 0, hv => simpa [ActD.cells] using e0.trans hv
  | 1, hv => simpa [ActD.cells] using e1.trans hv
  | 2, hv =>
    have e : ((UInt8.ofNat z2.toNat).toNat : Int) = z2 := by simp [UInt8.toNat_ofNat']; omega
    have hv' : some (Value.int .u8 ((UInt8.ofNat z2.toNat).toNat : Int)) = some v := hv
    rw [← hv', e]
    exact e2
  | 3, hv => simpa [ActD.cells] using e3.trans hv
  | k + 4, hv => simp [ActD.cells] at hv

theorem open_actsD {H : Type} {enc : TypeId × Value → H} {w : World} {base : Nat} {held : Bool} {a : Option Addr} {len cap : Nat} {d : DataW H} {p : List MemPlace}
    (h : DataW.Trod enc Try.prog w base (fun _ => true) held 22 (.slice a len cap) d p) : len ≤ maxLen ∧ ∃ xs : List ActD, xs.length = len ∧ IsActsD w a xs := by
  obtain ⟨h1, h2⟩ := open_elems Try.underlying22 (by rw [cellsActD]; decide) h
  refine ⟨h1, ?_⟩
  rcases h2 with rfl | ⟨b, off, rfl, hb, hel⟩
  · exact ⟨[], rfl, ⟨fun x hx => absurd hx (by simp), .inl rfl⟩⟩
  · rw [cellsActD] at hel
    have hel2 : ∀ i, i < len → ∃ x : ActD, x.ok w ∧ ∀ (f : Nat) (v : Value), x.cells[f]? = some v → w.cell? ⟨b, off + i * 4 + f, none⟩ = some v := fun i hi => by
      obtain ⟨cs, n, y, h3, h4, h5⟩ := hel i hi
      obtain ⟨x, hx, hxc⟩ := open_actD h5
      refine ⟨x, hx, fun f v hv => ?_⟩
      have hf : f < 4 := by
        have := (List.getElem?_eq_some_iff.1 hv).1
        simpa [ActD.cells] using this
      rw [h4 f hf]
      exact hxc f v hv
    haveI : Inhabited ActD := ⟨⟨0, 0, 0, none, 0, []⟩⟩
    obtain ⟨X, hX⟩ := Deep.choose_lt hel2
    refine ⟨(List.range len).map X, by simp, ⟨fun x hx => ?_, .inr ⟨b, off, rfl, hb, fun i hi f v hv => ?_⟩⟩⟩
    · simp at hx
      obtain ⟨i, hi, rfl⟩ := hx
      exact (hX i hi).1
    · simp at hi hv
      exact (hX i hi).2 f v hv
end Go.Proofs.Ythgcpeibjnflaaa
