/-
  A row of deeds of layer 5, opened as the walk wants it.
-/
import Derived.Test.YtdcomcpinlgpdaaSpRows
namespace Go.Proofs.Ytdcomcpinlgpdaa
open Go.ChangeShapes Go.WideShapes Go.ChangeAt Go.RowKit
set_option linter.unusedVariables false

/-- A deed: its kind, its number, its places. -/
structure ActS where
  kind : Int
  num : Int
  la : Option Addr
  lc : Nat
  xs : List (Int × Int)
def ActS.cells (x : ActS) : List Value := [.int .i64 x.kind, .int .i64 x.num, .slice x.la x.xs.length x.lc]
def ActS.ok (w : World) (x : ActS) : Prop := x.num ≤ 9223372036854775807 ∧ x.xs.length ≤ maxLen ∧ (∀ y ∈ x.xs, y.1 ≤ 9223372036854775807) ∧ ExtAt w x.la x.xs
def IsActsS (w : World) (a : Option Addr) (xs : List ActS) : Prop :=
  (∀ x ∈ xs, x.ok w) ∧ (xs = [] ∨ ∃ b off, a = some ⟨b, off, none⟩ ∧ b < w.heap.size ∧ ∀ i (h : i < xs.length) (f : Nat) (v : Value), xs[i].cells[f]? = some v → w.cell? ⟨b, off + i * 3 + f, none⟩ = some v)

theorem cellsActS : Try.prog.cellsOf 29 = 3 := by kernel_rfl
theorem cellsExtS : Try.prog.cellsOf 31 = 2 := by kernel_rfl
theorem cellsSlS : Try.prog.cellsOf 27 = 1 := by kernel_rfl

theorem open_extsS {H : Type} {enc : TypeId × Value → H} {w : World} {base : Nat} {held : Bool} {a : Option Addr} {len cap : Nat} {d : DataW H} {p : List MemPlace}
    (h : DataW.Trod enc Try.prog w base (fun _ => true) held 27 (.slice a len cap) d p) : len ≤ maxLen ∧ ∃ xs : List (Int × Int), xs.length = len ∧ (∀ y ∈ xs, y.1 ≤ 9223372036854775807) ∧ ExtAt w a xs := by
  obtain ⟨h1, h2⟩ := open_elems Try.underlying27 (by rw [cellsExtS]; decide) h
  refine ⟨h1, ?_⟩
  rcases h2 with rfl | ⟨b, off, rfl, hb, hel⟩
  · exact ⟨[], rfl, fun y hy => by simp at hy, .inl rfl⟩
  · rw [cellsExtS] at hel
    have hel2 : ∀ i, i < len → ∃ x : Int × Int, x.1 ≤ 9223372036854775807 ∧ w.cell? ⟨b, off + i * 2, none⟩ = some (.int .i64 x.1) ∧ w.cell? ⟨b, off + i * 2 + 1, none⟩ = some (.int .i64 x.2) := fun i hi => by
      obtain ⟨cs, n, y, h3, h4, h5⟩ := hel i hi
      obtain ⟨z0, e0, k0⟩ := open_field_int Try.underlying31 h5 0 _ rfl cellsIntS (by rw [cellsExtS]; decide) Try.underlying3
      obtain ⟨z1, e1, k1⟩ := open_field_int Try.underlying31 h5 1 _ rfl cellsIntS (by rw [cellsExtS]; decide) Try.underlying3
      have hz := bounds_i64 k0
      refine ⟨(z0, z1), by simp only; omega, ?_, ?_⟩
      · have := h4 0 (by omega)
        rw [Nat.add_zero] at this
        exact this.trans e0
      · exact (h4 1 (by omega)).trans e1
    obtain ⟨X, hX⟩ := Deep.choose_lt hel2
    refine ⟨(List.range len).map X, by simp, fun y hy => ?_, .inr ⟨b, off, rfl, hb, fun i hi => ?_⟩⟩
    · simp at hy
      obtain ⟨i, hi, rfl⟩ := hy
      exact (hX i hi).1
    · simp at hi ⊢
      exact (hX i hi).2

theorem open_actS {H : Type} {enc : TypeId × Value → H} {w : World} {base : Nat} {held : Bool} {fuel : Nat} {cs : List Value} {y : DataW H × List MemPlace}
    (h : DataW.trod enc Try.prog w base (fun _ => true) held fuel 29 cs = some y) : ∃ x : ActS, x.ok w ∧ ∀ (f : Nat) (v : Value), x.cells[f]? = some v → cs[f]? = some v := by
  obtain ⟨z0, e0, k0⟩ := open_field_int Try.underlying29 h 0 _ rfl cellsIntS (by rw [cellsActS]; decide) Try.underlying3
  obtain ⟨z1, e1, k1⟩ := open_field_int Try.underlying29 h 1 _ rfl cellsIntS (by rw [cellsActS]; decide) Try.underlying3
  obtain ⟨m, v2, y2, e2, t2⟩ := open_field Try.underlying29 h 2 _ rfl cellsSlS (by rw [cellsActS]; decide)
  have hz1 := bounds_i64 k1
  have hv2 : ∃ a len cap, v2 = .slice a len cap := by
    rcases Deep.open_slice Try.underlying27 t2 with ⟨hcs, _⟩ | ⟨a', len', cap', m', n', D, Pl, hcs, _⟩
    · simp at hcs; exact ⟨_, _, _, hcs⟩
    · simp at hcs; exact ⟨_, _, _, hcs⟩
  obtain ⟨a, len, cap, rfl⟩ := hv2
  have hT : DataW.Trod enc Try.prog w base (fun _ => true) held 27 (.slice a len cap) y2.1 y2.2 := ⟨m, by simpa [Value.cells] using t2⟩
  obtain ⟨hl, xs, hxl, hxb, hx⟩ := open_extsS hT
  subst hxl
  refine ⟨⟨z0, z1, a, cap, xs⟩, ⟨by show z1 ≤ _; omega, hl, hxb, hx⟩, fun f v hv => ?_⟩
  match f, hv with
  | 0, hv => simpa [ActS.cells] using e0.trans hv
  | 1, hv => simpa [ActS.cells] using e1.trans hv
  | 2, hv => simpa [ActS.cells] using e2.trans hv
  | k + 3, hv => simp [ActS.cells] at hv

theorem open_actsS {H : Type} {enc : TypeId × Value → H} {w : World} {base : Nat} {held : Bool} {a : Option Addr} {len cap : Nat} {d : DataW H} {p : List MemPlace}
    (h : DataW.Trod enc Try.prog w base (fun _ => true) held 22 (.slice a len cap) d p) : len ≤ maxLen ∧ ∃ xs : List ActS, xs.length = len ∧ IsActsS w a xs := by
  obtain ⟨h1, h2⟩ := open_elems Try.underlying22 (by rw [cellsActS]; decide) h
  refine ⟨h1, ?_⟩
  rcases h2 with rfl | ⟨b, off, rfl, hb, hel⟩
  · exact ⟨[], rfl, ⟨fun x hx => absurd hx (by simp), .inl rfl⟩⟩
  · rw [cellsActS] at hel
    have hel2 : ∀ i, i < len → ∃ x : ActS, x.ok w ∧ ∀ (f : Nat) (v : Value), x.cells[f]? = some v → w.cell? ⟨b, off + i * 3 + f, none⟩ = some v := fun i hi => by
      obtain ⟨cs, n, y, h3, h4, h5⟩ := hel i hi
      obtain ⟨x, hx, hxc⟩ := open_actS h5
      refine ⟨x, hx, fun f v hv => ?_⟩
      have hf : f < 3 := by
        have := (List.getElem?_eq_some_iff.1 hv).1
        simpa [ActS.cells] using this
      rw [h4 f hf]
      exact hxc f v hv
    haveI : Inhabited ActS := ⟨⟨0, 0, none, 0, []⟩⟩
    obtain ⟨X, hX⟩ := Deep.choose_lt hel2
    refine ⟨(List.range len).map X, by simp, ⟨fun x hx => ?_, .inr ⟨b, off, rfl, hb, fun i hi f v hv => ?_⟩⟩⟩
    · simp at hx
      obtain ⟨i, hi, rfl⟩ := hx
      exact (hX i hi).1
    · simp at hi hv
      exact (hX i hi).2 f v hv
end Go.Proofs.Ytdcomcpinlgpdaa
