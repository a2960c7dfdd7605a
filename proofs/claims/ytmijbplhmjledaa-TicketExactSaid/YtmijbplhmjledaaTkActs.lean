/-
  A row of deeds of layer 6, opened as the walk wants it.
-/
import Derived.Test.YtmijbplhmjledaaSpRows
import Derived.Test.YtmijbplhmjledaaSpC
namespace Go.Proofs.Ytmijbplhmjledaa
open Go.ChangeShapes Go.WideShapes Go.ChangeAt Go.RowKit
set_option linter.unusedVariables false

/-- A deed: its kind, its two numbers, its places, its blocks. -/
structure ActT where
  kind : Int
  A : Int
  B : Int
  la : Option Addr
  lc : Nat
  xs : List (Int × Int)
  na : Option Addr
  nc : Nat
  zs : List Int
def ActT.cells (x : ActT) : List Value := [.int .i64 x.kind, .int .i64 x.A, .int .i64 x.B, .slice x.la x.xs.length x.lc, .slice x.na x.zs.length x.nc]
def ActT.ok (w : World) (x : ActT) : Prop := x.xs.length ≤ maxLen ∧ (∀ y ∈ x.xs, y.1 ≤ 9223372036854775807) ∧ ExtAt w x.la x.xs ∧ x.zs.length ≤ maxLen ∧ RowAt w noF x.na (intsOf x.zs)
def IsActsT (w : World) (a : Option Addr) (xs : List ActT) : Prop :=
  (∀ x ∈ xs, x.ok w) ∧ (xs = [] ∨ ∃ b off, a = some ⟨b, off, none⟩ ∧ b < w.heap.size ∧ ∀ i (h : i < xs.length) (f : Nat) (v : Value), xs[i].cells[f]? = some v → w.cell? ⟨b, off + i * 5 + f, none⟩ = some v)

theorem cellsActT : Try.prog.cellsOf 32 = 5 := by kernel_rfl
theorem cellsExtS : Try.prog.cellsOf 53 = 2 := by kernel_rfl
theorem cellsSlS : Try.prog.cellsOf 29 = 1 := by kernel_rfl
theorem cellsSlI : Try.prog.cellsOf 30 = 1 := by kernel_rfl

theorem open_extsS {H : Type} {enc : TypeId × Value → H} {w : World} {base : Nat} {held : Bool} {a : Option Addr} {len cap : Nat} {d : DataW H} {p : List MemPlace}
    (h : DataW.Trod enc Try.prog w base (fun _ => true) held 29 (.slice a len cap) d p) : len ≤ maxLen ∧ ∃ xs : List (Int × Int), xs.length = len ∧ (∀ y ∈ xs, y.1 ≤ 9223372036854775807) ∧ ExtAt w a xs := by
  obtain ⟨h1, h2⟩ := open_elems Try.underlying29 (by rw [cellsExtS]; decide) h
  refine ⟨h1, ?_⟩
  rcases h2 with rfl | ⟨b, off, rfl, hb, hel⟩
  · exact ⟨[], rfl, fun y hy => by simp at hy, .inl rfl⟩
  · rw [cellsExtS] at hel
    have hel2 : ∀ i, i < len → ∃ x : Int × Int, x.1 ≤ 9223372036854775807 ∧ w.cell? ⟨b, off + i * 2, none⟩ = some (.int .i64 x.1) ∧ w.cell? ⟨b, off + i * 2 + 1, none⟩ = some (.int .i64 x.2) := fun i hi => by
      obtain ⟨cs, n, y, h3, h4, h5⟩ := hel i hi
      obtain ⟨z0, e0, k0⟩ := open_field_int Try.underlying53 h5 0 _ rfl cellsIntS (by rw [cellsExtS]; decide) Try.underlying3
      obtain ⟨z1, e1, k1⟩ := open_field_int Try.underlying53 h5 1 _ rfl cellsIntS (by rw [cellsExtS]; decide) Try.underlying3
      have hz := bounds_i64 k0
      refine ⟨(z0, z1), by simp only; omega, ?_, ?_⟩
      · have := h4 0 (by omega)
        rw [Nat.add_zero] at this
        exact this.trans e0
      · exact (h4 1 (by omega)).trans e1
    obtain ⟨X, hX⟩ := Deep.choose_lt hel2
    refine ⟨(List.range len).map X, by simp, fun y hy => ?_, .inr ⟨b, off, rfl, hb, fun i hi => ?_⟩⟩
    · simp at hy
      obtain ⟨i, hi, rfl⟩ := hy
      exact (hX i hi).1
    · simp at hi ⊢
      exact (hX i hi).2

theorem open_actT {H : Type} {enc : TypeId × Value → H} {w : World} {base : Nat} {held : Bool} {fuel : Nat} {cs : List Value} {y : DataW H × List MemPlace}
    (h : DataW.trod enc Try.prog w base (fun _ => true) held fuel 32 cs = some y) : ∃ x : ActT, x.ok w ∧ ∀ (f : Nat) (v : Value), x.cells[f]? = some v → cs[f]? = some v := by
  obtain ⟨z0, e0, k0⟩ := open_field_int Try.underlying32 h 0 _ rfl cellsIntS (by rw [cellsActT]; decide) Try.underlying3
  obtain ⟨z1, e1, k1⟩ := open_field_int Try.underlying32 h 1 _ rfl cellsIntS (by rw [cellsActT]; decide) Try.underlying3
  obtain ⟨z2, e2, k2⟩ := open_field_int Try.underlying32 h 2 _ rfl cellsIntS (by rw [cellsActT]; decide) Try.underlying3
  obtain ⟨m, v3, y3, e3, t3⟩ := open_field Try.underlying32 h 3 _ rfl cellsSlS (by rw [cellsActT]; decide)
  obtain ⟨m4, v4, y4, e4, t4⟩ := open_field Try.underlying32 h 4 _ rfl cellsSlI (by rw [cellsActT]; decide)
  have hv3 : ∃ a len cap, v3 = .slice a len cap := by
    rcases Deep.open_slice Try.underlying29 t3 with ⟨hcs, _⟩ | ⟨a', len', cap', m', n', D, Pl, hcs, _⟩
    · simp at hcs; exact ⟨_, _, _, hcs⟩
    · simp at hcs; exact ⟨_, _, _, hcs⟩
  obtain ⟨a, len, cap, rfl⟩ := hv3
  have hv4 : ∃ a len cap, v4 = .slice a len cap := by
    rcases Deep.open_slice Try.underlying30 t4 with ⟨hcs, _⟩ | ⟨a', len', cap', m', n', D, Pl, hcs, _⟩
    · simp at hcs; exact ⟨_, _, _, hcs⟩
    · simp at hcs; exact ⟨_, _, _, hcs⟩
  obtain ⟨a4, len4, cap4, rfl⟩ := hv4
  have hT : DataW.Trod enc Try.prog w base (fun _ => true) held 29 (.slice a len cap) y3.1 y3.2 := ⟨m, by simpa [Value.cells] using t3⟩
  obtain ⟨hl, xs, hxl, hxb, hx⟩ := open_extsS hT
  have hT4 : DataW.Trod enc Try.prog w base (fun _ => true) held 30 (.slice a4 len4 cap4) y4.1 y4.2 := ⟨m4, by simpa [Value.cells] using t4⟩
  obtain ⟨hl4, zs, hzl, hzs⟩ := open_intsS hT4
  subst hxl hzl
  refine ⟨⟨z0, z1, z2, a, cap, xs, a4, cap4, zs⟩, ⟨hl, hxb, hx, hl4, hzs⟩, fun f v hv => ?_⟩
  match f, hv with
  | 0, hv => simpa [ActT.cells] using e0.trans hv
  | 1, hv => simpa [ActT.cells] using e1.trans hv
  | 2, hv => simpa [ActT.cells] using e2.trans hv
  | 3, hv => simpa [ActT.cells] using e3.trans hv
  | 4, hv => simpa [ActT.cells] using e4.trans hv
  | k + 5, hv => simp [ActT.cells] at hv

theorem open_actsT {H : Type} {enc : TypeId × Value → H} {w : World} {base : Nat} {held : Bool} {a : Option Addr} {len cap : Nat} {d : DataW H} {p : List MemPlace}
    (h : DataW.Trod enc Try.prog w base (fun _ => true) held 22 (.slice a len cap) d p) : len ≤ maxLen ∧ ∃ xs : List ActT, xs.length = len ∧ IsActsT w a xs := by
  obtain ⟨h1, h2⟩ := open_elems Try.underlying22 (by rw [cellsActT]; decide) h
  refine ⟨h1, ?_⟩
  rcases h2 with rfl | ⟨b, off, rfl, hb, hel⟩
  · exact ⟨[], rfl, ⟨fun x hx => absurd hx (by simp), .inl rfl⟩⟩
  · rw [cellsActT] at hel
    have hel2 : ∀ i, i < len → ∃ x : ActT, x.ok w ∧ ∀ (f : Nat) (v : Value), x.cells[f]? = some v → w.cell? ⟨b, off + i * 5 + f, none⟩ = some v := fun i hi => by
      obtain ⟨cs, n, y, h3, h4, h5⟩ := hel i hi
      obtain ⟨x, hx, hxc⟩ := open_actT h5
      refine ⟨x, hx, fun f v hv => ?_⟩
      have hf : f < 5 := by
        have := (List.getElem?_eq_some_iff.1 hv).1
        simpa [ActT.cells] using this
      rw [h4 f hf]
      exact hxc f v hv
    haveI : Inhabited ActT := ⟨⟨0, 0, 0, none, 0, [], none, 0, []⟩⟩
    obtain ⟨X, hX⟩ := Deep.choose_lt hel2
    refine ⟨(List.range len).map X, by simp, ⟨fun x hx => ?_, .inr ⟨b, off, rfl, hb, fun i hi f v hv => ?_⟩⟩⟩
    · simp at hx
      obtain ⟨i, hi, rfl⟩ := hx
      exact (hX i hi).1
    · simp at hi hv
      exact (hX i hi).2 f v hv
end Go.Proofs.Ytmijbplhmjledaa
