/-
  A node that came in, opened as the walks want it.
-/
import Derived.Test.YtoobelcphcndoaaGreatKeyRows
namespace Go.Proofs.YtoobelcphcndoaaGreat
open Go.ChangeShapes Go.WideShapes Go.ChangeAt Go.RowKit
set_option maxRecDepth 4000
set_option linter.unusedVariables false

theorem open_capD {H : Type} {enc : TypeId × Value → H} {P : Program} {w : World} {base : Nat} {held : Bool} {a : Option Addr} {len cap : Nat} {t e : TypeId} {d : DataW H} {p : List MemPlace} (ht : P.underlying t = some (.slice e))
    (h : DataW.Trod enc P w base (fun _ => true) held t (.slice a len cap) d p) : len ≤ cap := by
  obtain ⟨fuel, hf⟩ := h
  rcases Go.Deep.open_slice ht hf with ⟨hcs, _⟩ | ⟨a', len', cap', m, n, D, Pl, hcs, hb, hl, hm, hmm, hx, hel⟩
  · simp [Value.cells] at hcs
    omega
  · simp [Value.cells] at hcs
    omega
theorem cellsNode12 : Tryz.prog.cellsOf 29 = 5 := by kernel_rfl
theorem cellsBool12 : Tryz.prog.cellsOf 4 = 1 := by kernel_rfl
theorem cellsIts12 : Tryz.prog.cellsOf 22 = 1 := by kernel_rfl
/-- A field that is a struct itself. -/
theorem open_sub {H : Type} {enc : TypeId × Value → H} {P : Program} {w : World} {base : Nat} {spare : Nat → Bool} {held : Bool} {t : TypeId} {fs : Array Field} {fuel : Nat} {cs : List Value} {x : DataW H × List MemPlace} (ht : P.underlying t = some (.struct fs)) (h : DataW.trod enc P w base spare held fuel t cs = some x) (i : Nat) (f : Field) (hf : fs[i]? = some f) (T : TypeId) (o k : Nat) (hT : f.type = T) (ho : f.offset = o) (hc : P.cellsOf T = k) :
    ∃ n y, DataW.trod enc P w base spare held n T ((cs.drop o).take k) = some y := by
  subst hT ho hc
  obtain ⟨xs, n, _, _, hl, hx, hfs⟩ := DataW.trod_struct ht h
  have h1 := hfs i f hf
  have hi : i < xs.length := by rw [hx]; exact (Array.getElem?_eq_some_iff.1 hf).1
  rw [List.getElem?_eq_getElem hi] at h1
  exact ⟨n, _, h1⟩
theorem open_ndv {H : Type} {enc : TypeId × Value → H} {w : World} {base b2 : Nat} {held : Bool} {v : Value} {d : DataW H} {p : List MemPlace}
    (hv : Value.okWide Tryz.prog w .any base 29 v) (h : DataW.Trod enc Tryz.prog w b2 (fun _ => true) held 29 v d p) :
    ∃ (b : Bool) (ia : Option Addr) (ic : Nat) (xs : List Rg) (ka : Option Addr) (kc : Nat) (ks : List Int) (pa : Option Addr) (pc : Nat) (ps : List (List UInt8)) (a : Option Addr) (c : Nat) (ms : List Mg), v = .agg #[.bool b, .slice ia xs.length ic, .slice ka ks.length kc, .slice pa ps.length pc, .slice a ms.length c]
      ∧ (xs.length ≤ maxLen ∧ (ia = none → ic = 0) ∧ RgsAt w ia xs ∧ ∀ x ∈ xs, x.lo.length ≤ maxLen ∧ x.hi.length ≤ maxLen)
      ∧ (ks.length ≤ maxLen ∧ (ka = none → kc = 0) ∧ ks.length ≤ kc ∧ RowAt w noF ka (intsOf ks)) ∧ (ps.length ≤ maxLen ∧ (pa = none → pc = 0) ∧ ps.length ≤ pc ∧ RowAt w noF pa (texts ps) ∧ ∀ t ∈ ps, t.length ≤ maxLen)
      ∧ (ms.length ≤ maxLen ∧ (a = none → c = 0) ∧ MsgsAt w noF a ms ∧ ∀ m ∈ ms, m.key.length ≤ maxLen ∧ m.val.length ≤ maxLen) := by
  obtain ⟨cs, rfl, hsz⟩ := okWide_struct Tryz.underlying29 hv
  rw [cellsNode12] at hsz
  obtain ⟨fuel, hf⟩ := h
  match cs, hsz with
  | ⟨[q0, q1, q2, q3, q4]⟩, _ =>
  simp only [Value.cells] at hf
  obtain ⟨n0, v0, y0, e0, z0⟩ := open_field Tryz.underlying29 hf 0 _ rfl cellsBool12 (by rw [cellsNode12]; decide)
  obtain ⟨n1, v1, y1, e1, z1⟩ := open_field Tryz.underlying29 hf 1 _ rfl cellsIts12 (by rw [cellsNode12]; decide)
  obtain ⟨nf, yf, hf2⟩ := open_sub Tryz.underlying29 hf 2 _ rfl 27 2 3 rfl rfl cellsNdN
  simp only [List.drop_succ_cons, List.drop_zero, List.take_succ_cons, List.take_zero] at hf2
  obtain ⟨n2, v2, y2, e2, z2⟩ := open_field Tryz.underlying27 hf2 0 _ rfl cellsIntsN (by rw [cellsNdN]; decide)
  obtain ⟨n3, v3, y3, e3, z3⟩ := open_field Tryz.underlying27 hf2 1 _ rfl cellsTextsN (by rw [cellsNdN]; decide)
  obtain ⟨n4, v4, y4, e4, z4⟩ := open_field Tryz.underlying27 hf2 2 _ rfl cellsMsgsN (by rw [cellsNdN]; decide)
  obtain ⟨b, hb, _⟩ := DataW.trod_bool Tryz.underlying4 z0
  obtain ⟨ia, il, ic, rfl, hi⟩ := slice_of_trod Tryz.underlying22 z1
  obtain ⟨ka, kl, kc, rfl, hk⟩ := slice_of_trod Tryz.underlying23 z2
  obtain ⟨pa, pl, pc, rfl, hp⟩ := slice_of_trod Tryz.underlying24 z3
  obtain ⟨a, l, c, rfl, hm⟩ := slice_of_trod Tryz.underlying25 z4
  have kcap := open_capD Tryz.underlying23 hk
  have pcap := open_capD Tryz.underlying24 hp
  obtain ⟨⟨i1, i2⟩, xs, rfl, i3, i4⟩ := open_its hi
  obtain ⟨⟨k1, k2⟩, ks, rfl, k3⟩ := open_intsN hk
  obtain ⟨p1, ps, rfl, p2, p3⟩ := open_textsK hp
  obtain ⟨⟨m1, m2⟩, ms, rfl, m3, m4⟩ := open_mss hm
  refine ⟨b, ia, ic, xs, ka, kc, ks, pa, pc, ps, a, c, ms, ?_, ⟨i1, i2, i3, i4⟩, ⟨k1, k2, kcap, k3⟩, ⟨p1, open_cap Tryz.underlying24 hp, pcap, p2, p3⟩, ⟨m1, m2, m3, m4⟩⟩
  simp at hb e0 e1 e2 e3 e4
  rw [e0, e1, e2, e3, e4, hb]
end Go.Proofs.YtoobelcphcndoaaGreat
