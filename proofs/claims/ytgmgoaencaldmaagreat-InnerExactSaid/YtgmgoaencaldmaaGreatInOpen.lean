/-
  Nodes and parts that came in, opened as the walks want them; how much room a slice has.
-/
import Derived.Test.YtgmgoaencaldmaaGreatKeyRows
import Derived.Test.YtgmgoaencaldmaaGreatInD
namespace Go.Proofs.YtgmgoaencaldmaaGreat
open Go.ChangeShapes Go.WideShapes Go.ChangeAt Go.RowKit
set_option maxRecDepth 4000
set_option linter.unusedVariables false

theorem open_capN {H : Type} {enc : TypeId × Value → H} {P : Program} {w : World} {base : Nat} {held : Bool} {a : Option Addr} {len cap : Nat} {t e : TypeId} {d : DataW H} {p : List MemPlace} (ht : P.underlying t = some (.slice e))
    (h : DataW.Trod enc P w base (fun _ => true) held t (.slice a len cap) d p) : len ≤ cap := by
  obtain ⟨fuel, hf⟩ := h
  rcases Go.Deep.open_slice ht hf with ⟨hcs, _⟩ | ⟨a', len', cap', m, n, D, Pl, hcs, hb, hl, hm, hmm, hx, hel⟩
  · simp [Value.cells] at hcs
    omega
  · simp [Value.cells] at hcs
    omega
theorem open_nd2 {H : Type} {enc : TypeId × Value → H} {w : World} {base b2 : Nat} {held : Bool} {v : Value} {d : DataW H} {p : List MemPlace}
    (hv : Value.okWide Tryz.prog w .any base 34 v) (h : DataW.Trod enc Tryz.prog w b2 (fun _ => true) held 34 v d p) :
    ∃ (ka : Option Addr) (kc : Nat) (ks : List Int) (pa : Option Addr) (pc : Nat) (ps : List (List UInt8)) (a : Option Addr) (c : Nat) (ms : List Mg), v = .agg #[.slice ka ks.length kc, .slice pa ps.length pc, .slice a ms.length c]
      ∧ (ks.length ≤ maxLen ∧ (ka = none → kc = 0) ∧ ks.length ≤ kc ∧ RowAt w noF ka (intsOf ks)) ∧ (ps.length ≤ maxLen ∧ (pa = none → pc = 0) ∧ ps.length ≤ pc ∧ RowAt w noF pa (texts ps) ∧ ∀ t ∈ ps, t.length ≤ maxLen)
      ∧ (ms.length ≤ maxLen ∧ (a = none → c = 0) ∧ MsgsAt w noF a ms ∧ ∀ m ∈ ms, m.key.length ≤ maxLen ∧ m.val.length ≤ maxLen) := by
  obtain ⟨cs, rfl, hsz⟩ := okWide_struct Tryz.underlying34 hv
  rw [cellsNdN] at hsz
  obtain ⟨fuel, hf⟩ := h
  obtain ⟨n0, v0, y0, e0, z0⟩ := open_field Tryz.underlying34 hf 0 _ rfl cellsIntsN (by rw [cellsNdN]; decide)
  obtain ⟨n1, v1, y1, e1, z1⟩ := open_field Tryz.underlying34 hf 1 _ rfl cellsTextsN (by rw [cellsNdN]; decide)
  obtain ⟨n2, v2, y2, e2, z2⟩ := open_field Tryz.underlying34 hf 2 _ rfl cellsMsgsN (by rw [cellsNdN]; decide)
  obtain ⟨ka, kl, kc, rfl, hk⟩ := slice_of_trod Tryz.underlying22 z0
  obtain ⟨pa, pl, pc, rfl, hp⟩ := slice_of_trod Tryz.underlying23 z1
  obtain ⟨a, l, c, rfl, hm⟩ := slice_of_trod Tryz.underlying24 z2
  have kcap := open_capN Tryz.underlying22 hk
  have pcap := open_capN Tryz.underlying23 hp
  obtain ⟨⟨k1, k2⟩, ks, rfl, k3⟩ := open_intsN hk
  obtain ⟨p1, ps, rfl, p2, p3⟩ := open_textsK hp
  obtain ⟨⟨m1, m2⟩, ms, rfl, m3, m4⟩ := open_mss hm
  refine ⟨ka, kc, ks, pa, pc, ps, a, c, ms, ?_, ⟨k1, k2, kcap, k3⟩, ⟨p1, open_cap Tryz.underlying23 hp, pcap, p2, p3⟩, ⟨m1, m2, m3, m4⟩⟩
  congr 1
  simp [Value.cells] at e0 e1 e2
  apply Array.ext'
  match cs, hsz with
  | ⟨[x, y, z]⟩, _ =>
    simp at e0 e1 e2
    rw [e0, e1, e2]

theorem cellsPtN : Tryz.prog.cellsOf 55 = 2 := by kernel_rfl
theorem open_pts {H : Type} {enc : TypeId × Value → H} {w : World} {base : Nat} {held : Bool} {a : Option Addr} {len cap : Nat} {d : DataW H} {p : List MemPlace}
    (h : DataW.Trod enc Tryz.prog w base (fun _ => true) held 53 (.slice a len cap) d p) : (len ≤ maxLen ∧ (a = none → cap = 0)) ∧ ∃ xs : List (List UInt8 × Int), xs.length = len ∧ PtsAt w a xs ∧ ∀ x ∈ xs, x.1.length ≤ maxLen := by
  obtain ⟨h1, h2⟩ := open_elems Tryz.underlying53 (by rw [cellsPtN]; decide) h
  refine ⟨⟨h1, open_cap Tryz.underlying53 h⟩, ?_⟩
  rcases h2 with rfl | ⟨b, off, rfl, hb, hel⟩
  · exact ⟨[], rfl, .inl rfl, fun t ht => by simp at ht⟩
  · rw [cellsPtN] at hel
    have hel2 : ∀ i, i < len → ∃ m : List UInt8 × Int, (w.cell? ⟨b, off + i * 2, none⟩ = some (.string (str m.1)) ∧ w.cell? ⟨b, off + i * 2 + 1, none⟩ = some (.int .i64 m.2)) ∧ m.1.length ≤ maxLen := fun i hi => by
      obtain ⟨cs, n, y, h3, h4, h5⟩ := hel i hi
      obtain ⟨s0, e0, z0⟩ := open_field_string Tryz.underlying55 h5 0 _ rfl cellsStrM (by rw [cellsPtN]; decide) Tryz.underlying9
      obtain ⟨k, ek, zk⟩ := open_field_int Tryz.underlying55 h5 1 _ rfl cellsIntM (by rw [cellsPtN]; decide) Tryz.underlying3
      have q0 := h4 0 (by omega)
      have q1 := h4 1 (by omega)
      refine ⟨⟨s0.data.toList, k⟩, ⟨?_, q1.trans ek⟩, by rw [list_len]; exact z0⟩
      show _ = some (Value.string (str s0.data.toList))
      rw [← str_of s0]
      exact q0.trans e0
    haveI : Inhabited (List UInt8 × Int) := ⟨([], 0)⟩
    obtain ⟨X, hX⟩ := Deep.choose_lt hel2
    refine ⟨(List.range len).map X, by simp, .inr ⟨b, off, rfl, hb, fun i hi => ?_⟩, fun t ht => ?_⟩
    · simp at hi ⊢
      exact (hX i hi).1
    · simp at ht
      obtain ⟨i, hi, rfl⟩ := ht
      exact (hX i hi).2
end Go.Proofs.YtgmgoaencaldmaaGreat
