/-
  Whether a node fits, and its bytes, and whether two nodes are the same, are the answers of the document; of nil there is nothing: NodeBytes is true at every two nodes of what is told (up to 60 items, 30 kids, 40 messages).
-/
import Derived.Test.YtoobelcphcndoaaGreatNdBy
import Derived.Test.YtoobelcphcndoaaGreatNdOpen
namespace Go.Proofs.YtoobelcphcndoaaGreat.nodeBytesDone
open Go.ChangeShapes Go.WideShapes Go.ChangeAt Go.RowKit
open Go.ChangeMaps (open_string shut_string)
set_option linter.unusedVariables false

set_option maxRecDepth 100000 in
theorem lifted (os : Os) (started : os.Started) (H : Type) (enc : TypeId × Value → H) :
    ReturnsInHanded {} Tryz.checked os 3 .any (Rows.nodeBytesSpec.pre6 enc Tryz.prog Tryz.f3 Rows.nodeBytesRow.domain false) (Rows.nodeBytesSpec.post enc Tryz.prog Tryz.f3 false true false false) := by
  refine returnsInHanded_of_change (C := Tryz.checked) own_okM started (by kernel_rfl) Tryz.func3
    (ChangeSpec.witness6 (enc := enc) (C := Tryz.checked) false ⟨#[], #[.agg #[.bool false, .slice none 0 0, .slice none 0 0, .slice none 0 0, .slice none 0 0], .agg #[.bool false, .slice none 0 0, .slice none 0 0, .slice none 0 0, .slice none 0 0]], []⟩ 8 (by kernel_rfl) (by kernel_rfl) (by kernel_rfl) (by kernel_rfl)) ?_
  intro W base args ds gs before hval0 hW hcnd _
  have hval : ∀ (j : Nat) t v, Tryz.f3.params[j]? = some t → args[j]? = some v → Value.okWide Tryz.prog W .any base t v := hval0
  have hW' := hW
  obtain ⟨p, q, hA0, hV, rfl, hfz, hnd⟩ := hW
  have hA : DataW.TrodAll enc Tryz.prog W 0 (fun _ => true) true Tryz.f3.params.toList args.toList ds p := hA0
  rw [Tryz.params3] at hA hval
  obtain ⟨v0, vs0, d0, ds0, p0, q0, hargs, rfl, rfl, h0, r0_⟩ := trodAll_cons hA
  obtain ⟨v1, vs1, d1, ds1, p1, q1, rfl, rfl, rfl, h1, r1_⟩ := trodAll_cons r0_
  obtain ⟨rfl, rfl, rfl⟩ := trodAll_nil r1_
  obtain rfl : args = #[v0, v1] := by cases args; simp_all
  obtain ⟨rfl, rfl⟩ := trodVars_none hV
  have k0 := h0
  have lt0 : ∀ x ∈ p0, x.block < W.heap.size := by obtain ⟨m, hm⟩ := k0; exact DataW.trod_lt m _ _ _ hm
  obtain ⟨b0, ia0, ic0, xs0, ka0, kc0, ks0, pa0, pc0, ps0, a0, cap0, ms0, rfl, ⟨hil0, hic0, his0, hiq0⟩, ⟨hkl0, hkc0, hkn0, hks0⟩, ⟨hpl0, hpc0, hpn0, hps0, hpq0⟩, ⟨hml0, hc0, hms0, hmq0⟩⟩ := open_ndv (hval 0 29 v0 rfl rfl) h0
  have k1 := h1
  have lt1 : ∀ x ∈ p1, x.block < W.heap.size := by obtain ⟨m, hm⟩ := k1; exact DataW.trod_lt m _ _ _ hm
  obtain ⟨b1, ia1, ic1, xs1, ka1, kc1, ks1, pa1, pc1, ps1, a1, cap1, ms1, rfl, ⟨hil1, hic1, his1, hiq1⟩, ⟨hkl1, hkc1, hkn1, hks1⟩, ⟨hpl1, hpc1, hpn1, hps1, hpq1⟩, ⟨hml1, hc1, hms1, hmq1⟩⟩ := open_ndv (hval 1 29 v1 rfl rfl) h1
  clear hA0 hval0
  have hw := nodeBytes_any b0 xs0 hil0 hiq0 ks0 hkl0 ps0 hpl0 hpq0 ms0 hml0 hmq0 ia0 ka0 pa0 a0 ic0 kc0 pc0 cap0 b1 xs1 hil1 hiq1 ks1 hkl1 ps1 hpl1 hpq1 ms1 hml1 hmq1 ia1 ka1 pa1 a1 ic1 kc1 pc1 cap1 W his0 hic0 hks0 hkc0 hkn0 hps0 hpc0 hpn0 hms0 hc0 his1 hic1 hks1 hkc1 hkn1 hps1 hpc1 hpn1 hms1 hc1
  refine hw.mono fun e W' ⟨he, hst⟩ => ?_
  subst he
  have bel : Below W.heap.size W W' := hst.below (fun k hk => hk.elim)
  exact ⟨_, rfl, _, _, _, [], _, [], hW', trodAll_mk1 (shut_bool Tryz.underlying4 _),
    (trodAll_cons_mk (Below.trod laidOutM (by kernel_rfl) (of_decide_eq_true (by kernel_rfl)) k0 bel lt0) (trodAll_cons_mk (Below.trod laidOutM (by kernel_rfl) (of_decide_eq_true (by kernel_rfl)) k1 bel lt1) trodAll_mk0)), rfl, bel.frame _, fun h => by cases h⟩

theorem over : Rows.nodeBytesRow.holds Tryz.pinned (OpenSpec.ofChange Rows.nodeBytesSpec) :=
  OpenClaim.holds_of_wide 3 Tryz.f3 rfl rfl rfl rfl rfl rfl rfl ⟨rfl, rfl, rfl, rfl, rfl⟩ rfl rfl rfl rfl rfl (by kernel_rfl) Tryz.func3 (by kernel_rfl)
    (of_decide_eq_true (by kernel_rfl)) (by unfold Func.isWrapper; first | (rw [if_pos (by decide +kernel)]; kernel_rfl) | (rw [if_neg (by decide +kernel)]; exact ⟨rfl, rfl⟩))
    (fun os started H enc _ => lifted os started H enc)
end Go.Proofs.YtoobelcphcndoaaGreat.nodeBytesDone
namespace Go.Proofs.YtoobelcphcndoaaGreat
theorem nodeBytes_holds : Rows.NodeBytesSaid := nodeBytesDone.over
end Go.Proofs.YtoobelcphcndoaaGreat
