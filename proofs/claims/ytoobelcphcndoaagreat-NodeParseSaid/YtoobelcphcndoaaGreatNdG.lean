/-
  The law's own functions: what is made of what is told; what is fixed by number.
-/
import Derived.Test.YtoobelcphcndoaaGreatNdGr
import Derived.Test.YtoobelcphcndoaaGreatNdF
namespace Go.Proofs.YtoobelcphcndoaaGreat
open Go.RowKit Go.Sort
set_option linter.unusedVariables false
set_option linter.unusedSimpArgs false
set_option maxRecDepth 20000

/-- The node that is told, if it can be. -/
def mkR (b : Bool) (xs : List Rg) (ks : List Int) (ps : List (List UInt8)) (ms : List Mg) : Option Nv := if b then mkL xs else mkI ks ps ms
theorem mkR_good {b : Bool} {xs : List Rg} {ks : List Int} {ps : List (List UInt8)} {ms : List Mg} {v : Nv} (h : mkR b xs ks ps ms = some v) (hm : Modest xs ks ps ms) : v.good ∧ v.small := by
  unfold mkR at h
  have h1 := hm.il
  have h2 := hm.kl
  have h3 := hm.pl
  have h4 := hm.ml
  cases b with
  | true =>
    rw [if_pos rfl] at h
    have := mkL_good h (by omega)
    exact ⟨this.1, this.2.1⟩
  | false =>
    rw [if_neg (by simp)] at h
    have := mkI_good h (by omega) (by omega) (by omega)
    exact ⟨this.1, this.2.1⟩
set_option maxHeartbeats 1000000 in
theorem made12_any (b : Bool) (xs : List Rg) (ks : List Int) (ps : List (List UInt8)) (ms : List Mg) (hM : Modest xs ks ps ms) (ia ka pa a : Option Addr) (ic kc pc c : Nat) (w : World)
    (hi : RgsAt w ia xs) (hic : ia = none → ic = 0) (hk : RowAt w noF ka (intsOf ks)) (hkc : ka = none → kc = 0) (hp : RowAt w noF pa (texts ps)) (hpc : pa = none → pc = 0) (hm : MsgsAt w noF a ms) (hc : a = none → c = 0) :
    Calls Tryz.prog 9 #[.agg #[.bool b, .slice ia xs.length ic, .slice ka ks.length kc, .slice pa ps.length pc, .slice a ms.length c]] w fun e w' => ∃ y, e = .returned (.pointer y) ∧ Hid (NodeZ w' y (mkR b xs ks ps ms)) ∧ Hid (Step noF w w') := by
  have h1 := hM.il
  have h2 := hM.kl
  have h3 := hM.pl
  have h4 := hM.ml
  obtain ⟨W, hW⟩ : ∃ W, w.alloc (.cells #[.bool b, .slice ia xs.length ic, .slice ka ks.length kc, .slice pa ps.length pc, .slice a ms.length c] 29) = W := ⟨_, rfl⟩
  have S0 : Step noF w W := by rw [← hW]; exact (Step.refl _ _).alloc _
  have cL := leafOf_any xs (by omega) ia ic W (hi.step S0) hic
  have cI := ofN_any ks ps ms (by omega) (by omega) (by omega) (fun m hm => by have := (hM.ms m hm).2; unfold maxLen; omega) ka pa a kc pc c hkc hpc hc W (hk.step S0) (hp.step S0) (hm.stepB S0)
  have bx := ndBox_new w (.bool b) (.slice ia xs.length ic) (.slice ka ks.length kc) (.slice pa ps.length pc) (.slice a ms.length c)
  rw [hW] at bx
  obtain ⟨b0, b1, b2, b3, b4⟩ := bx.all
  have SW := hid S0
  have HW := hid hW
  clear hi hk hp hm hM bx S0 hW
  cases b with
  | true =>
    have HR : Hid (mkR true xs ks ps ms = mkL xs) := rfl
    rw [HR.out]
    go_enter Tryz.func9, Tryz.ntmps9
    go_upto_region 1 with fail
    rw [HW.out]
    go_wp2_with fail
    refine cL.mono ?_
    rintro e w3 ⟨s3, ⟨he, rfl⟩ | ⟨he, q, rfl, hq, L3⟩⟩
    · have S3 := hid (SW.out.trans s3)
      have HM : Hid (mkL xs = none) := by unfold mkL; rw [if_neg he]; exact hid rfl
      clear s3 he
      go_wp2_with fail
      refine (ndOfLeaf_nil _).mono ?_
      rintro e w4 ⟨rfl, rfl⟩
      go_wp2_with fail
      go_ret
      refine ⟨none, rfl, ?_, S3.out⟩
      rw [HM.out]
      trivial
    · have S3 := hid (SW.out.trans s3)
      have HM : Hid (mkL xs = some (.leaf (sortL xs))) := by unfold mkL; rw [if_pos he]; exact hid rfl
      have L4 := hid L3
      clear s3 he L3
      go_wp2_with fail
      refine (ndOfLeaf_any q (sortL xs) _ L4.out).mono ?_
      rintro e w4 ⟨rfl, s4, N4⟩
      have N5 := hid N4
      have S4 := hid (S3.out.trans s4)
      clear s4 N4
      go_wp2_with fail
      go_ret
      refine ⟨_, rfl, ?_, S4.out⟩
      rw [HM.out]
      exact ⟨_, rfl, N5.out⟩
  | false =>
    have HR : Hid (mkR false xs ks ps ms = mkI ks ps ms) := rfl
    rw [HR.out]
    go_enter Tryz.func9, Tryz.ntmps9
    go_upto_region 1 with fail
    rw [HW.out]
    go_wp2_with fail
    refine cI.mono ?_
    rintro e w6 ⟨⟨he, rfl⟩ | ⟨he, q, rfl, N6⟩, s6⟩
    · have S8 := hid (SW.out.trans s6)
      have HM : Hid (mkI ks ps ms = none) := by unfold mkI; rw [he]; exact hid rfl
      clear s6 he
      go_wp2_with fail
      refine (ndOfInner_nil _).mono ?_
      rintro e w4 ⟨rfl, rfl⟩
      go_wp2_with fail
      go_ret
      refine ⟨none, rfl, ?_, S8.out⟩
      rw [HM.out]
      trivial
    · have S8 := hid (SW.out.trans s6)
      have HM : Hid (mkI ks ps ms = some (.inn ⟨ks, ps, putsM ms []⟩)) := by unfold mkI; rw [if_pos he]; exact hid rfl
      have L4 := hid N6
      clear s6 he N6
      go_wp2_with fail
      refine (ndOfInner_any q _ _ L4.out).mono ?_
      rintro e w4 ⟨rfl, s4, N4⟩
      have N5 := hid N4
      have S9 := hid (S8.out.trans s4)
      clear s4 N4
      go_wp2_with fail
      go_ret
      refine ⟨_, rfl, ?_, S9.out⟩
      rw [HM.out]
      exact ⟨_, rfl, N5.out⟩

/-- The one leaf that is told by number. -/
def awV : Nv := .leaf [⟨[97], [98]⟩]
def awL : List UInt8 := [1, 1, 1, 97, 1, 98]
theorem awV_good : awV.good := ⟨by decide, by simp [Rising]⟩
theorem awV_small : awV.small := ⟨by decide, fun x hx => by simp at hx; subst hx; decide⟩
theorem awV_is : IsOf awL awV := ⟨awV_good, by decide, by decide⟩
theorem awV_not (v : Nv) : ¬ IsOf (awL ++ [33]) v := by
  have h := more_none awV awV_good (by decide) 33 v
  have e : awV.bytes = awL := by decide
  rw [e] at h
  exact h
theorem awV_wr : awV.wr = awL ∧ awV.wrE = 0 := by
  have h1 : awV.fits = true := by decide
  have h2 : awV.bytes = awL := by decide
  unfold Nv.wr Nv.wrE
  rw [h1, if_pos rfl, if_pos rfl, h2]
  exact ⟨rfl, rfl⟩
set_option maxHeartbeats 2000000 in
theorem awake12_any (w : World) : Calls Tryz.prog 7 #[] w fun e w' => e = .returned (.bool true) ∧ Step noF w w' := by
  have hs1 : str awL = ({ data := #[1, 1, 1, 97, 1, 98] } : ByteArray) := rfl
  have hs2 : str (awL ++ [33]) = ({ data := #[1, 1, 1, 97, 1, 98, 33] } : ByteArray) := rfl
  obtain ⟨W, hW⟩ : ∃ W, w.alloc (.cells #[.string { data := #[97] }, .string { data := #[98] }] 71) = W := ⟨_, rfl⟩
  have S0 : Hid (Step noF w W) := by show Step _ _ _; rw [← hW]; exact (Step.refl _ _).alloc _
  have R0 : RgsAt W (some ⟨w.heap.size, 0, none⟩) [⟨[97], [98]⟩] := by rw [← hW]; exact rg_new w [97] [98]
  have cL := leafOf_any [⟨[97], [98]⟩] (by decide) (some ⟨w.heap.size, 0, none⟩) 1 W R0 (fun h => by cases h)
  have HE : Hid (ofE [⟨[97], [98]⟩] = 0 ∧ sortL [⟨[97], [98]⟩] = [⟨[97], [98]⟩]) := ⟨by decide, sortL_of_rising _ awV_good.2⟩
  rw [HE.out.1, HE.out.2] at cL
  have cP1 := fun u => ndParse_any awL (by decide) u
  have cP2 := fun u => ndParse_any (awL ++ [33]) (by decide) u
  simp only [hs1] at cP1
  simp only [hs2] at cP2
  have cB := fun (p : Nat) (u : World) (hu : Hid (NodeAt u p awV)) => ndBytes_any p awV awV_small awV_good u hu.out
  simp only [awV_wr.1, awV_wr.2, hs1] at cB
  have HW := hid hW
  clear R0 HE hW hs1 hs2
  go_enter Tryz.func7, Tryz.ntmps7
  go_wp2_with fail
  rw [HW.out]
  refine cL.mono ?_
  rintro e w2 ⟨s2, ⟨he, rfl⟩ | ⟨_, q, rfl, hq, L2⟩⟩
  · exact absurd rfl he
  have S2 := hid (S0.out.trans s2)
  have L3 := hid L2
  clear s2 L2 cL hq
  go_wp2_with fail
  refine (ndOfLeaf_any q _ _ L3.out).mono ?_
  rintro e w3 ⟨rfl, s3, n3⟩
  obtain ⟨p, hp⟩ : ∃ p, w2.heap.size = p := ⟨_, rfl⟩
  rw [hp] at n3 ⊢
  have N3 : Hid (NodeAt w3 p awV) := n3
  have S3 := hid (S2.out.trans s3)
  clear s3 n3 hp
  go_wp2_with fail
  refine (cB p _ N3).mono ?_
  rintro e w4 ⟨rfl, s4⟩
  have N4 := hid (N3.out.step s4)
  have S4 := hid (S3.out.trans s4)
  clear s4 N3 cB
  go_wp2_with fail
  refine (cP1 _).mono ?_
  rintro e w5 ⟨s5, ⟨v, r, hv, rfl, n5⟩ | ⟨hn, rfl⟩⟩
  rotate_left
  · exact absurd awV_is (hn awV)
  have e1 := isOf_one hv awV_is
  subst e1
  have N5 := hid (N4.out.step s5)
  have M5 := hid n5
  have S5 := hid (S4.out.trans s5)
  clear s5 n5 hv N4 cP1
  go_wp2_with fail
  refine (cP2 _).mono ?_
  rintro e w6 ⟨s6, ⟨v, r2, hv, rfl, n6⟩ | ⟨hn, rfl⟩⟩
  · exact absurd hv (awV_not v)
  have N6 := hid (N5.out.step s6)
  have M6 := hid (M5.out.step s6)
  have S6 := hid (S5.out.trans s6)
  clear s6 hn N5 M5 cP2
  go_wp2_with fail
  refine (ndSame_any p r awV awV awV_small awV_small _ N6.out M6.out).mono ?_
  rintro e w7 ⟨rfl, s7⟩
  have N7 := hid (N6.out.step s7)
  have S7 := hid (S6.out.trans s7)
  obtain ⟨q7, c0, c1, _⟩ := N7.out.cellL
  rw [sameV_self]
  clear s7
  go_wp2_with fail
  refine (ndIsLeaf_some p q7 _ c0).mono ?_
  rintro e w8 ⟨rfl, rfl⟩
  go_wp2_with fail
  refine (ndOfLeaf_nil _).mono ?_
  rintro e w8 ⟨rfl, rfl⟩
  go_wp2_with fail
  refine (ndInner_cell p none _ c1).mono ?_
  rintro e w8 ⟨rfl, rfl⟩
  go_wp2_with fail
  go_ret
  exact ⟨rfl, S7.out⟩
theorem isOf_small {l : List UInt8} {v : Nv} (h : IsOf l v) : v.small := (mkO_good (mkO_of h)).2
theorem isOf_self {v : Nv} (hg : v.good) (hf : v.fits = true) : IsOf v.bytes v := ⟨hg, hf, rfl⟩
theorem wr_of {v : Nv} (hf : v.fits = true) : v.wr = v.bytes ∧ v.wrE = 0 := by unfold Nv.wr Nv.wrE; rw [hf]; exact ⟨rfl, rfl⟩
theorem wr_not {v : Nv} (hf : v.fits = false) : v.wr = [] ∧ v.wrE = 8 := by unfold Nv.wr Nv.wrE; rw [hf]; exact ⟨rfl, rfl⟩
end Go.Proofs.YtoobelcphcndoaaGreat
