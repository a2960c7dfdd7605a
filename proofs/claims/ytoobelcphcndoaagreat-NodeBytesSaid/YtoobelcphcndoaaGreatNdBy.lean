/-
  The walk of NodeBytes (written by genby.py).
-/
import Derived.Test.YtoobelcphcndoaaGreatNdRC
import Derived.Test.YtoobelcphcndoaaGreatNdByA
import Derived.Test.YtoobelcphcndoaaGreatNdByBt
import Derived.Test.YtoobelcphcndoaaGreatNdByBf
namespace Go.Proofs.YtoobelcphcndoaaGreat
open Go.RowKit Go.Sort
set_option linter.unusedVariables false
set_option linter.unusedSimpArgs false
set_option maxRecDepth 20000

theorem mkR_leaf {b : Bool} {xs : List Rg} {ks : List Int} {ps : List (List UInt8)} {ms : List Mg} {v : Nv} (h : mkR b xs ks ps ms = some v) : v.isLeaf = b := by
  unfold mkR at h
  cases b with
  | true =>
    rw [if_pos rfl] at h
    unfold mkL at h
    split at h
    · rw [← Option.some.inj h]; rfl
    · cases h
  | false =>
    rw [if_neg (by simp)] at h
    unfold mkI at h
    split at h
    · rw [← Option.some.inj h]; rfl
    · cases h
/-- The kids, whatever it is. -/
theorem ndKids_any (p : Nat) (v : Nv) (hs : v.small) (w : World) (h : NodeAt w p v) : Calls Tryz.prog 14 #[.pointer (some ⟨p, 0, none⟩)] w fun e w' => ∃ x, e = .returned x ∧ Step noF w w' ∧ ∃ a c, x = .slice a v.nd.kids.length c := by
  cases v using Nv.two with
  | leaf xs =>
    obtain ⟨q, c0, c1, hL⟩ := h.cellL
    refine (ndKids_none p w c1).mono ?_
    rintro e w' ⟨rfl, rfl⟩
    exact ⟨_, rfl, Step.refl _ _, none, 0, rfl⟩
  | inn d =>
    obtain ⟨q, c0, c1, hL⟩ := h.cellI
    refine (ndKids_inn p q d hs.1 w c1 hL).mono ?_
    rintro e w' ⟨a, c, rfl, _, s⟩
    exact ⟨_, rfl, s.out, a, c, rfl⟩
set_option maxHeartbeats 16000000 in
theorem nodeBytes_any (b : Bool) (xs : List Rg) (hil : xs.length ≤ maxLen) (hiq : ∀ x ∈ xs, x.lo.length ≤ maxLen ∧ x.hi.length ≤ maxLen) (ks : List Int) (hkl : ks.length ≤ maxLen) (ps : List (List UInt8)) (hpl : ps.length ≤ maxLen) (hpq : ∀ x ∈ ps, x.length ≤ maxLen) (ms : List Mg) (hml : ms.length ≤ maxLen) (hmq : ∀ x ∈ ms, x.key.length ≤ maxLen ∧ x.val.length ≤ maxLen) (ia ka pa a : Option Addr) (ic kc pc c : Nat)
    (b1 : Bool) (xs1 : List Rg) (hil1 : xs1.length ≤ maxLen) (hiq1 : ∀ x ∈ xs1, x.lo.length ≤ maxLen ∧ x.hi.length ≤ maxLen) (ks1 : List Int) (hkl1 : ks1.length ≤ maxLen) (ps1 : List (List UInt8)) (hpl1 : ps1.length ≤ maxLen) (hpq1 : ∀ x ∈ ps1, x.length ≤ maxLen) (ms1 : List Mg) (hml1 : ms1.length ≤ maxLen) (hmq1 : ∀ x ∈ ms1, x.key.length ≤ maxLen ∧ x.val.length ≤ maxLen) (ia1 ka1 pa1 a1 : Option Addr) (ic1 kc1 pc1 c1 : Nat)
    (w : World) (hi : RgsAt w ia xs) (hic : ia = none → ic = 0) (hk : RowAt w noF ka (intsOf ks)) (hkc : ka = none → kc = 0) (hkn : ks.length ≤ kc) (hp : RowAt w noF pa (texts ps)) (hpc : pa = none → pc = 0) (hpn : ps.length ≤ pc) (hm : MsgsAt w noF a ms) (hc : a = none → c = 0)
    (hi1 : RgsAt w ia1 xs1) (hic1 : ia1 = none → ic1 = 0) (hk1 : RowAt w noF ka1 (intsOf ks1)) (hkc1 : ka1 = none → kc1 = 0) (hkn1 : ks1.length ≤ kc1) (hp1 : RowAt w noF pa1 (texts ps1)) (hpc1 : pa1 = none → pc1 = 0) (hpn1 : ps1.length ≤ pc1) (hm1 : MsgsAt w noF a1 ms1) (hc1 : a1 = none → c1 = 0) :
    Calls Tryz.prog 3 #[.agg #[.bool b, .slice ia xs.length ic, .slice ka ks.length kc, .slice pa ps.length pc, .slice a ms.length c], .agg #[.bool b1, .slice ia1 xs1.length ic1, .slice ka1 ks1.length kc1, .slice pa1 ps1.length pc1, .slice a1 ms1.length c1]] w fun e w' => e = .returned (.bool true) ∧ Step noF w w' := by
  obtain ⟨W, hW⟩ : ∃ W, (w.alloc (.cells #[.bool b, .slice ia xs.length ic, .slice ka ks.length kc, .slice pa ps.length pc, .slice a ms.length c] 29)).alloc (.cells #[.bool b1, .slice ia1 xs1.length ic1, .slice ka1 ks1.length kc1, .slice pa1 ps1.length pc1, .slice a1 ms1.length c1] 29) = W := ⟨_, rfl⟩
  have S0 : Hid (Step noF w W) := by show Step _ _ _; rw [← hW]; exact ((Step.refl _ _).alloc _).alloc _
  obtain ⟨g2, hg2⟩ : ∃ g, w.heap.size = g := ⟨_, rfl⟩
  have bx := (ndBox_new w (.bool b) (.slice ia xs.length ic) (.slice ka ks.length kc) (.slice pa ps.length pc) (.slice a ms.length c)).step ((Step.refl noF _).alloc (.cells #[.bool b1, .slice ia1 xs1.length ic1, .slice ka1 ks1.length kc1, .slice pa1 ps1.length pc1, .slice a1 ms1.length c1] 29))
  have by0 := ndBox_new (w.alloc (.cells #[.bool b, .slice ia xs.length ic, .slice ka ks.length kc, .slice pa ps.length pc, .slice a ms.length c] 29)) (.bool b1) (.slice ia1 xs1.length ic1) (.slice ka1 ks1.length kc1) (.slice pa1 ps1.length pc1) (.slice a1 ms1.length c1)
  rw [World.size_alloc] at by0
  obtain ⟨g3, hg3⟩ : ∃ g, w.heap.size + 1 = g := ⟨_, rfl⟩
  rw [hW, hg2] at bx
  rw [hW, hg3] at by0
  have BX := hid bx
  have BY := hid by0
  have HW := hid hW
  have HG : Hid (w.heap.size + 1 = g3 ∧ w.heap.size = g2) := ⟨hg3, hg2⟩
  have cGrX := fun (u : World) (hu : Hid (Step noF w u)) => great12_any b xs hil hiq ks hkl ps hpl hpq ms hml hmq ia ka pa a ic kc pc c u (hi.step hu.out) (hp.step hu.out) (hm.stepB hu.out)
  have cMkX := fun (hM : Modest xs ks ps ms) (u : World) (hu : Hid (Step noF w u)) => made12_any b xs ks ps ms hM ia ka pa a ic kc pc c u (hi.step hu.out) hic (hk.step hu.out) hkc (hp.step hu.out) hpc (hm.stepB hu.out) hc
  have cSoX := fun (hM : Modest xs ks ps ms) (u : World) (hu : Hid (Step noF w u)) => sound12_any b xs ks ps ms hM ia ka pa a ic kc pc c u (hi.step hu.out) hic (hk.step hu.out) hkc hkn (hp.step hu.out) hpc hpn (hm.stepB hu.out) hc
  clear hi hk hp hm hic hkc hpc hc hil hiq hkl hpl hpq hml hmq hkn hpn
  have cGrY := fun (u : World) (hu : Hid (Step noF w u)) => great12_any b1 xs1 hil1 hiq1 ks1 hkl1 ps1 hpl1 hpq1 ms1 hml1 hmq1 ia1 ka1 pa1 a1 ic1 kc1 pc1 c1 u (hi1.step hu.out) (hp1.step hu.out) (hm1.stepB hu.out)
  have cMkY := fun (hM : Modest xs1 ks1 ps1 ms1) (u : World) (hu : Hid (Step noF w u)) => made12_any b1 xs1 ks1 ps1 ms1 hM ia1 ka1 pa1 a1 ic1 kc1 pc1 c1 u (hi1.step hu.out) hic1 (hk1.step hu.out) hkc1 (hp1.step hu.out) hpc1 (hm1.stepB hu.out) hc1
  have cSoY := fun (hM : Modest xs1 ks1 ps1 ms1) (u : World) (hu : Hid (Step noF w u)) => sound12_any b1 xs1 ks1 ps1 ms1 hM ia1 ka1 pa1 a1 ic1 kc1 pc1 c1 u (hi1.step hu.out) hic1 (hk1.step hu.out) hkc1 hkn1 (hp1.step hu.out) hpc1 hpn1 (hm1.stepB hu.out) hc1
  clear hi1 hk1 hp1 hm1 hic1 hkc1 hpc1 hc1 hil1 hiq1 hkl1 hpl1 hpq1 hml1 hmq1 hkn1 hpn1
  clear hW bx by0 hg2 hg3
  go_enter Tryz.func3, Tryz.ntmps3
  go_upto_region 1 with fail
  rw [HW.out, HG.out.1, HG.out.2]
  clear HW HG
  go_wp2_with fail
  refine (awake12_any _).mono ?_
  rintro e w1 ⟨rfl, s1⟩
  have S1 := hid (S0.out.trans s1)
  have BX1 := hid (BX.out.step s1)
  have BY1 := hid (BY.out.step s1)
  obtain ⟨b0, b1', b2, b3, b4⟩ := BX1.out.all
  clear s1
  go_wp2_with fail
  refine (cGrX _ S1).mono ?_
  rintro e w2 ⟨rfl | ⟨rfl, hM⟩, s2⟩
  · have S2 := hid (S1.out.trans s2)
    clear s2
    go_wp2_with fail
    go_ret
    exact ⟨rfl, S2.out⟩
  have S2 := hid (S1.out.trans s2)
  have BX2 := hid (BX1.out.step s2)
  have BY2 := hid (BY1.out.step s2)
  have HMX := hid hM
  clear s2 b0 b1' b2 b3 b4 hM
  obtain ⟨b0, b1', b2, b3, b4⟩ := BY2.out.all
  go_wp2_with fail
  refine (cGrY _ S2).mono ?_
  rintro e w3 ⟨rfl | ⟨rfl, hM⟩, s2⟩
  · have S3 := hid (S2.out.trans s2)
    clear s2
    go_wp2_with fail
    go_ret
    exact ⟨rfl, S3.out⟩
  have S3 := hid (S2.out.trans s2)
  have BX3 := hid (BX2.out.step s2)
  have BY3 := hid (BY2.out.step s2)
  have HMY := hid hM
  clear s2 b0 b1' b2 b3 b4 hM BX BX1 BX2 BY BY1 BY2 cGrX cGrY
  obtain ⟨b0, b1', b2, b3, b4⟩ := BX3.out.all
  go_wp2_with fail
  refine (cMkX HMX.out _ S3).mono ?_
  rintro e w4 ⟨z, rfl, Z4, s4⟩
  have S4 := hid (S3.out.trans s4.out)
  have BX4 := hid (BX3.out.step s4.out)
  have BY4 := hid (BY3.out.step s4.out)
  clear s4 b0 b1' b2 b3 b4 BX3 BY3 cMkX
  obtain ⟨b0, b1', b2, b3, b4⟩ := BX4.out.all
  go_wp2_with fail
  refine (cSoX HMX.out _ S4).mono ?_
  rintro e w5 ⟨bb, ja, jk, jp, jm, nj, jc, nk, kj, np, pj, nm, mj, rfl, SV, s5⟩
  clear b0 b1' b2 b3 b4 cSoX
  cases ho : mkR b xs ks ps ms with
  | none =>
    rw [ho] at Z4
    have S5 := hid (S4.out.trans (s5.out.alloc (.cells #[.bool bb, .slice ja nj jc, .slice jk nk kj, .slice jp np pj, .slice jm nm mj] 29)))
    cases z with
    | some ad => exact absurd Z4.out (fun h => h)
    | none =>
      have hsome : (none : Option Nv).isSome = false := rfl
      rw [hsome]
      clear ho Z4 hsome
      go_wp2_with fail
      go_ret
      exact ⟨rfl, S5.out⟩
  | some v =>
    rw [ho] at Z4 SV
    have hsome : (some v).isSome = true := rfl
    rw [hsome]
    obtain ⟨hg, hs⟩ := mkR_good ho HMX.out
    have hlf := mkR_leaf ho
    cases z with
    | none => exact absurd Z4.out (fun h => h)
    | some ad =>
    obtain ⟨r, rfl, n4⟩ := Z4.out
    have N5 := hid (n4.step s5.out)
    have NV := SV.out v rfl
    obtain ⟨qa, qk, qp, qm, qc1, qc2, qc3, qc4, he, _⟩ := NV
    injection he with he
    simp only [Array.mk.injEq, List.cons.injEq, Value.bool.injEq, Value.slice.injEq, and_true] at he
    obtain ⟨e0, ⟨e1, e2, e3⟩, ⟨e4, e5, e6⟩, ⟨e7, e8, e9⟩, e10, e11, e12⟩ := he
    have NV5 := hid (SV.out v rfl)
    rw [hlf] at e0
    have e0s := e0.symm
    subst e0s
    have hnk := hid e5
    have S5 := hid (S4.out.trans s5.out)
    have BX5 := hid (BX4.out.step s5.out)
    have BY5 := hid (BY4.out.step s5.out)
    obtain ⟨W6, hW6⟩ : ∃ W6, w5.alloc (.cells #[.bool b, .slice ja nj jc, .slice jk nk kj, .slice jp np pj, .slice jm nm mj] 29) = W6 := ⟨_, rfl⟩
    obtain ⟨g6, hg6⟩ : ∃ g, w5.heap.size = g := ⟨_, rfl⟩
    have st6 : Step noF w5 W6 := by rw [← hW6]; exact (Step.refl _ _).alloc _
    have bu := ndBox_new w5 (.bool b) (.slice ja nj jc) (.slice jk nk kj) (.slice jp np pj) (.slice jm nm mj)
    rw [hW6, hg6] at bu
    have BU6 := hid bu
    have S6 := hid (S5.out.trans st6)
    have BX6 := hid (BX5.out.step st6)
    have BY6 := hid (BY5.out.step st6)
    have NV6 := hid (NV5.out.step st6)
    have N6 := hid (N5.out.step st6)
    have HW6 : Hid (w5.alloc (.cells #[.bool b, .slice ja nj jc, .slice jk nk kj, .slice jp np pj, .slice jm nm mj] 29) = W6 ∧ w5.heap.size = g6) := ⟨hW6, hg6⟩
    have HS := hid hs
    have HGd := hid hg
    have HLF := hid hlf
    clear e1 e2 e3 e4 e5 e6 e7 e8 e9 e10 e11 e12 hW6 hg6 st6 bu n4 s5 hsome ho Z4 SV NV5 N5 BX5 BY5 BX4 BY4 S5
    go_upto_region 9 with fail
    rw [HW6.out.1, HW6.out.2]
    clear HW6
    obtain ⟨k0, _, _, _, _⟩ := BX6.out.all
    obtain ⟨u0, u1, u2, u3, u4⟩ := BU6.out.all
    have c39 : ∀ w', Step noF W6 w' → Calls Tryz.prog 11 #[.pointer (some ⟨r, 0, none⟩)] w' fun e w'' => e = .returned (.bool b) ∧ Step noF w' w'' := fun w' hs' => by
      refine (ndIsLeaf_any r v w' (N6.out.step hs')).mono ?_
      rintro e w'' ⟨rfl, rfl⟩
      exact ⟨by rw [HLF.out], Step.refl _ _⟩
    have c46 : ∀ w', Step noF W6 w' → Calls Tryz.prog 12 #[.pointer (some ⟨r, 0, none⟩)] w' fun e w'' => e = .returned (.bool v.fits) ∧ Step noF w' w'' := fun w' hs' => ndFits_any r v HS.out w' (N6.out.step hs')
    have c48 : ∀ w', Step noF W6 w' → Calls Tryz.prog 13 #[.agg #[.bool b, .slice ja nj jc, .slice jk nk kj, .slice jp np pj, .slice jm nm mj]] w' fun e w'' => e = .returned (.bool v.fits) ∧ Step noF w' w'' := fun w' hs' => refFits12_any v HS.out _ w' (NV6.out.step hs')
    have c53 : ∀ w', Step noF W6 w' → Calls Tryz.prog 14 #[.pointer (some ⟨r, 0, none⟩)] w' fun e w'' => ∃ x, e = .returned x ∧ Step noF w' w'' ∧ ∃ a c, x = .slice a nk c := fun w' hs' => by
      rw [hnk.out]
      exact ndKids_any r v HS.out w' (N6.out.step hs')
    have CF := hid c48
    change Code.wp _ (Code.region 9 ((Tryz.f3.body.bind (regionOps 9)).getD #[]) true) _ _ _
    refine nbya_go r g2 g6 nk kj jk b v.fits (.bool b) (.slice ja nj jc) (.slice jp np pj) (.slice jm nm mj) W6 k0 u0 u1 u2 u3 u4 c39 c46 c48 c53 _ rfl rfl rfl rfl ?_
    intro ff w7 s7 e60
    have e60' : ff 60 = .bool false := e60
    have S7 := hid (S6.out.trans s7)
    have BY7 := hid (BY6.out.step s7)
    have BU7 := hid (BU6.out.step s7)
    have NV7 := hid (NV6.out.step s7)
    have N7 := hid (N6.out.step s7)
    rw [nbya_lit, e60']
    clear s7 e60 c39 c46 c48 c53 k0 u0 u1 u2 u3 u4 CF BX6 BY6 BU6 NV6 N6 S6 hg hs hlf hnk
    have cB := ndBytes_any r v HS.out HGd.out w7 N7.out
    have cF := fun (u : World) (hu : Hid (Step noF w7 u)) => refFits12_any v HS.out _ u (NV7.out.step hu.out)
    cases hf : v.fits with
    | false =>
      rw [(wr_not hf).1, (wr_not hf).2] at cB
      simp only [hf] at cF
      have h0 := nil_str
      clear hf
      go_wp2_with fail
      refine cB.mono ?_
      rintro e w8 ⟨rfl, s8⟩
      have T8 := hid s8
      have S8 := hid (S7.out.trans s8)
      obtain ⟨u0, u1, u2, u3, u4⟩ := (BU7.out.step s8).all
      have cF8 := cF _ T8
      clear s8 cF cB
      go_wp2_with fail
      refine cF8.mono ?_
      rintro e w9 ⟨rfl, s9⟩
      have S9 := hid (S8.out.trans s9)
      clear s9
      go_wp2_with fail
      go_ret
      exact ⟨rfl, S9.out⟩
    | true =>
      rw [(wr_of hf).1, (wr_of hf).2] at cB
      simp only [hf] at cF
      have cRB := fun (u : World) (hu : Hid (Step noF w7 u)) => refBytes12_any v HGd.out hf _ u (NV7.out.step hu.out)
      obtain ⟨T, hT⟩ : ∃ T, str v.bytes = T := ⟨_, rfl⟩
      rw [hT] at cB
      simp only [hT] at cRB
      clear hf hT
      go_wp2_with fail
      refine cB.mono ?_
      rintro e w8 ⟨rfl, s8⟩
      have T8 := hid s8
      have S8 := hid (S7.out.trans s8)
      have BY8 := hid (BY7.out.step s8)
      have BU8 := hid (BU7.out.step s8)
      obtain ⟨u0, u1, u2, u3, u4⟩ := BU8.out.all
      have cF8 := cF _ T8
      clear s8 cF cB BY7 BU7
      go_wp2_with fail
      refine cF8.mono ?_
      rintro e w9 ⟨rfl, s9⟩
      have T9 := hid (T8.out.trans s9)
      have S9 := hid (S8.out.trans s9)
      have BY9 := hid (BY8.out.step s9)
      have BU9 := hid (BU8.out.step s9)
      clear s9 u0 u1 u2 u3 u4 cF8 BY8 BU8
      obtain ⟨u0, u1, u2, u3, u4⟩ := BU9.out.all
      have cR9 := cRB _ T9
      go_wp2_with fail
      refine cR9.mono ?_
      rintro e wa ⟨rfl, sa⟩
      have Ta := hid (T9.out.trans sa)
      have Sa := hid (S9.out.trans sa)
      have BYa := hid (BY9.out.step sa)
      have BUa := hid (BU9.out.step sa)
      clear sa u0 u1 u2 u3 u4 cR9 cRB BY9 BU9
      obtain ⟨b0, b1', b2, b3, b4⟩ := BYa.out.all
      go_wp2_with fail
      refine (cMkY HMY.out _ Sa).mono ?_
      rintro e wb ⟨z, rfl, Zb, sb⟩
      have Tb := hid (Ta.out.trans sb.out)
      have Sb := hid (Sa.out.trans sb.out)
      have BYb := hid (BYa.out.step sb.out)
      have BUb := hid (BUa.out.step sb.out)
      clear sb b0 b1' b2 b3 b4 BYa BUa cMkY
      obtain ⟨b0, b1', b2, b3, b4⟩ := BYb.out.all
      go_wp2_with fail
      refine (cSoY HMY.out _ Sb).mono ?_
      rintro e wc ⟨bb, la, lk, lp, lm, nl, lc, nn, kl, nq, pl, nr, ml, rfl, SVY, sc⟩
      clear b0 b1' b2 b3 b4 cSoY
      obtain ⟨Wd, hWd⟩ : ∃ W6, wc.alloc (.cells #[.bool bb, .slice la nl lc, .slice lk nn kl, .slice lp nq pl, .slice lm nr ml] 29) = W6 := ⟨_, rfl⟩
      obtain ⟨g11, hg11⟩ : ∃ g, wc.heap.size = g := ⟨_, rfl⟩
      have std : Step noF wc Wd := by rw [← hWd]; exact (Step.refl _ _).alloc _
      have bv := ndBox_new wc (.bool bb) (.slice la nl lc) (.slice lk nn kl) (.slice lp nq pl) (.slice lm nr ml)
      rw [hWd, hg11] at bv
      have BV := hid bv
      have HWd : Hid (wc.alloc (.cells #[.bool bb, .slice la nl lc, .slice lk nn kl, .slice lp nq pl, .slice lm nr ml] 29) = Wd ∧ wc.heap.size = g11) := ⟨hWd, hg11⟩
      have Td := hid (Tb.out.trans (sc.out.trans std))
      have Sd := hid (Sb.out.trans (sc.out.trans std))
      have BUd := hid (BUb.out.step (sc.out.trans std))
      have Nd' := hid (N7.out.step Td.out)
      have STD := hid std
      have Scd := hid (sc.out.trans std)
      clear hWd hg11 std bv sc
      cases ho : mkR b1 xs1 ks1 ps1 ms1 with
      | none =>
        have hsome : (none : Option Nv).isSome = false := rfl
        rw [ho] at Zb
        rw [hsome]
        cases z with
        | some ad => exact absurd Zb.out (fun h => h)
        | none =>
        clear ho hsome Zb SVY
        go_upto_region 18 with fail
        rw [HWd.out.1, HWd.out.2]
        obtain ⟨u0, u1, u2, u3, u4⟩ := BUd.out.all
        change Code.wp _ (Code.region 18 ((Tryz.f3.body.bind (regionOps 18)).getD #[]) true) _ _ _
        refine nbybf_go r g6 g11 none false (.bool b) (.slice ja nj jc) (.slice jk nk kj) (.slice jp np pj) (.slice jm nm mj) (.bool bb) (.slice la nl lc) (.slice lk nn kl) (.slice lp nq pl) (.slice lm nr ml) Wd u0 _ rfl rfl rfl rfl rfl rfl ?_
        intro fg we se e99
        have e99' : fg 99 = .bool false := e99
        have Se := hid (Sd.out.trans se)
        rw [nbybf_lit, e99']
        clear se e99 u0 u1 u2 u3 u4 HWd
        go_wp2_with fail
        refine (ndBytes_nil _).mono ?_
        rintro e wz ⟨rfl, rfl⟩
        go_wp2_with fail
        refine (ndIsLeaf_nil _).mono ?_
        rintro e wz ⟨rfl, rfl⟩
        go_wp2_with fail
        refine (ndLeaf_nil _).mono ?_
        rintro e wz ⟨rfl, rfl⟩
        go_wp2_with fail
        refine (ndInner_nil _).mono ?_
        rintro e wz ⟨rfl, rfl⟩
        go_wp2_with fail
        refine (ndKids_nil _).mono ?_
        rintro e wz ⟨rfl, rfl⟩
        go_wp2_with fail
        refine (ndFits_nil _).mono ?_
        rintro e wz ⟨rfl, rfl⟩
        go_wp2_with fail
        refine (ndOfInner_nil _).mono ?_
        rintro e wz ⟨rfl, rfl⟩
        go_wp2_with fail
        refine (ndSame_nil2 _).mono ?_
        rintro e wz ⟨rfl, rfl⟩
        go_wp2_with fail
        refine (ndSame_nilr r _).mono ?_
        rintro e wz ⟨rfl, rfl⟩
        go_wp2_with fail
        go_ret
        exact ⟨rfl, Se.out⟩
      | some u =>
        have hsome : (some u).isSome = true := rfl
        obtain ⟨hgu, hsu⟩ := mkR_good ho HMY.out
        rw [ho] at Zb SVY
        rw [hsome]
        have HU := hid hsu
        cases z with
        | none => exact absurd Zb.out (fun h => h)
        | some ad =>
        obtain ⟨r2, rfl, nb⟩ := Zb.out
        have M2 := hid (nb.step Scd.out)
        have NU := hid ((SVY.out u rfl).step STD.out)
        have NVd := hid (NV7.out.step Td.out)
        clear ho hsome Zb SVY nb hgu hsu
        go_upto_region 18 with fail
        rw [HWd.out.1, HWd.out.2]
        obtain ⟨u0, u1, u2, u3, u4⟩ := BUd.out.all
        obtain ⟨v0, v1, v2, v3, v4⟩ := BV.out.all
        have c94 : ∀ w', Step noF Wd w' → Calls Tryz.prog 17 #[.pointer (some ⟨r, 0, none⟩), .pointer (some ⟨r2, 0, none⟩)] w' fun e w'' => e = .returned (.bool (sameV v u)) ∧ Step noF w' w'' := fun w' hs' => ndSame_any r r2 v u HS.out HU.out w' (Nd'.out.step hs') (M2.out.step hs')
        have c97 : ∀ w', Step noF Wd w' → Calls Tryz.prog 18 #[.agg #[.bool b, .slice ja nj jc, .slice jk nk kj, .slice jp np pj, .slice jm nm mj], .agg #[.bool bb, .slice la nl lc, .slice lk nn kl, .slice lp nq pl, .slice lm nr ml]] w' fun e w'' => e = .returned (.bool (sameV v u)) ∧ Step noF w' w'' := fun w' hs' => refSame12_any v u HS.out HU.out _ _ w' (NVd.out.step hs') (NU.out.step hs')
        change Code.wp _ (Code.region 18 ((Tryz.f3.body.bind (regionOps 18)).getD #[]) true) _ _ _
        refine nbybt_go r g6 g11 (some ⟨r2, 0, none⟩) (sameV v u) (.bool b) (.slice ja nj jc) (.slice jk nk kj) (.slice jp np pj) (.slice jm nm mj) (.bool bb) (.slice la nl lc) (.slice lk nn kl) (.slice lp nq pl) (.slice lm nr ml) Wd u0 u1 u2 u3 u4 v0 v1 v2 v3 v4 c94 c97 _ rfl rfl rfl rfl rfl rfl ?_
        intro fg we se e99
        have e99' : fg 99 = .bool false := e99
        have Se := hid (Sd.out.trans se)
        rw [nbybt_lit, e99']
        clear se e99 u0 u1 u2 u3 u4 v0 v1 v2 v3 v4 HWd c94 c97
        go_wp2_with fail
        refine (ndBytes_nil _).mono ?_
        rintro e wz ⟨rfl, rfl⟩
        go_wp2_with fail
        refine (ndIsLeaf_nil _).mono ?_
        rintro e wz ⟨rfl, rfl⟩
        go_wp2_with fail
        refine (ndLeaf_nil _).mono ?_
        rintro e wz ⟨rfl, rfl⟩
        go_wp2_with fail
        refine (ndInner_nil _).mono ?_
        rintro e wz ⟨rfl, rfl⟩
        go_wp2_with fail
        refine (ndKids_nil _).mono ?_
        rintro e wz ⟨rfl, rfl⟩
        go_wp2_with fail
        refine (ndFits_nil _).mono ?_
        rintro e wz ⟨rfl, rfl⟩
        go_wp2_with fail
        refine (ndOfInner_nil _).mono ?_
        rintro e wz ⟨rfl, rfl⟩
        go_wp2_with fail
        refine (ndSame_nil2 _).mono ?_
        rintro e wz ⟨rfl, rfl⟩
        go_wp2_with fail
        refine (ndSame_nilr r _).mono ?_
        rintro e wz ⟨rfl, rfl⟩
        go_wp2_with fail
        go_ret
        exact ⟨rfl, Se.out⟩
end Go.Proofs.YtoobelcphcndoaaGreat
