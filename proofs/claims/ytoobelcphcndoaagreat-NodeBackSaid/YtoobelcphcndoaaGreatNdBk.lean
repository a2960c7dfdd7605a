/-
  The walk of NodeBack (written by gennb.py).
-/
import Derived.Test.YtoobelcphcndoaaGreatNdG
namespace Go.Proofs.YtoobelcphcndoaaGreat
open Go.RowKit Go.Sort
set_option linter.unusedVariables false
set_option linter.unusedSimpArgs false
set_option maxRecDepth 20000

set_option maxHeartbeats 8000000 in
theorem nodeBack_any (b : Bool) (xs : List Rg) (hil : xs.length ≤ maxLen) (hiq : ∀ x ∈ xs, x.lo.length ≤ maxLen ∧ x.hi.length ≤ maxLen) (ks : List Int) (hkl : ks.length ≤ maxLen) (ps : List (List UInt8)) (hpl : ps.length ≤ maxLen) (hpq : ∀ x ∈ ps, x.length ≤ maxLen) (ms : List Mg) (hml : ms.length ≤ maxLen) (hmq : ∀ x ∈ ms, x.key.length ≤ maxLen ∧ x.val.length ≤ maxLen)
    (ia ka pa a : Option Addr) (ic kc pc c : Nat) (l : List UInt8) (hll : l.length ≤ maxLen) (w : World) (hi : RgsAt w ia xs) (hic : ia = none → ic = 0) (hk : RowAt w noF ka (intsOf ks)) (hkc : ka = none → kc = 0) (hp : RowAt w noF pa (texts ps)) (hpc : pa = none → pc = 0) (hm : MsgsAt w noF a ms) (hc : a = none → c = 0) :
    Calls Tryz.prog 5 #[.agg #[.bool b, .slice ia xs.length ic, .slice ka ks.length kc, .slice pa ps.length pc, .slice a ms.length c], .string (str l)] w fun e w' => e = .returned (.bool true) ∧ Step noF w w' := by
  have hz := str_size
  obtain ⟨W, hW⟩ : ∃ W, w.alloc (.cells #[.bool b, .slice ia xs.length ic, .slice ka ks.length kc, .slice pa ps.length pc, .slice a ms.length c] 29) = W := ⟨_, rfl⟩
  have S0 : Hid (Step noF w W) := by show Step _ _ _; rw [← hW]; exact (Step.refl _ _).alloc _
  have bx := ndBox_new w (.bool b) (.slice ia xs.length ic) (.slice ka ks.length kc) (.slice pa ps.length pc) (.slice a ms.length c)
  rw [hW] at bx
  obtain ⟨g0, hg0⟩ : ∃ g, w.heap.size = g := ⟨_, rfl⟩
  rw [hg0] at bx
  have BX := hid bx
  have HW := hid hW
  have HG := hid hg0
  have cGr := fun (u : World) (hu : Hid (Step noF w u)) => great12_any b xs hil hiq ks hkl ps hpl hpq ms hml hmq ia ka pa a ic kc pc c u (hi.step hu.out) (hp.step hu.out) (hm.stepB hu.out)
  have cMk := fun (hM : Modest xs ks ps ms) (u : World) (hu : Hid (Step noF w u)) => made12_any b xs ks ps ms hM ia ka pa a ic kc pc c u (hi.step hu.out) hic (hk.step hu.out) hkc (hp.step hu.out) hpc (hm.stepB hu.out) hc
  unfold maxLen at hll
  clear hi hk hp hm hic hkc hpc hc hil hiq hkl hpl hpq hml hmq hW bx hg0
  go_enter Tryz.func5, Tryz.ntmps5
  go_upto_region 1 with fail
  rw [HW.out, HG.out]
  clear HW HG
  go_wp2_with fail
  refine (awake12_any _).mono ?_
  rintro e w1 ⟨rfl, s1⟩
  have S1 := hid (S0.out.trans s1)
  have BX1 := hid (BX.out.step s1)
  obtain ⟨b0, b1, b2, b3, b4⟩ := BX1.out.all
  clear s1
  go_wp2_with fail
  refine (cGr _ S1).mono ?_
  rintro e w2 ⟨rfl | ⟨rfl, hM⟩, s2⟩
  · have S2 := hid (S1.out.trans s2)
    clear s2
    go_wp2_with fail
    go_ret
    exact ⟨rfl, S2.out⟩
  have S2 := hid (S1.out.trans s2)
  have BX2 := hid (BX1.out.step s2)
  have HM := hid hM
  clear s2 b0 b1 b2 b3 b4 hM
  by_cases h300 : 300 < l.length
  · have hz300 : (300 : Int) < (l.length : Int) := by omega
    go_wp2_with fail
    go_ret
    exact ⟨rfl, S2.out⟩
  have hz300 : ¬ (300 : Int) < (l.length : Int) := by omega
  go_wp2_with fail
  refine (ndParse_any l (by omega) _).mono ?_
  rintro e w3 ⟨s3, ⟨v, r, hv, rfl, n3⟩ | ⟨hn, rfl⟩⟩
  · have S3 := hid (S2.out.trans s3)
    have BX3 := hid (BX2.out.step s3)
    have N3 := hid n3
    have cB := ndBytes_any r v (isOf_small hv) hv.1 w3 n3
    have hwr := wr_of hv.2.1
    rw [hwr.1, hwr.2, hv.2.2] at cB
    have cF := fun (u : World) (hu : Hid (NodeAt u r v)) => ndFits_any r v (isOf_small hv) u hu.out
    rw [hv.2.1] at cF
    clear s3 n3 hwr hv
    go_wp2_with fail
    refine cB.mono ?_
    rintro e w4 ⟨rfl, s4⟩
    have S4 := hid (S3.out.trans s4)
    have BX4 := hid (BX3.out.step s4)
    have N4 := hid (N3.out.step s4)
    clear s4 cB
    go_wp2_with fail
    refine (cF _ N4).mono ?_
    rintro e wc ⟨rfl, s5⟩
    have SC := hid (S4.out.trans s5)
    have BXC := hid (BX4.out.step s5)
    clear s5 cF N4 N3 BX4 BX3 S4 S3
    obtain ⟨b0, b1, b2, b3, b4⟩ := BXC.out.all
    go_wp2_with fail
    refine (cMk HM.out _ SC).mono ?_
    rintro e wd ⟨y, rfl, Z, SD⟩
    have SE := hid (SC.out.trans SD.out)
    clear SD b0 b1 b2 b3 b4
    cases y with
    | none =>
      go_wp2_with fail
      refine (ndFits_nil _).mono ?_
      rintro e we ⟨rfl, rfl⟩
      go_wp2_with fail
      go_ret
      exact ⟨rfl, SE.out⟩
    | some ad =>
      cases ho : mkR b xs ks ps ms with
      | none => rw [ho] at Z; exact absurd Z.out (fun h => h)
      | some v =>
        rw [ho] at Z
        obtain ⟨r, rfl, n⟩ := Z.out
        obtain ⟨hg, hs⟩ := mkR_good ho HM.out
        have N := hid n
        have cF := ndFits_any r v hs wd n
        clear n Z ho
        cases hf : v.fits with
        | false =>
          rw [hf] at cF
          clear hf hg hs
          go_wp2_with fail
          refine cF.mono ?_
          rintro e we ⟨rfl, s⟩
          have SF := hid (SE.out.trans s)
          clear s
          go_wp2_with fail
          go_ret
          exact ⟨rfl, SF.out⟩
        | true =>
          rw [hf] at cF
          have cB := fun (u : World) (hu : Hid (NodeAt u r v)) => ndBytes_any r v hs hg u hu.out
          have hle := bytes_le v hg hf
          have hself := hid (isOf_self hg hf)
          have hmore := hid (fun u => more_none v hg hf 0 u)
          have hless := hid (fun u => less_none v hg hf u)
          have cS := fun (r2 : Nat) (u : World) (h1 : Hid (NodeAt u r2 v)) (h2 : Hid (NodeAt u r v)) => ndSame_any r2 r v v hs hs u h1.out h2.out
          simp only [sameV_self] at cS
          simp only [(wr_of hf).1, (wr_of hf).2] at cB
          obtain ⟨B, hB⟩ : ∃ B, v.bytes = B := ⟨_, rfl⟩
          rw [hB] at hle hself hmore hless
          simp only [hB] at cB
          have hsz := str_size B
          have cP1 := fun u => ndParse_any B (by omega) u
          have cP2 := fun u => ndParse_any (B ++ [0]) (by rw [List.length_append]; simp; omega) u
          have cP3 := fun u => ndParse_any (B.take (B.length - 1)) (by rw [List.length_take]; omega) u
          have hap : str (B ++ [0]) = str B ++ ({ data := #[0] } : ByteArray) := (str_append B { data := #[0] }).symm
          have hex : str (B.take (B.length - 1)) = (str B).extract 0 (B.length - 1) := by rw [str_extract]; simp
          simp only [hap] at cP2
          simp only [hex] at cP3
          obtain ⟨m, hm⟩ : ∃ m, B.length - 1 = m := ⟨_, rfl⟩
          obtain ⟨n, hn⟩ : ∃ n, B.length = n := ⟨_, rfl⟩
          rw [hm] at hless
          simp only [hm] at cP3
          rw [hn] at hsz hle
          have hwrp : IntKind.i64.wrap ((n : Int) - 1) = (m : Int) := by rw [IntKind.wrap_i64]; omega
          have hmn : m ≤ n := by omega
          have hnz : ¬ (250 : Int) < (n : Int) := by omega
          have hn48 : n + 1 ≤ 9223372036854775807 := by omega
          have h0sz : ({ data := #[0] } : ByteArray).size = 1 := rfl
          obtain ⟨T, hT⟩ : ∃ T, str B = T := ⟨_, rfl⟩
          rw [hT] at hsz
          simp only [hT] at cB cP1 cP2 cP3
          clear hap hex hB hm hn hf hs hg hle hT
          go_wp2_with fail
          refine cF.mono ?_
          rintro e we ⟨rfl, s⟩
          have SF := hid (SE.out.trans s)
          have NF := hid (N.out.step s)
          clear s cF
          go_wp2_with fail
          refine (cB _ NF).mono ?_
          rintro e wf ⟨rfl, s⟩
          have SG := hid (SF.out.trans s)
          have NG := hid (NF.out.step s)
          clear s cB SF NF SE
          go_wp2_with fail
          refine (cP1 _).mono ?_
          rintro e wg ⟨s, ⟨v2, r2, hv2, rfl, n2⟩ | ⟨hno, rfl⟩⟩
          rotate_left
          · exact absurd hself.out (hno v)
          have e1 := isOf_one hv2 hself.out
          subst e1
          have SH := hid (SG.out.trans s)
          have NH := hid (NG.out.step s)
          have MH := hid n2
          clear s n2 hv2 cP1 SG NG
          go_wp2_with fail
          refine (cP2 _).mono ?_
          rintro e wh ⟨s, ⟨v3, r3, hv3, rfl, n3⟩ | ⟨hno, rfl⟩⟩
          · exact absurd hv3 (hmore.out v3)
          have SI := hid (SH.out.trans s)
          have NI := hid (NH.out.step s)
          have MI := hid (MH.out.step s)
          clear s hno cP2 SH NH MH
          go_wp2_with fail
          refine (cP3 _).mono ?_
          rintro e wi ⟨s, ⟨v3, r3, hv3, rfl, n3⟩ | ⟨hno, rfl⟩⟩
          · exact absurd hv3 (hless.out v3)
          have SJ := hid (SI.out.trans s)
          have NJ := hid (NI.out.step s)
          have MJ := hid (MI.out.step s)
          clear s hno cP3 SI NI MI
          go_wp2_with fail
          refine (cS r2 _ MJ NJ).mono ?_
          rintro e wj ⟨rfl, s⟩
          have SK := hid (SJ.out.trans s)
          clear s
          go_wp2_with fail
          go_ret
          exact ⟨rfl, SK.out⟩
  · have SC := hid (S2.out.trans s3)
    have BXC := hid (BX2.out.step s3)
    obtain ⟨wc, hwc⟩ : ∃ wc, w3 = wc := ⟨_, rfl⟩
    rw [hwc] at SC BXC ⊢
    clear s3 hn hwc
    obtain ⟨b0, b1, b2, b3, b4⟩ := BXC.out.all
    go_wp2_with fail
    refine (cMk HM.out _ SC).mono ?_
    rintro e wd ⟨y, rfl, Z, SD⟩
    have SE := hid (SC.out.trans SD.out)
    clear SD b0 b1 b2 b3 b4
    cases y with
    | none =>
      go_wp2_with fail
      refine (ndFits_nil _).mono ?_
      rintro e we ⟨rfl, rfl⟩
      go_wp2_with fail
      go_ret
      exact ⟨rfl, SE.out⟩
    | some ad =>
      cases ho : mkR b xs ks ps ms with
      | none => rw [ho] at Z; exact absurd Z.out (fun h => h)
      | some v =>
        rw [ho] at Z
        obtain ⟨r, rfl, n⟩ := Z.out
        obtain ⟨hg, hs⟩ := mkR_good ho HM.out
        have N := hid n
        have cF := ndFits_any r v hs wd n
        clear n Z ho
        cases hf : v.fits with
        | false =>
          rw [hf] at cF
          clear hf hg hs
          go_wp2_with fail
          refine cF.mono ?_
          rintro e we ⟨rfl, s⟩
          have SF := hid (SE.out.trans s)
          clear s
          go_wp2_with fail
          go_ret
          exact ⟨rfl, SF.out⟩
        | true =>
          rw [hf] at cF
          have cB := fun (u : World) (hu : Hid (NodeAt u r v)) => ndBytes_any r v hs hg u hu.out
          have hle := bytes_le v hg hf
          have hself := hid (isOf_self hg hf)
          have hmore := hid (fun u => more_none v hg hf 0 u)
          have hless := hid (fun u => less_none v hg hf u)
          have cS := fun (r2 : Nat) (u : World) (h1 : Hid (NodeAt u r2 v)) (h2 : Hid (NodeAt u r v)) => ndSame_any r2 r v v hs hs u h1.out h2.out
          simp only [sameV_self] at cS
          simp only [(wr_of hf).1, (wr_of hf).2] at cB
          obtain ⟨B, hB⟩ : ∃ B, v.bytes = B := ⟨_, rfl⟩
          rw [hB] at hle hself hmore hless
          simp only [hB] at cB
          have hsz := str_size B
          have cP1 := fun u => ndParse_any B (by omega) u
          have cP2 := fun u => ndParse_any (B ++ [0]) (by rw [List.length_append]; simp; omega) u
          have cP3 := fun u => ndParse_any (B.take (B.length - 1)) (by rw [List.length_take]; omega) u
          have hap : str (B ++ [0]) = str B ++ ({ data := #[0] } : ByteArray) := (str_append B { data := #[0] }).symm
          have hex : str (B.take (B.length - 1)) = (str B).extract 0 (B.length - 1) := by rw [str_extract]; simp
          simp only [hap] at cP2
          simp only [hex] at cP3
          obtain ⟨m, hm⟩ : ∃ m, B.length - 1 = m := ⟨_, rfl⟩
          obtain ⟨n, hn⟩ : ∃ n, B.length = n := ⟨_, rfl⟩
          rw [hm] at hless
          simp only [hm] at cP3
          rw [hn] at hsz hle
          have hwrp : IntKind.i64.wrap ((n : Int) - 1) = (m : Int) := by rw [IntKind.wrap_i64]; omega
          have hmn : m ≤ n := by omega
          have hnz : ¬ (250 : Int) < (n : Int) := by omega
          have hn48 : n + 1 ≤ 9223372036854775807 := by omega
          have h0sz : ({ data := #[0] } : ByteArray).size = 1 := rfl
          obtain ⟨T, hT⟩ : ∃ T, str B = T := ⟨_, rfl⟩
          rw [hT] at hsz
          simp only [hT] at cB cP1 cP2 cP3
          clear hap hex hB hm hn hf hs hg hle hT
          go_wp2_with fail
          refine cF.mono ?_
          rintro e we ⟨rfl, s⟩
          have SF := hid (SE.out.trans s)
          have NF := hid (N.out.step s)
          clear s cF
          go_wp2_with fail
          refine (cB _ NF).mono ?_
          rintro e wf ⟨rfl, s⟩
          have SG := hid (SF.out.trans s)
          have NG := hid (NF.out.step s)
          clear s cB SF NF SE
          go_wp2_with fail
          refine (cP1 _).mono ?_
          rintro e wg ⟨s, ⟨v2, r2, hv2, rfl, n2⟩ | ⟨hno, rfl⟩⟩
          rotate_left
          · exact absurd hself.out (hno v)
          have e1 := isOf_one hv2 hself.out
          subst e1
          have SH := hid (SG.out.trans s)
          have NH := hid (NG.out.step s)
          have MH := hid n2
          clear s n2 hv2 cP1 SG NG
          go_wp2_with fail
          refine (cP2 _).mono ?_
          rintro e wh ⟨s, ⟨v3, r3, hv3, rfl, n3⟩ | ⟨hno, rfl⟩⟩
          · exact absurd hv3 (hmore.out v3)
          have SI := hid (SH.out.trans s)
          have NI := hid (NH.out.step s)
          have MI := hid (MH.out.step s)
          clear s hno cP2 SH NH MH
          go_wp2_with fail
          refine (cP3 _).mono ?_
          rintro e wi ⟨s, ⟨v3, r3, hv3, rfl, n3⟩ | ⟨hno, rfl⟩⟩
          · exact absurd hv3 (hless.out v3)
          have SJ := hid (SI.out.trans s)
          have NJ := hid (NI.out.step s)
          have MJ := hid (MI.out.step s)
          clear s hno cP3 SI NI MI
          go_wp2_with fail
          refine (cS r2 _ MJ NJ).mono ?_
          rintro e wj ⟨rfl, s⟩
          have SK := hid (SJ.out.trans s)
          clear s
          go_wp2_with fail
          go_ret
          exact ⟨rfl, SK.out⟩
end Go.Proofs.YtoobelcphcndoaaGreat
