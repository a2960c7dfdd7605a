/-
  The reference of layer 11: Range, Flush.
-/
import Derived.Test.YtgmgoaencaldmaaGreatInRE
namespace Go.Proofs.YtgmgoaencaldmaaGreat
open Go.RowKit Go.Sort
set_option linter.unusedVariables false
set_option linter.unusedSimpArgs false
set_option maxRecDepth 20000

theorem Step.put2R {F : Nat → Prop} {w w' : World} (h : Step F w w') (g : Nat) (hg : w.heap.size ≤ g) (p q : Nat) (x y : Value) : Step F w ((w'.setCell ⟨g, p, none⟩ x).setCell ⟨g, q, none⟩ y) :=
  (h.setCell (p := ⟨g, p, none⟩) (.inr hg) x).setCell (p := ⟨g, q, none⟩) (.inr hg) y
set_option maxHeartbeats 2000000 in
/-- A kid's part of a range; two empty ends for what is no kid. -/
theorem refRangeN_any (d : Nd) (hg : d.pivs.length + 1 = d.kids.length) (hl : d.kids.length ≤ 1000) (z : Int) (r : Rg) (v : Value) (w : World) (h : NdV w d v) :
    Calls Tryz.prog 16 #[v, .int .i64 z, .agg #[.string (str r.lo), .string (str r.hi)]] w fun e w' => e = .returned (if hasZ d.kids.length z = true then .agg #[.string (str (rangeN r d.pivs z.toNat).lo), .string (str (rangeN r d.pivs z.toNat).hi)] else .agg #[.string (str []), .string (str [])]) ∧ Step noF w w' := by
  obtain ⟨ka, pa, a, kc, pc, c, rfl, ⟨hk, _, _⟩, ⟨hp, _, _⟩, _, _⟩ := h
  have h0 := nil_str
  have er : r.val = .agg #[.string (str r.lo), .string (str r.hi)] := rfl
  have cC := fun w' (hs : Step noF w w') => refCut_any r d.pivs (by omega) pa pc w' (rowAt_step hp hs (fun _ _ h => h))
  rw [er] at cC
  have B0 := ((box_new w (.slice ka d.kids.length kc) (.slice pa d.pivs.length pc) (.slice a d.ms.length c)).alloc (.cells #[.string (str r.lo), .string (str r.hi)] 42)).alloc (.cells #[.string (str []), .string (str [])] 42)
  have P1 := (pair_new (w.alloc (.cells #[.slice ka d.kids.length kc, .slice pa d.pivs.length pc, .slice a d.ms.length c] 34)) 42 r.lo r.hi).alloc (.cells #[.string (str []), .string (str [])] 42)
  have P2 := pair_new ((w.alloc (.cells #[.slice ka d.kids.length kc, .slice pa d.pivs.length pc, .slice a d.ms.length c] 34)).alloc (.cells #[.string (str r.lo), .string (str r.hi)] 42)) 42 [] []
  rw [World.size_alloc] at P1
  rw [World.size_alloc, World.size_alloc] at P2
  have S0 := hid ((((Step.refl noF w).alloc (.cells #[.slice ka d.kids.length kc, .slice pa d.pivs.length pc, .slice a d.ms.length c] 34)).alloc (.cells #[.string (str r.lo), .string (str r.hi)] 42)).alloc (.cells #[.string (str []), .string (str [])] 42))
  have cC0 := cC _ S0.out
  obtain ⟨b0, b1, b2, _, _, _⟩ := BoxAt.all B0
  have p0 := P1.c0
  have p1 := P1.c1
  have q0 := P2.c0
  have q1 := P2.c1
  have f0 := P2.f 0
  have f1 := P2.f 1
  have HP2 := hid P2
  have HCL := hid (cut_length r d.pivs)
  clear hk hp er cC B0 P1 P2
  go_enter Tryz.func16, Tryz.ntmps16
  by_cases hz0 : z < 0
  · have hz : hasZ d.kids.length z = false := by unfold hasZ; rw [decide_eq_false (by omega), Bool.false_and]
    rw [hz]
    have y0 := (HP2.out.set0 []).set1 []
    have y0c := y0.c0
    have y1c := y0.c1
    have SP := hid (Step.put2R S0.out (w.heap.size + 1 + 1) (by omega) 0 1 (.string (str [])) (.string (str [])))
    clear y0
    go_wp2_with fail
    refine bodyPost_ret (v := .agg #[.string (str []), .string (str [])]) (by simp [results, Tryz.results16, go_sem, *]) rfl ⟨by rfl, by first | exact SP.out | exact S0.out⟩
  · by_cases hzn : z < (d.kids.length : Int)
    · have hz : hasZ d.kids.length z = true := by unfold hasZ; rw [decide_eq_true (show 0 ≤ z by omega), decide_eq_true hzn]; rfl
      rw [hz]
      obtain ⟨i, rfl⟩ : ∃ i : Nat, z = (i : Int) := ⟨z.toNat, by omega⟩
      have hin : i < (r.cut d.pivs).length := by rw [HCL.out]; omega
      have hzg : ¬ (d.kids.length : Int) ≤ (i : Int) := by omega
      have hip : (i : Int) < ((d.pivs.length + 1 : Nat) : Int) := by omega
      have hip2 : (i : Int) < (d.pivs.length : Int) + 1 := by omega
      have HIN := hid hin
      clear hin hz
      go_wp2_with fail
      refine cC0.mono ?_
      rintro e w1 ⟨a', c', rfl, hcc, hrg, s1⟩
      have S1 := hid (S0.out.trans s1)
      have P3 := HP2.out.step s1
      obtain ⟨b, off, rfl, y0, y1⟩ := hrg.at i HIN.out
      have hR : (r.cut d.pivs)[i]'HIN.out = rangeN r d.pivs i := by
        unfold rangeN
        simp [List.getD, List.getElem?_eq_getElem HIN.out]
      rw [hR] at y0 y1
      have q0' := P3.c0
      have q1' := P3.c1
      have f0' := P3.f 0
      have f1' := P3.f 1
      have y2 := (P3.set0 (rangeN r d.pivs i).lo).set1 (rangeN r d.pivs i).hi
      have y0c := y2.c0
      have y1c := y2.c1
      have SP := hid (Step.put2R S1.out (w.heap.size + 1 + 1) (by omega) 0 1 (.string (str (rangeN r d.pivs i).lo)) (.string (str (rangeN r d.pivs i).hi)))
      clear y2 P3 hrg s1 hcc hR cC0 q0 q1 f0 f1
      go_wp2_with fail
      refine bodyPost_ret (v := .agg #[.string (str (rangeN r d.pivs i).lo), .string (str (rangeN r d.pivs i).hi)]) (by simp [results, Tryz.results16, go_sem, *]) rfl ⟨by simp, SP.out⟩
    · have hz : hasZ d.kids.length z = false := by unfold hasZ; rw [decide_eq_false hzn, Bool.and_false]
      rw [hz]
      have hzg : (d.kids.length : Int) ≤ z := by omega
      have y0 := (HP2.out.set0 []).set1 []
      have y0c := y0.c0
      have y1c := y0.c1
      have SP := hid (Step.put2R S0.out (w.heap.size + 1 + 1) (by omega) 0 1 (.string (str [])) (.string (str [])))
      clear y0
      go_wp2_with fail
      refine bodyPost_ret (v := .agg #[.string (str []), .string (str [])]) (by simp [results, Tryz.results16, go_sem, *]) rfl ⟨by rfl, by first | exact SP.out | exact S0.out⟩
set_option maxHeartbeats 4000000 in
theorem refFlushN_any (d : Nd) (hd : NdOk d) (i : Nat) (hi : i < d.kids.length) (v : Value) (w : World) (h : NdV w d v) :
    Calls Tryz.prog 18 #[v, .int .i64 i] w fun e w' => ∃ v' u, e = .returned (.tuple #[v', u]) ∧ NdV w' ⟨d.kids, d.pivs, dropM (rangeN ⟨[], []⟩ d.pivs i) d.ms⟩ v' ∧ MsV w' u (takeM (rangeN ⟨[], []⟩ d.pivs i) d.ms) ∧ Step noF w w' := by
  have h0 := nil_str
  have hz : hasZ d.kids.length (i : Int) = true := by unfold hasZ; simp; omega
  have cR := fun w' (hs : Step noF w w') => refRangeN_any d hd.len hd.2.2.2.1 (i : Int) ⟨[], []⟩ v w' (h.step hs)
  simp only [hz, if_true, Int.toNat_natCast] at cR
  obtain ⟨R, hR⟩ : ∃ R, rangeN ⟨[], []⟩ d.pivs i = R := ⟨_, rfl⟩
  rw [hR] at cR ⊢
  obtain ⟨ka, pa, a, kc, pc, c, rfl, ⟨hk, hkc, hkn⟩, ⟨hp, hpc, hpn⟩, hm, hmc⟩ := h
  have hml : d.ms.length ≤ 1000000 := by have := hd.2.2.2.2; omega
  have B0 := hid ((box_new w (.slice ka d.kids.length kc) (.slice pa d.pivs.length pc) (.slice a d.ms.length c)).alloc (.cells #[.slice none 0 0, .slice none 0 0, .slice none 0 0] 34))
  have B1 := box_new (w.alloc (.cells #[.slice ka d.kids.length kc, .slice pa d.pivs.length pc, .slice a d.ms.length c] 34)) (.slice none 0 0) (.slice none 0 0) (.slice none 0 0)
  rw [World.size_alloc] at B1
  have BR := hid B1
  have S0 := hid (((Step.refl noF w).alloc (.cells #[.slice ka d.kids.length kc, .slice pa d.pivs.length pc, .slice a d.ms.length c] 34)).alloc (.cells #[.slice none 0 0, .slice none 0 0, .slice none 0 0] 34))
  have HK := hid hk
  have HP := hid hp
  have HM := hid hm
  have HC := hid (And.intro (And.intro hkc hkn) (And.intro (And.intro hpc hpn) hmc))
  obtain ⟨x0, x1, x2, _, _, _⟩ := BoxAt.all B0.out
  have cR0 := cR _ S0.out
  clear hk hp hm hkc hkn hpc hpn hmc hz hR B1 cR hi
  go_enter Tryz.func18, Tryz.ntmps18
  go_wp2_with fail
  refine cR0.mono ?_
  rintro e w1 ⟨rfl, s1⟩
  have S1 := hid (S0.out.trans s1)
  have st : Step noF w1 (w1.alloc (.cells #[.string (str R.lo), .string (str R.hi)] 42)) := (Step.refl noF w1).alloc _
  obtain ⟨r0, r1⟩ := two_new w1 (.string (str R.lo)) (.string (str R.hi)) 42
  have y0 := (s1.trans st).after x0
  have y1 := (s1.trans st).after x1
  have y2 := (s1.trans st).after x2
  have BN := hid (B0.out.step (s1.trans st))
  have BZ := hid (BR.out.step (s1.trans st))
  have S2 := hid (S0.out.trans (s1.trans st))
  clear x0 x1 x2 cR0 s1 st
  have cT := fun w' (hs : Step noF (w1.alloc (.cells #[.string (str R.lo), .string (str R.hi)] 42)) w') => refTakeB_any d.ms hml R true a c w' (MsgsAt.stepB HM.out (S2.out.trans hs))
  rw [pickM_true] at cT
  have cT0 := cT _ (Step.refl _ _)
  clear cT
  go_wp2_with fail
  refine cT0.mono ?_
  rintro e w2 ⟨u, rfl, ou, s2⟩
  have hu := hid (OwnB.msv ou)
  have S3 := hid (S2.out.trans s2)
  have r0' := s2.after r0
  have r1' := s2.after r1
  have y0' := s2.after y0
  have y1' := s2.after y1
  have y2' := s2.after y2
  have BZ2 := hid (BZ.out.step s2)
  have cD := fun w' (hs : Step noF w2 w') => refTakeB_any d.ms hml R false a c w' (MsgsAt.stepB HM.out (S3.out.trans hs))
  rw [pickM_false] at cD
  clear s2 ou cT0 r0 r1 y0 y1 y2 BZ S1 S2
  go_upto_region 3 with fail
  go_region_law (refine step_calls rfl rfl Tryz.func50 (by kernel_rfl) (by kernel_rfl) (args := #[.slice a d.ms.length c, .agg #[.string (str R.lo), .string (str R.hi)], .bool false]) (by first | rfl | (simp [Act.eval, Act.put]; done)) ?_; refine (cD _ (by first | exact (Step.refl noF w2).drewN _ | exact (Step.refl noF w2).drew | exact Step.refl noF w2)).mono ?_; rintro e w6 ⟨v6, rfl, o6, t6⟩; have V6 : Hid (Step noF w2 w6) := (by first | exact ((Step.refl noF w2).drewN _).trans t6 | exact ((Step.refl noF w2).drew).trans t6 | exact t6); obtain ⟨a6, c6, rfl, n6, m6⟩ := OwnB.msv o6; have M6 := hid m6; have N6 := hid n6; clear o6 t6 m6 n6; have z0 := V6.out.after y0'; have z1 := V6.out.after y1'; have z2 := V6.out.after y2'; obtain ⟨q0, q1, q2, f0, f1, f2⟩ := BoxAt.all (BoxAt.step BZ2.out V6.out); refine ⟨_, rfl, ?_⟩)
  all_goals
    have hnd : NdV w6 ⟨d.kids, d.pivs, dropM R d.ms⟩ (.agg #[.slice ka d.kids.length kc, .slice pa d.pivs.length pc, .slice a6 (dropM R d.ms).length c6]) :=
      ⟨ka, pa, a6, kc, pc, c6, rfl, ⟨rowAt_step HK.out (S3.out.trans V6.out) (fun _ _ h => h), HC.out.1.1, HC.out.1.2⟩, ⟨rowAt_step HP.out (S3.out.trans V6.out) (fun _ _ h => h), HC.out.2.1.1, HC.out.2.1.2⟩, M6.out, N6.out⟩
    have HND := hid (hnd.put (BoxAt.step BZ2.out V6.out) ⟨_, _, _, rfl⟩ ⟨_, _, _, rfl⟩ ⟨_, _, _, rfl⟩ (.slice ka d.kids.length kc) (.slice pa d.pivs.length pc) (.slice a6 (dropM R d.ms).length c6))
    obtain ⟨e0, e1, e2, _, _, _⟩ := BoxAt.all (BoxAt.put (BoxAt.step BZ2.out V6.out) (.slice ka d.kids.length kc) (.slice pa d.pivs.length pc) (.slice a6 (dropM R d.ms).length c6))
    have SP := hid ((S3.out.trans V6.out).put3 (w.heap.size + 1) (by omega) (.slice ka d.kids.length kc) (.slice pa d.pivs.length pc) (.slice a6 (dropM R d.ms).length c6))
    have HU : Hid (MsV (((w6.setCell ⟨w.heap.size + 1, 0, none⟩ (.slice ka d.kids.length kc)).setCell ⟨w.heap.size + 1, 1, none⟩ (.slice pa d.pivs.length pc)).setCell ⟨w.heap.size + 1, 2, none⟩ (.slice a6 (dropM R d.ms).length c6)) u (takeM R d.ms)) := by
      obtain ⟨au, cu, eu, nu, mu⟩ := hu.out
      exact ⟨au, cu, eu, nu, msgs_put (BoxAt.step BZ2.out V6.out) ⟨_, _, _, rfl⟩ ⟨_, _, _, rfl⟩ ⟨_, _, _, rfl⟩ _ _ _ (mu.stepB V6.out)⟩
    clear hnd
    go_wp2_with fail
    refine bodyPost_ret (v := .tuple #[.agg #[.slice ka d.kids.length kc, .slice pa d.pivs.length pc, .slice a6 (dropM R d.ms).length c6], u]) (by simp [results, Tryz.results18, go_sem, *]) rfl ⟨_, _, rfl, HND.out, HU.out, SP.out⟩
end Go.Proofs.YtgmgoaencaldmaaGreat
