/-
  The reference of layer 11: Fuse, Swap.
-/
import Derived.Test.YtgmgoaencaldmaaGreatInRE
import Derived.Deep.CutRange
import Derived.Deep.LoopGhost
namespace Go.Proofs.YtgmgoaencaldmaaGreat
open Go.RowKit Go.Sort
set_option linter.unusedVariables false
set_option linter.unusedSimpArgs false
set_option maxRecDepth 20000

set_option maxHeartbeats 4000000 in
theorem refFuseN_any (d : Nd) (hg : d.pivs.length + 1 = d.kids.length) (hl : d.kids.length ≤ 1000) (i : Nat) (hi : i + 1 < d.kids.length) (ref : Int) (v : Value) (w : World) (h : NdV w d v) :
    Calls Tryz.prog 25 #[v, .int .i64 i, .int .i64 ref] w fun e w' => ∃ v', e = .returned v' ∧ NdV w' ⟨fuseKids d.kids i ref, fusePivs d.pivs i, d.ms⟩ v' ∧ Step noF w w' := by
  obtain ⟨ka, pa, a, kc, pc, c, rfl, ⟨hk, hkc, hkn⟩, ⟨hp, hpc, hpn⟩, hm, hmc⟩ := h
  obtain ⟨ks, ps, ms⟩ := d
  simp only at hg hl hi hk hkc hkn hp hpc hpn hm ⊢
  obtain ⟨g, off, rfl, gg1⟩ := ints_get hk 0 (by omega)
  obtain ⟨g2, off2, rfl, gg2⟩ := texts_get hp 0 (by omega)
  clear gg1 gg2
  have B0 := hid ((box_new w (.slice (some ⟨g, off, none⟩) ks.length kc) (.slice (some ⟨g2, off2, none⟩) ps.length pc) (.slice a ms.length c)).alloc (.cells #[.slice none 0 0, .slice none 0 0, .slice none 0 0] 34))
  have B1 := box_new (w.alloc (.cells #[.slice (some ⟨g, off, none⟩) ks.length kc, .slice (some ⟨g2, off2, none⟩) ps.length pc, .slice a ms.length c] 34)) (.slice none 0 0) (.slice none 0 0) (.slice none 0 0)
  rw [World.size_alloc] at B1
  have BR := hid B1
  have S0 := hid (((Step.refl noF w).alloc (.cells #[.slice (some ⟨g, off, none⟩) ks.length kc, .slice (some ⟨g2, off2, none⟩) ps.length pc, .slice a ms.length c] 34)).alloc (.cells #[.slice none 0 0, .slice none 0 0, .slice none 0 0] 34))
  obtain ⟨n, hn⟩ : ∃ n, ks.length = n := ⟨_, rfl⟩
  obtain ⟨pn, hpn2⟩ : ∃ n, ps.length = n := ⟨_, rfl⟩
  have hpn1 : pn + 1 = n := by omega
  have hl0 : (ks.take i).length = i := by simp; omega
  have hl2 : (ks.drop (i + 2)).length = n - (i + 2) := by rw [List.length_drop, hn]
  have hlp0 : (ps.take i).length = i := by simp; omega
  have hlp2 : (ps.drop (i + 1)).length = pn - (i + 1) := by rw [List.length_drop, hpn2]
  have HRT := hid (show RowAt w noF (some ⟨g, off, none⟩) (intsOf (ks.take i)) by rw [← take_ints]; exact row1_take hk i)
  have HRX := hid (row1_if (show RowAt w noF (some ⟨g, off + (i + 2), none⟩) (intsOf (ks.drop (i + 2))) by rw [← drop_ints]; exact row1_drop hk (i + 2)) (kc = i + 2) (fun e => by rw [List.drop_eq_nil_of_le (by omega)]; rfl))
  have HXA := hid (show RowAt w noF (some ⟨g, off + (i + 2), none⟩) (intsOf (ks.drop (i + 2))) by rw [← drop_ints]; exact row1_drop hk (i + 2))
  have HXN : Hid (kc = i + 2 → ks.drop (i + 2) = []) := fun e => List.drop_eq_nil_of_le (by omega)
  have HXA2 := hid (show RowAt w noF (some ⟨g2, off2 + (i + 1), none⟩) (texts (ps.drop (i + 1))) by rw [← drop_texts]; exact row1_drop hp (i + 1))
  have HXN2 : Hid (pc = i + 1 → ps.drop (i + 1) = []) := fun e => List.drop_eq_nil_of_le (by omega)
  have HRT2 := hid (show RowAt w noF (some ⟨g2, off2, none⟩) (texts (ps.take i)) by rw [← take_texts]; exact row1_take hp i)
  have HRX2 := hid (row1_if (show RowAt w noF (some ⟨g2, off2 + (i + 1), none⟩) (texts (ps.drop (i + 1))) by rw [← drop_texts]; exact row1_drop hp (i + 1)) (pc = i + 1) (fun e => by rw [List.drop_eq_nil_of_le (by omega)]; rfl))
  have hkk : ks.take i ++ ref :: ks.drop (i + 2) = fuseKids ks i ref := by simp [fuseKids]
  have hpp : ps.take i ++ ps.drop (i + 1) = fusePivs ps i := by simp [fusePivs]
  obtain ⟨j1, hj1⟩ : ∃ j, i + 1 = j := ⟨_, rfl⟩
  obtain ⟨j2, hj2⟩ : ∃ j, i + 2 = j := ⟨_, rfl⟩
  have ej : (i : Int) + 1 = (j1 : Int) := by omega
  have ej2 : (i : Int) + 2 = (j2 : Int) := by omega
  have wj : IntKind.i64.wrap (j1 : Int) = (j1 : Int) := by rw [IntKind.wrap_i64]; omega
  have wj2 : IntKind.i64.wrap (j2 : Int) = (j2 : Int) := by rw [IntKind.wrap_i64]; omega
  rw [hj2] at HRX HXA HXN hkk hl2
  rw [hj1] at HRX2 HXA2 HXN2 hpp hlp2
  have q1 : (0 : Int) ≤ (i : Int) := by omega
  have q2 : (i : Int) ≤ (kc : Int) := by omega
  have q3 : (j2 : Int) ≤ (n : Int) := by omega
  have q4 : (n : Int) ≤ (kc : Int) := by omega
  have q5 : (0 : Int) ≤ (j2 : Int) := by omega
  have e1 : (n : Int) - (j2 : Int) = ((n - j2 : Nat) : Int) := by omega
  have e2 : (kc : Int) - (j2 : Int) = ((kc - j2 : Nat) : Int) := by omega
  have p3 : (j1 : Int) ≤ (pn : Int) := by omega
  have p4 : (i : Int) ≤ (pc : Int) := by omega
  have p5 : (pn : Int) ≤ (pc : Int) := by omega
  have p6 : (0 : Int) ≤ (j1 : Int) := by omega
  have f1 : (pn : Int) - (j1 : Int) = ((pn - j1 : Nat) : Int) := by omega
  have f2 : (pc : Int) - (j1 : Int) = ((pc - j1 : Nat) : Int) := by omega
  have hn1 : n ≤ 1000 := by omega
  have hin : i ≤ 1000 := by omega
  have hp1k : pn ≤ 1000 := by omega
  have HM := hid hm
  have HMC := hid hmc
  have HKK := hid hkk
  have HPP := hid hpp
  have E0 := hid hl0
  have E2 := hid hl2
  have P0 := hid hlp0
  have P2 := hid hlp2
  rw [hn, hpn2] at B0 BR S0 ⊢
  have O0 := ownI_empty ((w.alloc (.cells #[.slice (some ⟨g, off, none⟩) n kc, .slice (some ⟨g2, off2, none⟩) pn pc, .slice a ms.length c] 34)).alloc (.cells #[.slice none 0 0, .slice none 0 0, .slice none 0 0] 34))
  rw [World.size_alloc, World.size_alloc] at O0
  have HO0 := hid O0
  have T0 := hid ((Step.refl noF ((w.alloc (.cells #[.slice (some ⟨g, off, none⟩) n kc, .slice (some ⟨g2, off2, none⟩) pn pc, .slice a ms.length c] 34)).alloc (.cells #[.slice none 0 0, .slice none 0 0, .slice none 0 0] 34))).alloc (.cells #[] 3))
  obtain ⟨x0, x1, x2, _, _, _⟩ := BoxAt.all B0.out
  clear hk hkc hkn hp hpc hpn hm hmc hl0 hl2 hlp0 hlp2 hj1 hj2 hpn1 hkk hpp hn hpn2 B1 O0 hg hl hi
  go_enter Tryz.func25, Tryz.ntmps25
  go_wp2_with (at_builtin; refine wpList_append_I rfl _ _ rfl (w.heap.size + 1 + 1) _ ([]) rfl HO0.out (some ⟨g, off, none⟩) kc (ks.take i) (by rw [E0.out]; rfl) (rowAt_step HRT.out (S0.out.trans T0.out) (fun _ _ h => h)) (fun e => by cases e) (by have e0 := E0.out; simp; omega) (by simp) ?_)
  intro v1 w1 o1 g1
  have T1 := hid (grown1_step T0.out HO0.out (by simp) g1)
  have HO1 := hid (OwnI.step o1 ((Step.refl noF w1).alloc (.cells #[.int .i64 ref] 3)))
  have T1' := hid (T1.out.trans ((Step.refl noF w1).alloc (.cells #[.int .i64 ref] 3)))
  clear o1 g1
  go_wp2_with (at_builtin; refine wpList_append_I rfl _ _ rfl (w.heap.size + 1 + 1) _ (ks.take i) rfl HO1.out (some ⟨w1.heap.size, 0, none⟩) 1 [ref] rfl (int_one w1 ref) (fun e => by cases e) (by have e0 := E0.out; simp; omega) (by have := T1'.out.size; simp at this ⊢; omega) ?_)
  intro v2 w2 o2 gr2
  have T2 := hid (grown1_step T1'.out HO1.out (by simp) gr2)
  have HO2 := hid o2
  have x0' := T2.out.after x0
  clear o2 gr2 x0
  go_wp2_with (at_builtin; refine wpList_append_In rfl _ _ rfl (w.heap.size + 1 + 1) _ (ks.take i ++ [ref]) rfl HO2.out (ks.drop j2) (n - j2) E2.out rfl ?_ ?_ ?_ ?_ ?_)
  all_goals try (first | exact .inl (by rw [HXN.out (by assumption)]; rfl) | exact rowAt_step HXA.out (S0.out.trans T2.out) (fun _ _ h => h) | (have e0 := E0.out; have e2 := E2.out; rw [List.length_append, e0, e2]; simp; omega) | (have := T2.out.size; simp at this ⊢; omega))
  all_goals
    intro v3 w3 o3 gr3
    have T3 := hid (grown1_step T2.out HO2.out (by simp) gr3)
    rw [HKK.out] at o3
    have HO3 := hid o3
    have x1' := T3.out.after x1
    have U3 := hid ((Step.refl noF w3).alloc (.cells #[] 9))
    have HT0 := hid (ownT_empty w3)
    have x1a := U3.out.after x1'
    clear o3 gr3 x0' x1
    go_wp2_with (at_builtin; refine wpList_append_T rfl _ _ rfl w3.heap.size _ ([]) rfl HT0.out (some ⟨g2, off2, none⟩) pc (ps.take i) (by rw [P0.out]; rfl) (rowAt_step HRT2.out (S0.out.trans (T3.out.trans U3.out)) (fun _ _ h => h)) (fun e => by cases e) (by have e0 := P0.out; simp; omega) (by simp) ?_)
    intro v4 w4 o4 gr4
    have U4 := hid (grown1_step U3.out HT0.out (Nat.le_refl _) gr4)
    have HT4 := hid o4
    have x1'' := U4.out.after x1'
    clear o4 gr4 x1' x1a
    go_wp2_with (at_builtin; refine wpList_append_Tn rfl _ _ rfl w3.heap.size _ (ps.take i) rfl HT4.out (ps.drop j1) (pn - j1) P2.out rfl ?_ ?_ ?_ ?_ ?_)
    all_goals try (first | exact .inl (by rw [HXN2.out (by assumption)]; rfl) | exact rowAt_step HXA2.out (S0.out.trans (T3.out.trans U4.out)) (fun _ _ h => h) | (have e0 := P0.out; have e2 := P2.out; rw [e0, e2]; omega) | exact U4.out.size)
  all_goals
    intro v5 w5 o5 gr5
    have U5 := hid (grown1_step U4.out HT4.out (Nat.le_refl _) gr5)
    rw [HPP.out] at o5
    have T5 := hid (T3.out.trans U5.out)
    have x2' := T5.out.after x2
    obtain ⟨a5, c5, rfl, r5a, r5b, r5c⟩ := OwnT.row o5
    obtain ⟨a3, c3, rfl, r3a, r3b, r3c⟩ := OwnI.row (OwnI.step HO3.out U5.out)
    have B5 := BoxAt.step BR.out T5.out
    have hnd : NdV w5 ⟨fuseKids ks i ref, fusePivs ps i, ms⟩ (.agg #[.slice a3 (fuseKids ks i ref).length c3, .slice a5 (fusePivs ps i).length c5, .slice a ms.length c]) :=
      ⟨a3, a5, a, c3, c5, c, rfl, ⟨r3c, r3b.1, r3a⟩, ⟨r5c, r5b.1, r5a⟩, HM.out.stepB (S0.out.trans T5.out), HMC.out⟩
    have HND := hid (hnd.put B5 ⟨_, _, _, rfl⟩ ⟨_, _, _, rfl⟩ ⟨_, _, _, rfl⟩ (.slice a3 (fuseKids ks i ref).length c3) (.slice a5 (fusePivs ps i).length c5) (.slice a ms.length c))
    obtain ⟨y0, y1, y2, z0, z1, z2⟩ := BoxAt.all B5
    obtain ⟨t0, t1, t2, _, _, _⟩ := BoxAt.all (BoxAt.put B5 (.slice a3 (fuseKids ks i ref).length c3) (.slice a5 (fusePivs ps i).length c5) (.slice a ms.length c))
    have SW : Step noF w ((w.alloc (.cells #[.slice (some ⟨g, off, none⟩) n kc, .slice (some ⟨g2, off2, none⟩) pn pc, .slice a ms.length c] 34)).alloc (.cells #[.slice none 0 0, .slice none 0 0, .slice none 0 0] 34)) := S0.out
    have ST := hid (Step.put3 (SW.trans T5.out) (w.heap.size + 1) (by omega) (.slice a3 (fuseKids ks i ref).length c3) (.slice a5 (fusePivs ps i).length c5) (.slice a ms.length c))
    clear o5 gr5 x1'' x2 hnd B5 r5a r5b r5c r3a r3b r3c SW
    go_wp2_with fail
    refine bodyPost_ret (v := .agg #[.slice a3 (fuseKids ks i ref).length c3, .slice a5 (fusePivs ps i).length c5, .slice a ms.length c]) (by simp [results, Tryz.results25, go_sem, *]) rfl ⟨_, rfl, HND.out, ST.out⟩
set_option maxHeartbeats 8000000 in
theorem refSwapN_any (d : Nd) (hg : d.pivs.length + 1 = d.kids.length) (hl : d.kids.length ≤ 1000) (i : Nat) (hi : i < d.kids.length) (rs : List Int) (ls : List (List UInt8)) (m : Nat) (hrm : rs.length = m) (hlm : ls.length = m) (hm1 : m ≤ 1000) (ra la : Option Addr) (rc lc : Nat) (v : Value) (w : World) (h : NdV w d v) (hr : RowAt w noF ra (intsOf rs)) (hlw : RowAt w noF la (texts ls)) :
    Calls Tryz.prog 24 #[v, .int .i64 i, .slice ra m rc, .slice la m lc] w fun e w' => RefMade w' (decide (m ≠ 0) && goodN (swapKids d.kids i rs) (swapPivs d.pivs i ls)) ⟨swapKids d.kids i rs, swapPivs d.pivs i ls, d.ms⟩ e ∧ Step noF w w' := by
  obtain ⟨ka, pa, a, kc, pc, c, rfl, ⟨hk, hkc, hkn⟩, ⟨hp, hpc, hpn⟩, hm, hmc⟩ := h
  obtain ⟨ks, ps, ms⟩ := d
  simp only at hg hl hi hk hkc hkn hp hpc hpn hm ⊢
  obtain ⟨KS, hKS⟩ : ∃ x, swapKids ks i rs = x := ⟨_, rfl⟩
  obtain ⟨PS, hPS⟩ : ∃ x, swapPivs ps i ls = x := ⟨_, rfl⟩
  have hKL : KS.length ≤ 1000000 := by rw [← hKS]; simp [swapKids]; omega
  have hPL : PS.length ≤ 1000000 := by rw [← hPS]; simp [swapPivs]; omega
  have cG := refGood_any KS PS hKL hPL
  have HKA := hid ((swK_all ks i rs hi).trans hKS)
  have HPA := hid ((swP_all ps i ls (by omega)).trans hPS)
  rw [hKS, hPS]
  obtain ⟨n, hn⟩ : ∃ n, ks.length = n := ⟨_, rfl⟩
  obtain ⟨pn, hpn2⟩ : ∃ n, ps.length = n := ⟨_, rfl⟩
  rw [hn, hpn2]
  have HN := hid hn
  have HPN := hid hpn2
  have HRM := hid hrm
  have HLM := hid hlm
  have HKL := hid hKL
  have HPL := hid hPL
  have B0 := (box_new w (.slice ka n kc) (.slice pa pn pc) (.slice a ms.length c)).alloc (.cells #[.slice none 0 0, .slice none 0 0, .slice none 0 0] 34)
  have B1 := box_new (w.alloc (.cells #[.slice ka n kc, .slice pa pn pc, .slice a ms.length c] 34)) (.slice none 0 0) (.slice none 0 0) (.slice none 0 0)
  rw [World.size_alloc] at B1
  have S0 := ((Step.refl noF w).alloc (.cells #[.slice ka n kc, .slice pa pn pc, .slice a ms.length c] 34)).alloc (.cells #[.slice none 0 0, .slice none 0 0, .slice none 0 0] 34)
  obtain ⟨W2, hW2⟩ : ∃ W2, (w.alloc (.cells #[.slice ka n kc, .slice pa pn pc, .slice a ms.length c] 34)).alloc (.cells #[.slice none 0 0, .slice none 0 0, .slice none 0 0] 34) = W2 := ⟨_, rfl⟩
  have hsz : W2.heap.size = w.heap.size + 1 + 1 := by rw [← hW2]; simp
  rw [hW2] at B0 B1 S0
  have O0 := ownI_empty W2
  have T0 := ownT_empty (W2.alloc (.cells #[] 3))
  rw [World.size_alloc] at T0
  have HO0 := hid (O0.step ((Step.refl noF (W2.alloc (.cells #[] 3))).alloc (.cells #[] 9)))
  have HT0 := hid (OwnT.weak T0 (Nat.le_succ _))
  have HS0 := hid (((Step.refl noF W2).alloc (.cells #[] 3)).alloc (.cells #[] 9))
  have BN := hid B0
  have BR := hid B1
  have SW2 := hid S0
  have HK := hid hk
  have HP := hid hp
  have HM := hid hm
  have HMC := hid hmc
  have HR := hid hr
  have HL := hid hlw
  have HSZ := hid hsz
  have hn1 : n ≤ 1000 := by omega
  have hpn1 : pn + 1 = n := by omega
  have hin : i < n := by omega
  have hrd : 2 * n + m ≤ 3000 := by omega
  clear hk hp hm hmc hr hlw hsz O0 T0 B0 B1 S0 hKS hPS hKL hPL hg hl hi hkc hkn hpc hpn hn hpn2 hrm hlm
  go_enter Tryz.func24, Tryz.ntmps24
  go_wp2_with fail
  clear hW2
  go_loopg [10, 11, 12] n (fun kx s10 s11 s12 wr => ∃ k : Nat, s12 = .int .i64 k ∧ k ≤ n ∧ n - k ≤ kx ∧ Hid (OwnI wr W2.heap.size s10 (swK ks i rs k)) ∧ Hid (OwnT wr W2.heap.size s11 (swP ps i ls k)) ∧ Hid (Step noF W2 wr))
  case atStart => exact ⟨0, rfl, Nat.zero_le _, by omega, (by show OwnI _ _ _ _; rw [swK_zero]; exact HO0.out), (by show OwnT _ _ _ _; rw [swP_zero]; exact HT0.out), HS0.out⟩
  case round =>
    obtain ⟨k, rfl, hkn, hkx, HO, HT, SW⟩ := hrel
    obtain ⟨x0, x1, x2, _, _, _⟩ := (BoxAt.step BN.out SW.out).all
    by_cases hkl : k < n
    · have hkz : (k : Int) < (n : Int) := by omega
      have wk : IntKind.i64.wrap ((k : Int) + 1) = (k : Int) + 1 := by rw [IntKind.wrap_i64]; omega
      have HPR := hid (rowAt_step HP.out (SW2.out.trans SW.out) (fun _ _ h => h))
      go_upto_if 24 with fail
      go_cut [10, 11] from 16 to 66 (fun s10 s11 wx => Hid (OwnT wx W2.heap.size s11 (swM ps i ls k)) ∧ Hid (OwnI wx W2.heap.size s10 (swK ks i rs k)) ∧ Hid (Step noF W2 wx))
      case first =>
        by_cases hk0 : k = 0
        · subst hk0
          go_wp2_with fail
          go_meet
          exact ⟨by rw [swM_zero]; have := HT.out; rw [swP_zero] at this; exact this, HO.out, SW.out⟩
        · obtain ⟨t, ht⟩ : ∃ x, k - 1 = x := ⟨_, rfl⟩
          have htp : t < ps.length := by rw [HPN.out]; omega
          have hM : Hid (swM ps i ls k = swP ps i ls k ++ [ps[t]]) := by
            obtain rfl : k = t + 1 := by omega
            exact swM_pos ps i ls t htp
          obtain ⟨b, off, rfl, y0⟩ := texts_get HPR.out t htp
          have gt0 : (0 : Int) < (k : Int) := by omega
          have etm : (k : Int) - 1 = (t : Int) := by omega
          have wtm : IntKind.i64.wrap (t : Int) = (t : Int) := by rw [IntKind.wrap_i64]; omega
          have ltm : (t : Int) < (pn : Int) := by omega
          have HLN := hid (swP_len ps i ls k)
          have HTa := hid (OwnT.step HT.out ((Step.refl noF wr).alloc (.cells #[.string (str ps[t])] 9)))
          have HOa := hid (OwnI.step HO.out ((Step.refl noF wr).alloc (.cells #[.string (str ps[t])] 9)))
          have SWa := hid (SW.out.alloc (.cells #[.string (str ps[t])] 9))
          go_wp2_with (at_builtin; refine wpList_append_T rfl _ _ rfl W2.heap.size _ (swP ps i ls k) rfl HTa.out (some ⟨wr.heap.size, 0, none⟩) 1 [ps[t]] rfl (text_one wr ps[t]) (fun e => by cases e) (by have h1 := HLN.out; have h2 := HPN.out; have h3 := HLM.out; simp only [List.length_cons, List.length_nil]; omega) SWa.out.size ?_)
          intro v1 w1 o1 g1
          rw [← hM.out] at o1
          have HT1 := hid o1
          have HO1 := hid (OwnI.beside HOa.out HTa.out g1)
          have SW1 := hid (grown1_step SWa.out HTa.out (Nat.le_refl _) g1)
          clear o1 g1
          go_wp2_with fail
          go_meet
          exact ⟨HT1.out, HO1.out, SW1.out⟩
      case rest =>
        obtain ⟨HT1, HO1, SC⟩ := hcut
        clear x0 x1 x2
        obtain ⟨x0, x1, x2, _, _, _⟩ := (BoxAt.step BN.out SC.out).all
        by_cases hki : k = i
        · subst hki
          have o2 := HO1.out
          rw [swK_at] at o2
          have t2 := HT1.out
          rw [swM_at ps k ls (by rw [HPN.out]; omega)] at t2
          have HO2 := hid o2
          have HT2 := hid t2
          have HKN := hid (swK_next ks k rs)
          have HPX := hid (swP_next ps k ls)
          clear o2 t2 HO1 HT1 HO HT HPR
          go_wp2_with fail
          go_loopg [10, 11, 13] m (fun ky s10 s11 s13 wr => ∃ j : Nat, s13 = .int .i64 j ∧ j ≤ m ∧ m - j ≤ ky ∧ Hid (OwnI wr W2.heap.size s10 (ks.take k ++ rs.take j)) ∧ Hid (OwnT wr W2.heap.size s11 (ps.take k ++ (ls.take j).drop 1)) ∧ Hid (Step noF W2 wr))
          case atStart => exact ⟨0, rfl, Nat.zero_le _, by omega, (by show OwnI _ _ _ _; rw [List.take_zero, List.append_nil]; exact HO2.out), (by show OwnT _ _ _ _; rw [List.take_zero, List.drop_nil, List.append_nil]; exact HT2.out), SC⟩
          case round =>
            obtain ⟨j, rfl, hjm, hky, HO, HT, SW⟩ := hrel
            by_cases hjl : j < m
            · have hjz : (j : Int) < (m : Int) := by omega
              have wj : IntKind.i64.wrap ((j : Int) + 1) = (j : Int) + 1 := by rw [IntKind.wrap_i64]; omega
              have hjr : j < rs.length := by rw [HRM.out]; exact hjl
              have hjs : j < ls.length := by rw [HLM.out]; exact hjl
              obtain ⟨g3, off3, rfl, c0⟩ := ints_get (rowAt_step HR.out (SW2.out.trans SW.out) (fun _ _ h => h)) j hjr
              have HOa := hid (OwnI.step HO.out ((Step.refl noF wr).alloc (.cells #[.int .i64 rs[j]] 3)))
              have HTa := hid (OwnT.step HT.out ((Step.refl noF wr).alloc (.cells #[.int .i64 rs[j]] 3)))
              have SWa := hid (SW.out.alloc (.cells #[.int .i64 rs[j]] 3))
              go_wp2_with (at_builtin; refine wpList_append_I rfl _ _ rfl W2.heap.size _ (ks.take k ++ rs.take j) rfl HOa.out (some ⟨wr.heap.size, 0, none⟩) 1 [rs[j]] rfl (int_one wr rs[j]) (fun e => by cases e) (by have h2 := HN.out; simp only [List.length_cons, List.length_nil, List.length_append, List.length_take]; omega) SWa.out.size ?_)
              intro v1 w1 o1 g1
              have HO1 : Hid (OwnI w1 W2.heap.size v1 (ks.take k ++ rs.take (j + 1))) := by first | exact o1 | (rw [List.append_assoc, ← take_one rs j hjr] at o1; exact o1)
              have HT1 := hid (OwnT.beside HTa.out HOa.out g1)
              have SW1 := hid (grown1_step SWa.out HOa.out (Nat.le_refl _) g1)
              clear o1 g1 c0 HOa HTa SWa HO HT
              by_cases hj0 : j = 0
              · subst hj0
                go_wp2_with fail
                go_roundg (m - (0 + 1))
                case measure => omega
                case rel => exact ⟨0 + 1, by simp, by omega, Nat.le_refl _, HO1.out, (by show OwnT _ _ _ _; rw [low_first]; have := HT1.out; rw [List.take_zero, List.drop_nil] at this; exact this), SW1.out⟩
              · have gt0 : (0 : Int) < (j : Int) := by omega
                obtain ⟨g4, off4, rfl, y0⟩ := texts_get (rowAt_step HL.out (SW2.out.trans SW1.out) (fun _ _ h => h)) j hjs
                have HOa := hid (OwnI.step HO1.out ((Step.refl noF w1).alloc (.cells #[.string (str ls[j])] 9)))
                have HTa := hid (OwnT.step HT1.out ((Step.refl noF w1).alloc (.cells #[.string (str ls[j])] 9)))
                have SWa := hid (SW1.out.alloc (.cells #[.string (str ls[j])] 9))
                go_wp2_with (at_builtin; refine wpList_append_T rfl _ _ rfl W2.heap.size _ (ps.take k ++ (ls.take j).drop 1) rfl HTa.out (some ⟨w1.heap.size, 0, none⟩) 1 [ls[j]] rfl (text_one w1 ls[j]) (fun e => by cases e) (by have h2 := HPN.out; simp only [List.length_cons, List.length_nil, List.length_append, List.length_take, List.length_drop]; omega) SWa.out.size ?_)
                intro v2 w2 o2 g2
                have HT2' : Hid (OwnT w2 W2.heap.size v2 (ps.take k ++ (ls.take (j + 1)).drop 1)) := by
                  have e : ∀ xs : List (List UInt8), xs.tail = xs.drop 1 := fun xs => by simp
                  rw [low_next ls j hjs (by omega)]
                  first | exact o2 | (rw [e] at o2; exact o2) | (rw [List.append_assoc] at o2; exact o2)
                have HO2' := hid (OwnI.beside HOa.out HTa.out g2)
                have SW2' := hid (grown1_step SWa.out HTa.out (Nat.le_refl _) g2)
                clear o2 g2 y0 HOa HTa SWa
                go_wp2_with fail
                go_roundg (m - (j + 1))
                case measure => omega
                case rel => exact ⟨j + 1, by simp, by omega, Nat.le_refl _, HO2'.out, HT2'.out, SW2'.out⟩
            · obtain rfl : j = m := by omega
              have o3 := HO.out
              rw [List.take_of_length_le (show rs.length ≤ j by rw [HRM.out]; exact Nat.le_refl _), ← HKN.out] at o3
              have t3 := HT.out
              rw [List.take_of_length_le (show ls.length ≤ j by rw [HLM.out]; exact Nat.le_refl _), ← HPX.out] at t3
              have HO3 := hid o3
              have HT3 := hid t3
              clear o3 t3 HO HT
              go_wp2_with fail
              go_roundg (n - (k + 1))
              case measure => omega
              case rel => exact ⟨k + 1, by simp, by omega, Nat.le_refl _, HO3.out, HT3.out, SW.out⟩
        · have hkb : ((k : Int) == (i : Int)) = false := by rw [beq_eq_false_iff_ne]; omega
          have hkb2 : ((k : Int) != (i : Int)) = true := by simp [hkb]; omega
          have hkz2 : ¬ (k : Int) = (i : Int) := by omega
          have hkk : k < ks.length := by rw [HN.out]; exact hkl
          have HKS2 := hid (swK_step ks i rs k hkk hki)
          have HPS2 := hid (swP_step ps i ls k (by rw [HPN.out]; omega) hki)
          have HLN := hid (swK_len ks i rs k)
          obtain ⟨g3, off3, rfl, c0⟩ := ints_get (rowAt_step HK.out (SW2.out.trans SC.out) (fun _ _ h => h)) k hkk
          have HOa := hid (OwnI.step HO1.out ((Step.refl noF wc).alloc (.cells #[.int .i64 ks[k]] 3)))
          have HTa := hid (OwnT.step HT1.out ((Step.refl noF wc).alloc (.cells #[.int .i64 ks[k]] 3)))
          have SWa := hid (SC.out.alloc (.cells #[.int .i64 ks[k]] 3))
          clear HO1 HT1 HO HT HPR
          go_wp2_with (at_builtin; refine wpList_append_I rfl _ _ rfl W2.heap.size _ (swK ks i rs k) rfl HOa.out (some ⟨wc.heap.size, 0, none⟩) 1 [ks[k]] rfl (int_one wc ks[k]) (fun e => by cases e) (by have h1 := HLN.out; have h2 := HN.out; have h3 := HRM.out; simp only [List.length_cons, List.length_nil]; omega) SWa.out.size ?_)
          intro v1 w1 o1 g1
          rw [← HKS2.out] at o1
          have HO1 := hid o1
          have t1 := OwnT.beside HTa.out HOa.out g1
          rw [← HPS2.out] at t1
          have HT1 := hid t1
          have SW1 := hid (grown1_step SWa.out HOa.out (Nat.le_refl _) g1)
          clear o1 g1 c0 HOa HTa SWa t1
          go_wp2_with fail
          go_roundg (n - (k + 1))
          case measure => omega
          case rel => exact ⟨k + 1, by simp, by omega, Nat.le_refl _, HO1.out, HT1.out, SW1.out⟩
    · have ho := HO.out
      rw [show k = ks.length by rw [HN.out]; omega, HKA.out] at ho
      have ht := HT.out
      rw [show k = ps.length + 1 by rw [HPN.out]; omega, HPA.out] at ht
      have hkz : ¬ (k : Int) < (n : Int) := by omega
      obtain ⟨a3, c3, rfl, r3a, r3b, r3c⟩ := OwnI.row ho
      obtain ⟨a5, c5, rfl, r5a, r5b, r5c⟩ := OwnT.row ht
      have cg := cG a3 a5 c3 c5 wr r3c r5c
      have HI3 := hid (And.intro r3a (And.intro r3b r3c))
      have HT5 := hid (And.intro r5a (And.intro r5b r5c))
      have SWW := hid (SW2.out.trans SW.out)
      have BZ := hid (BoxAt.step BR.out SW.out)
      have hsz3 : w.heap.size ≤ w.heap.size + 1 := by omega
      clear ho ht HO HT r3a r3b r3c r5a r5b r5c
      by_cases hm0 : m = 0
      · subst hm0
        obtain ⟨p0, p1, p2, z0, z1, z2⟩ := BoxAt.all BZ.out
        have BP := BoxAt.put BZ.out (.slice none 0 0) (.slice none 0 0) (.slice none 0 0)
        obtain ⟨y0, y1, y2, _, _, _⟩ := BoxAt.all BP
        have SP := hid (SWW.out.put3 (w.heap.size + 1) hsz3 (.slice none 0 0) (.slice none 0 0) (.slice none 0 0))
        clear BP cg
        go_wp2_with fail
        refine bodyPost_ret (v := .tuple #[.agg #[.slice none 0 0, .slice none 0 0, .slice none 0 0], .bool false]) (by simp [results, Tryz.results24, go_sem, *]) rfl ⟨.inl ⟨by rfl, rfl⟩, SP.out⟩
      · have hmz : ¬ (m : Int) = 0 := by omega
        have hmb : ((m : Int) == 0) = false := by rw [beq_eq_false_iff_ne]; exact hmz
        have HM0 := hid hm0
        obtain ⟨L3, hL3⟩ : ∃ x, KS.length = x := ⟨_, rfl⟩
        obtain ⟨L5, hL5⟩ : ∃ x, PS.length = x := ⟨_, rfl⟩
        have HL3 := hid hL3
        have HL5 := hid hL5
        rw [hL3, hL5] at cg ⊢
        clear hL3 hL5
        cases hgd : goodN KS PS
        · rw [hgd] at cg
          have HGD := hid hgd
          clear hgd
          go_wp2_with fail
          refine cg.mono ?_
          rintro e w2 ⟨rfl, s2⟩
          have S2 := hid (SWW.out.trans s2)
          have B2 := hid (BZ.out.step s2)
          clear s2
          obtain ⟨p0, p1, p2, z0, z1, z2⟩ := BoxAt.all B2.out
          have BP := BoxAt.put B2.out (.slice none 0 0) (.slice none 0 0) (.slice none 0 0)
          obtain ⟨y0, y1, y2, _, _, _⟩ := BoxAt.all BP
          have SP := hid (S2.out.put3 (w.heap.size + 1) hsz3 (.slice none 0 0) (.slice none 0 0) (.slice none 0 0))
          clear BP cg
          go_wp2_with fail
          refine bodyPost_ret (v := .tuple #[.agg #[.slice none 0 0, .slice none 0 0, .slice none 0 0], .bool false]) (by simp [results, Tryz.results24, go_sem, *]) rfl ⟨.inl ⟨by rw [decide_eq_true HM0.out, HGD.out]; rfl, rfl⟩, SP.out⟩
        · rw [hgd] at cg
          have HGD := hid hgd
          clear hgd
          go_wp2_with fail
          refine cg.mono ?_
          rintro e w2 ⟨rfl, s2⟩
          have S2 := hid (SWW.out.trans s2)
          have B2 := hid (BZ.out.step s2)
          have x2' := s2.after x2
          obtain ⟨r3a, r3b, r3c⟩ := HI3.out
          obtain ⟨r5a, r5b, r5c⟩ := HT5.out
          have hnd : NdV w2 ⟨KS, PS, ms⟩ (.agg #[.slice a3 KS.length c3, .slice a5 PS.length c5, .slice a ms.length c]) :=
            ⟨a3, a5, a, c3, c5, c, rfl, ⟨rowAt_step r3c s2 (fun _ _ h => h), r3b.1, r3a⟩, ⟨rowAt_step r5c s2 (fun _ _ h => h), r5b.1, r5a⟩, HM.out.stepB S2.out, HMC.out⟩
          rw [HL3.out, HL5.out] at hnd
          have HND := hid (hnd.put B2.out ⟨_, _, _, rfl⟩ ⟨_, _, _, rfl⟩ ⟨_, _, _, rfl⟩ (.slice a3 L3 c3) (.slice a5 L5 c5) (.slice a ms.length c))
          clear s2 hnd r3a r3b r3c r5a r5b r5c
          obtain ⟨p0, p1, p2, z0, z1, z2⟩ := BoxAt.all B2.out
          have BP := BoxAt.put B2.out (.slice a3 L3 c3) (.slice a5 L5 c5) (.slice a ms.length c)
          obtain ⟨y0, y1, y2, _, _, _⟩ := BoxAt.all BP
          have SP := hid (S2.out.put3 (w.heap.size + 1) hsz3 (.slice a3 L3 c3) (.slice a5 L5 c5) (.slice a ms.length c))
          clear BP cg x2
          go_wp2_with fail
          refine bodyPost_ret (v := .tuple #[.agg #[.slice a3 L3 c3, .slice a5 L5 c5, .slice a ms.length c], .bool true]) (by simp [results, Tryz.results24, go_sem, *]) rfl ⟨.inr ⟨by rw [decide_eq_true HM0.out, HGD.out]; rfl, _, rfl, HND.out⟩, SP.out⟩
end Go.Proofs.YtgmgoaencaldmaaGreat
