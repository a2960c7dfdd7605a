/-
  The walk of the law MergeAny.
-/
import Derived.Test.YtnalillebemglaaGreatMgAw
import Derived.Test.YtnalillebemglaaGreatBfRA
import Derived.Test.YtnalillebemglaaGreatMgG
namespace Go.Proofs.YtnalillebemglaaGreat
open Go.RowKit Go.Sort
set_option linter.unusedVariables false
set_option linter.unusedSimpArgs false
set_option maxRecDepth 20000

theorem mod_runs (z : Int) (n : Nat) (hn : n ≤ 2000) : ∃ i : Nat, wrap64 ((IntKind.u64.wrap z).tmod ((n : Int) + 1)) = (i : Int) ∧ i ≤ n := by
  have h0 := wrap_u64_nonneg z
  have e : (IntKind.u64.wrap z).tmod ((n : Int) + 1) = (IntKind.u64.wrap z) % ((n : Int) + 1) := Int.tmod_eq_emod_of_nonneg h0
  have l0 := Int.emod_nonneg (IntKind.u64.wrap z) (b := (n : Int) + 1) (by omega)
  have l1 := Int.emod_lt_of_pos (IntKind.u64.wrap z) (b := (n : Int) + 1) (by omega)
  refine ⟨((IntKind.u64.wrap z) % ((n : Int) + 1)).toNat, ?_, by omega⟩
  rw [e]
  unfold wrap64
  omega
theorem mod_few {rs : List (List Mg)} (h : ModR rs) : FewR rs ∧ leftR rs ≤ 300 := by
  refine ⟨⟨by have := h.1; omega, fun r hr => ⟨by have := (h.2 r hr).1; omega, fun m hm => by have := ((h.2 r hr).2 m hm).2; unfold maxLen; omega⟩⟩, ?_⟩
  have h1 := leftR_le rs 30 (fun r hr => (h.2 r hr).1)
  have h2 : rs.length * 30 ≤ 10 * 30 := Nat.mul_le_mul_right _ h.1
  omega

theorem RunsAt.take {w : World} {a : Option Addr} {rs : List (List Mg)} (h : RunsAt w a rs) (n : Nat) : RunsAt w a (rs.take n) := by
  rcases h with rfl | ⟨b, off, rfl, hb, h⟩
  · exact .inl (by simp)
  · refine .inr ⟨b, off, rfl, hb, fun j hj => ?_⟩
    simp only [List.length_take] at hj
    obtain ⟨aj, cj, h1, h2, h3, h4⟩ := h j (by omega)
    rw [List.getElem_take]
    exact ⟨aj, cj, h1, h2, h3, h4⟩
theorem RunsAt.dropMap {w : World} {a : Option Addr} {rs : List (List Mg)} (h : RunsAt w a rs) (n : Nat) : RunsAt w (Option.map (fun x => x.add n) a) (rs.drop n) := by
  rcases h with rfl | ⟨b, off, rfl, hb, h⟩
  · exact .inl (by simp)
  · refine .inr ⟨b, off + n, congrArg some (Addr.add_lit ..), hb, fun j hj => ?_⟩
    simp only [List.length_drop] at hj
    obtain ⟨aj, cj, h1, h2, h3, h4⟩ := h (n + j) (by omega)
    rw [List.getElem_drop, Nat.add_assoc]
    exact ⟨aj, cj, h1, h2, h3, h4⟩
theorem RunsAt.dropEnd {w : World} {a : Option Addr} {rs : List (List Mg)} {n : Nat} (hn : rs.length ≤ n) : RunsAt w a (rs.drop n) := .inl (List.drop_eq_nil_of_le hn)
theorem ModR.take {rs : List (List Mg)} (h : ModR rs) (n : Nat) : ModR (rs.take n) := ⟨by rw [List.length_take]; have := h.1; omega, fun r hr => h.2 r (List.mem_of_mem_take hr)⟩
theorem ModR.drop {rs : List (List Mg)} (h : ModR rs) (n : Nat) : ModR (rs.drop n) := ⟨by rw [List.length_drop]; have := h.1; omega, fun r hr => h.2 r (List.mem_of_mem_drop hr)⟩
/-- Msgs of runs that can be. -/
theorem mMsgs_ok (rs : List (List Mg)) (hF : FewR rs) (hok : OkR rs) (a : Option Addr) (len c : Nat) (hl : Hid (rs.length = len)) (w : World) (h : RunsAt w a rs) : Calls Tryz.prog 10 #[.slice a len c] w fun e w' => ∃ a1 n1 c1, e = .returned (.tuple #[.slice a1 n1 c1, .int .i64 0]) ∧ Hid (RunOk w' a1 n1 c1 (msgsR rs)) ∧ Hid (Step noF w w') := by
  rw [← hl.out]
  refine (mMsgs_any rs hF a c w h).mono ?_
  rintro e w3 ⟨s3, ⟨hk2, _⟩ | ⟨_, a1, c1, rfl, hc1, hl1, h1⟩⟩
  · exact absurd (chkR_of hok) hk2
  · exact ⟨a1, _, c1, rfl, ⟨rfl, hc1, hl1, h1⟩, s3⟩

theorem sameG_yes (xs : List Mg) (hl : xs.length ≤ 1000000) (a1 a2 : Option Addr) (n1 n2 c1 c2 : Nat) (w : World) (h1 : RunOk w a1 n1 c1 xs) (h2 : RunOk w a2 n2 c2 xs) :
    Calls Tryz.prog 13 #[.slice a1 n1 c1, .slice a2 n2 c2] w fun e w' => e = .returned (.bool true) ∧ Hid (Step noF w w') := by
  obtain ⟨rfl, _, _, h1⟩ := h1
  obtain ⟨rfl, _, _, h2⟩ := h2
  refine (refSameB_any xs xs ⟨hl, hl⟩ a1 a2 c1 c2 w h1 h2).mono ?_
  rintro e w' ⟨rfl, s⟩
  exact ⟨by rw [(sameM_iff _ _).2 rfl], s⟩
theorem few_good {rs : List (List Mg)} (h : OkR rs) (hl : rs.length ≤ 1000) (hr : ∀ r ∈ rs, r.length ≤ 100000) : FewR rs := ⟨hl, fun r hr' => ⟨hr r hr', fun m hm => Mg.val_max ((h r hr').1 m hm)⟩⟩
theorem parts_few {rs : List (List Mg)} (hM : ModR rs) (hok : OkR rs) (n : Nat) : (OkR [msgsR (rs.take n), msgsR (rs.drop n)] ∧ FewR [msgsR (rs.take n), msgsR (rs.drop n)]) ∧ OkR (msgsR (rs.take n) :: rs.drop n) ∧ FewR (msgsR (rs.take n) :: rs.drop n) := by
  have g1 := msgsR_good (hok.take n)
  have g2 := msgsR_good (hok.drop n)
  have l1 := Nat.le_trans (msgsR_len _) (mod_few (hM.take n)).2
  have l2 := Nat.le_trans (msgsR_len _) (mod_few (hM.drop n)).2
  have o1 : OkR [msgsR (rs.take n), msgsR (rs.drop n)] := fun r hr => by
    simp only [List.mem_cons, List.not_mem_nil, or_false] at hr
    rcases hr with rfl | rfl
    · exact g1
    · exact g2
  have o2 : OkR (msgsR (rs.take n) :: rs.drop n) := fun r hr => by
    rcases List.mem_cons.1 hr with rfl | hr
    · exact g1
    · exact hok.drop n r hr
  refine ⟨⟨o1, few_good o1 (by simp) (fun r hr => ?_)⟩, o2, few_good o2 ?_ (fun r hr => ?_)⟩
  · simp only [List.mem_cons, List.not_mem_nil, or_false] at hr
    rcases hr with rfl | rfl <;> omega
  · have := (hM.drop n).1
    simp only [List.length_cons]
    omega
  · rcases List.mem_cons.1 hr with rfl | hr
    · omega
    · have := ((hM.drop n).2 r hr).1
      omega

set_option maxHeartbeats 4000000 in
theorem mergeAny_on (rs : List (List Mg)) (hx : rs.length ≤ maxLen) (hq : ∀ r ∈ rs, r.length ≤ maxLen ∧ ∀ m ∈ r, m.key.length ≤ maxLen ∧ m.val.length ≤ maxLen) (a : Option Addr) (c : Nat) (hc : a = none → c = 0) (len : Nat) (hlen : Hid (rs.length = len)) (hcl : len ≤ c) (z : Int) (w : World) (hR : RunsAt w a rs) :
    Calls Tryz.prog 5 #[.slice a len c, .int .i64 z] w fun e w' => e = .returned (.bool true) ∧ Step noF w w' := by
  have hSl := less_str
  have cG : ∀ w', Step noF w w' → Calls Tryz.prog 8 #[.slice a len c] w' fun e w'' => (e = .returned (.bool true) ∨ (e = .returned (.bool false) ∧ Hid (ModR rs))) ∧ Hid (w' = w'') := fun w' hs => by
    rw [← hlen.out]
    exact greatR_any rs hx hq a c w' (hR.step hs)
  clear hx hq
  go_enter Tryz.func5, Tryz.ntmps5
  go_wp2_with fail
  refine (awakeR_any w).mono ?_
  rintro e w1 ⟨rfl, s1⟩
  go_wp2_with fail
  refine (cG w1 s1).mono ?_
  rintro e w2 ⟨rfl | ⟨rfl, HMM⟩, hw2⟩
  · obtain rfl := hw2.out
    go_wp2_with fail
    go_ret
    exact ⟨rfl, s1⟩
  obtain rfl := hw2.out
  have hM := HMM.out
  obtain ⟨hF, hL⟩ := mod_few hM
  have h10 : len ≤ 10 := by rw [← hlen.out]; exact hM.1
  by_cases hk : chkR rs = 0
  · have hok := chkR_ok hk
    obtain ⟨n, hn, hnl⟩ := mod_runs z len (by omega)
    have HP := hid (parts_few hM hok n)
    have HXR : Hid (RisingM (msgsR rs) ∧ (msgsR rs).length ≤ 300) := ⟨(msgsR_good hok).2, Nat.le_trans (msgsR_len rs) hL⟩
    have HMF := hid (mod_few (hM.take n)).1
    have HMD := hid (mod_few (hM.drop n)).1
    have HOK := hid hok
    have HFF := hid hF
    clear hF hok hL hM cG hk
    go_wp2_with fail
    refine (mMsgs_ok rs HFF.out HOK.out a len c hlen w1 (hR.step s1)).mono ?_
    rintro e w3 ⟨a1, n1, c1, rfl, H1, s3⟩
    have S3 := hid (s1.trans s3.out)
    clear s1 s3
    go_wp2_with fail
    refine (mMsgs_ok (rs.take n) HMF.out (HOK.out.take n) a n c ?_ w3 ((hR.step S3.out).take n)).mono ?_
    · show _ = _
      rw [List.length_take, hlen.out]
      omega
    rintro e w4 ⟨a2, n2, c2, rfl, H2, s4⟩
    have H14 := hid (H1.out.step s4.out)
    have S4 := hid (S3.out.trans s4.out)
    clear H1 S3 s4
    by_cases hcn : c = n
    · replace hcn := hcn.symm
      subst hcn
      have HRL : Hid (rs.length ≤ n) := by show _ ≤ _; rw [hlen.out]; omega
      go_wp2_with fail
      refine (mMsgs_ok (rs.drop n) HMD.out (HOK.out.drop n) _ 0 _ ?_ w4 (RunsAt.dropEnd HRL.out)).mono ?_
      · show _ = _
        rw [List.length_drop, hlen.out]
        omega
      rintro e w5 ⟨a3, n3, c3, rfl, H3, s5⟩
      have H15 := hid (H14.out.step s5.out)
      have H25 := hid (H2.out.step s5.out)
      have S5 := hid (S4.out.trans s5.out)
      clear H14 H2 S4 s5
      go_wp2_with fail
      have r2 := runs2_new w5 29 a2 n2 c2 _ a3 n3 c3 _ H25.out H3.out
      have st5 := (Step.refl noF w5).alloc (.cells #[.slice a2 n2 c2, .slice a3 n3 c3] 29)
      refine (mMsgs_ok _ HP.out.1.2 HP.out.1.1 _ 2 2 rfl _ r2).mono ?_
      rintro e w6 ⟨a4, n4, c4, rfl, H4, s6⟩
      rw [msgsR_two HOK.out n] at H4
      have s56 := st5.trans s6.out
      have H16 := hid (H15.out.step s56)
      have H26 := hid (H25.out.step s56)
      have S6 := hid (S5.out.trans s56)
      have st6 := (Step.refl noF w6).alloc (.cells #[.slice a2 n2 c2] 29)
      clear r2 st5 s6 s56 H15 H25 S5 H3
      obtain ⟨us, hu, hcell⟩ := (RunsAt.dropEnd (w := w6) (a := a) HRL.out).vals
      have HU := hid hu
      have HC := hid hcell
      clear hu hcell
      go_wp2_with (at_builtin; refine wpList_append_R rfl _ _ rfl w6.heap.size _ [.slice a2 n2 c2] rfl (owns_one w6 _ _) _ _ (rs.drop n) us _ (by rw [List.length_drop, hlen.out]; omega) rfl (HU.out.step st6) (fun d hd j u hj => cell_alloc (HC.out d hd j u hj) _) (fun _ => rfl) (by rw [List.length_drop, hlen.out]; omega) (by rw [List.length_drop, hlen.out]; simp; omega) (by rw [World.size_alloc]; omega) ?_)
      intro v7 w7 o7 g7
      have t7 := grownB_step st6 (owns_one w6 _ _) (Nat.le_refl _) g7
      have S7 := hid (S6.out.trans t7)
      have H17 := hid (H16.out.step t7)
      have H47 := hid (H4.out.step t7)
      obtain ⟨a7, n7, c7, rfl, h7, r7⟩ := owns_rowR o7 ((valsOf_one (H26.out.step t7)).append (HU.out.step t7))
      clear o7 g7 t7 st6 HU HC H16 H26 H4 S6
      go_wp2_with fail
      refine (mMsgs_ok ([_] ++ rs.drop n) HP.out.2.2 HP.out.2.1 a7 n7 c7 h7 w7 r7).mono ?_
      rintro e w8 ⟨a8, n8, c8, rfl, H8, s8⟩
      have H88 : Hid (RunOk w8 a8 n8 c8 (msgsR rs)) := by
        have e := msgsR_step HOK.out n
        rw [← e]
        exact H8
      have H18 := hid (H17.out.step s8.out)
      have H48 := hid (H47.out.step s8.out)
      have S8 := hid (S7.out.trans s8.out)
      clear H17 H47 S7 s8 H8 r7
      obtain ⟨xs, hxs⟩ : ∃ xs, msgsR rs = xs := ⟨_, rfl⟩
      have hXR := HXR.out
      rw [hxs] at H88 H18 H48 hXR
      have HX := hid hXR
      have hn1 : n1 = xs.length := H18.out.1
      have hnx : n1 ≤ 300 := by rw [hn1]; exact hXR.2
      have HN1 := hid hn1
      clear hxs hXR hn1
      go_wp2_with fail
      go_loopg [16] 400 (fun kx s3 wr => ∃ (j : Nat), s3 = .int .i64 j ∧ 1 ≤ j ∧ n1 - j ≤ kx ∧ Hid (Step noF w8 wr))
      case atStart => exact ⟨1, rfl, by omega, by omega, Step.refl _ _⟩
      case round =>
        obtain ⟨j, rfl, hj, hkx, ST⟩ := hrel
        have R1 := hid (H18.out.step ST.out)
        by_cases hjl : j < n1
        · obtain ⟨q, rfl⟩ : ∃ q, j = q + 1 := ⟨j - 1, by omega⟩
          have hkl : q + 1 < xs.length := by rw [← HN1.out]; exact hjl
          obtain ⟨g, o, e0, c0, k1, k2⟩ := R1.out.2.2.2.at (q + 1) hkl
          obtain ⟨g', o', e', d0, d1, d2⟩ := R1.out.2.2.2.at q (by omega)
          subst e0
          obtain ⟨rfl, rfl⟩ : g = g' ∧ o = o' := by
            injection e' with e'
            injection e' with e1 e2
            exact ⟨e1, e2⟩
          have ez : (q : Int) + 1 - 1 = (q : Int) := by omega
          have b0 : (q : Int) < (n1 : Int) := by omega
          have b1 : (q : Int) + 1 < (n1 : Int) := by omega
          have p1 : (0 : Int) ≤ (q : Int) + 1 := by omega
          have e1 : ((q : Int) + 1).toNat = q + 1 := by omega
          have rq : IntKind.i64.wrap (q : Int) = (q : Int) := by rw [IntKind.wrap_i64]; omega
          have hxy : xs[q].key < xs[q + 1].key := List.pairwise_iff_getElem.1 HX.out.1 q (q + 1) (by omega) hkl (by omega)
          obtain ⟨x, hx⟩ : ∃ m, xs[q].key = m := ⟨_, rfl⟩
          obtain ⟨y, hy⟩ : ∃ m, xs[q + 1].key = m := ⟨_, rfl⟩
          rw [hx, hy] at hxy
          rw [hx] at d1
          rw [hy] at k1
          clear hx hy c0 k2 d0 d2 e' R1
          go_wp2_with fail
          go_quiet (fail)
          go_wp2_with fail
          go_roundg (n1 - (q + 2))
          case measure => omega
          case rel => exact ⟨q + 2, by simp; omega, by omega, Nat.le_refl _, ST.out.trans ((Step.refl noF _).drewN _)⟩
        · have hjz : ¬ (j : Int) < (n1 : Int) := by omega
          have c1 := sameG_yes xs (by rw [← HN1.out]; omega) a1 a4 n1 n4 c1 c4 wr R1.out (H48.out.step ST.out)
          have c2 := fun wz (hz : Step noF wr wz) => sameG_yes xs (by rw [← HN1.out]; omega) a1 a8 n1 n8 _ c8 wz (R1.out.step hz) (H88.out.step (ST.out.trans hz))
          have SR := hid (S8.out.trans ST.out)
          go_wp2_with fail
          refine c1.mono ?_
          rintro e w9 ⟨rfl, s9⟩
          go_wp2_with fail
          refine (c2 w9 s9.out).mono ?_
          rintro e w10 ⟨rfl, s10⟩
          go_wp2_with fail
          go_ret
          exact ⟨rfl, SR.out.trans (s9.out.trans s10.out)⟩
    · go_wp2_with fail
      refine (mMsgs_ok (rs.drop n) HMD.out (HOK.out.drop n) _ (len - n) _ ?_ w4 ((hR.step S4.out).dropMap n)).mono ?_
      · show _ = _
        rw [List.length_drop, hlen.out]
      rintro e w5 ⟨a3, n3, c3, rfl, H3, s5⟩
      have H15 := hid (H14.out.step s5.out)
      have H25 := hid (H2.out.step s5.out)
      have S5 := hid (S4.out.trans s5.out)
      clear H14 H2 S4 s5
      go_wp2_with fail
      have r2 := runs2_new w5 29 a2 n2 c2 _ a3 n3 c3 _ H25.out H3.out
      have st5 := (Step.refl noF w5).alloc (.cells #[.slice a2 n2 c2, .slice a3 n3 c3] 29)
      refine (mMsgs_ok _ HP.out.1.2 HP.out.1.1 _ 2 2 rfl _ r2).mono ?_
      rintro e w6 ⟨a4, n4, c4, rfl, H4, s6⟩
      rw [msgsR_two HOK.out n] at H4
      have s56 := st5.trans s6.out
      have H16 := hid (H15.out.step s56)
      have H26 := hid (H25.out.step s56)
      have S6 := hid (S5.out.trans s56)
      have st6 := (Step.refl noF w6).alloc (.cells #[.slice a2 n2 c2] 29)
      clear r2 st5 s6 s56 H15 H25 S5 H3
      obtain ⟨us, hu, hcell⟩ := ((hR.step S6.out).dropMap n).vals
      have HU := hid hu
      have HC := hid hcell
      clear hu hcell
      go_wp2_with (at_builtin; refine wpList_append_R rfl _ _ rfl w6.heap.size _ [.slice a2 n2 c2] rfl (owns_one w6 _ _) _ _ (rs.drop n) us _ (by rw [List.length_drop, hlen.out]) rfl (HU.out.step st6) (fun d hd j u hj => cell_alloc (HC.out d hd j u hj) _) (fun h => by have := hc (Option.map_eq_none_iff.1 h); omega) (by rw [List.length_drop, hlen.out]; omega) (by rw [List.length_drop, hlen.out]; simp; omega) (by rw [World.size_alloc]; omega) ?_)
      intro v7 w7 o7 g7
      have t7 := grownB_step st6 (owns_one w6 _ _) (Nat.le_refl _) g7
      have S7 := hid (S6.out.trans t7)
      have H17 := hid (H16.out.step t7)
      have H47 := hid (H4.out.step t7)
      obtain ⟨a7, n7, c7, rfl, h7, r7⟩ := owns_rowR o7 ((valsOf_one (H26.out.step t7)).append (HU.out.step t7))
      clear o7 g7 t7 st6 HU HC H16 H26 H4 S6
      go_wp2_with fail
      refine (mMsgs_ok ([_] ++ rs.drop n) HP.out.2.2 HP.out.2.1 a7 n7 c7 h7 w7 r7).mono ?_
      rintro e w8 ⟨a8, n8, c8, rfl, H8, s8⟩
      have H88 : Hid (RunOk w8 a8 n8 c8 (msgsR rs)) := by
        have e := msgsR_step HOK.out n
        rw [← e]
        exact H8
      have H18 := hid (H17.out.step s8.out)
      have H48 := hid (H47.out.step s8.out)
      have S8 := hid (S7.out.trans s8.out)
      clear H17 H47 S7 s8 H8 r7
      obtain ⟨xs, hxs⟩ : ∃ xs, msgsR rs = xs := ⟨_, rfl⟩
      have hXR := HXR.out
      rw [hxs] at H88 H18 H48 hXR
      have HX := hid hXR
      have hn1 : n1 = xs.length := H18.out.1
      have hnx : n1 ≤ 300 := by rw [hn1]; exact hXR.2
      have HN1 := hid hn1
      clear hxs hXR hn1
      go_wp2_with fail
      go_loopg [16] 400 (fun kx s3 wr => ∃ (j : Nat), s3 = .int .i64 j ∧ 1 ≤ j ∧ n1 - j ≤ kx ∧ Hid (Step noF w8 wr))
      case atStart => exact ⟨1, rfl, by omega, by omega, Step.refl _ _⟩
      case round =>
        obtain ⟨j, rfl, hj, hkx, ST⟩ := hrel
        have R1 := hid (H18.out.step ST.out)
        by_cases hjl : j < n1
        · obtain ⟨q, rfl⟩ : ∃ q, j = q + 1 := ⟨j - 1, by omega⟩
          have hkl : q + 1 < xs.length := by rw [← HN1.out]; exact hjl
          obtain ⟨g, o, e0, c0, k1, k2⟩ := R1.out.2.2.2.at (q + 1) hkl
          obtain ⟨g', o', e', d0, d1, d2⟩ := R1.out.2.2.2.at q (by omega)
          subst e0
          obtain ⟨rfl, rfl⟩ : g = g' ∧ o = o' := by
            injection e' with e'
            injection e' with e1 e2
            exact ⟨e1, e2⟩
          have ez : (q : Int) + 1 - 1 = (q : Int) := by omega
          have b0 : (q : Int) < (n1 : Int) := by omega
          have b1 : (q : Int) + 1 < (n1 : Int) := by omega
          have p1 : (0 : Int) ≤ (q : Int) + 1 := by omega
          have e1 : ((q : Int) + 1).toNat = q + 1 := by omega
          have rq : IntKind.i64.wrap (q : Int) = (q : Int) := by rw [IntKind.wrap_i64]; omega
          have hxy : xs[q].key < xs[q + 1].key := List.pairwise_iff_getElem.1 HX.out.1 q (q + 1) (by omega) hkl (by omega)
          obtain ⟨x, hx⟩ : ∃ m, xs[q].key = m := ⟨_, rfl⟩
          obtain ⟨y, hy⟩ : ∃ m, xs[q + 1].key = m := ⟨_, rfl⟩
          rw [hx, hy] at hxy
          rw [hx] at d1
          rw [hy] at k1
          clear hx hy c0 k2 d0 d2 e' R1
          go_wp2_with fail
          go_quiet (fail)
          go_wp2_with fail
          go_roundg (n1 - (q + 2))
          case measure => omega
          case rel => exact ⟨q + 2, by simp; omega, by omega, Nat.le_refl _, ST.out.trans ((Step.refl noF _).drewN _)⟩
        · have hjz : ¬ (j : Int) < (n1 : Int) := by omega
          have c1 := sameG_yes xs (by rw [← HN1.out]; omega) a1 a4 n1 n4 c1 c4 wr R1.out (H48.out.step ST.out)
          have c2 := fun wz (hz : Step noF wr wz) => sameG_yes xs (by rw [← HN1.out]; omega) a1 a8 n1 n8 _ c8 wz (R1.out.step hz) (H88.out.step (ST.out.trans hz))
          have SR := hid (S8.out.trans ST.out)
          go_wp2_with fail
          refine c1.mono ?_
          rintro e w9 ⟨rfl, s9⟩
          go_wp2_with fail
          refine (c2 w9 s9.out).mono ?_
          rintro e w10 ⟨rfl, s10⟩
          go_wp2_with fail
          go_ret
          exact ⟨rfl, SR.out.trans (s9.out.trans s10.out)⟩
  · obtain ⟨q, hq⟩ : ∃ q, chkR rs = q := ⟨_, rfl⟩
    have cM : ∀ W, Step noF w W → Calls Tryz.prog 10 #[.slice a len c] W fun e w' => e = .returned (.tuple #[.slice none 0 0, .int .i64 q]) ∧ Step noF W w' := fun W hW => by
      rw [← hlen.out]
      refine (mMsgs_any rs hF a c W (hR.step hW)).mono ?_
      rintro e w3 ⟨s3, ⟨_, rfl⟩ | ⟨hk2, _⟩⟩
      · exact ⟨by rw [hq], s3⟩
      · exact absurd hk2 hk
    have hq0 : ¬ q = 0 := by rw [← hq]; exact hk
    clear hq hk hF hL hM cG
    go_wp2_with fail
    refine (cM w1 s1).mono ?_
    rintro e w3 ⟨rfl, s3⟩
    go_wp2_with fail
    go_ret
    exact ⟨rfl, s1.trans s3⟩
theorem mergeAny_walk (rs : List (List Mg)) (hx : rs.length ≤ maxLen) (hq : ∀ r ∈ rs, r.length ≤ maxLen ∧ ∀ m ∈ r, m.key.length ≤ maxLen ∧ m.val.length ≤ maxLen) (a : Option Addr) (c : Nat) (hc : a = none → c = 0) (hcl : rs.length ≤ c) (z : Int) (w : World) (h : RunsAt w a rs) :
    Calls Tryz.prog 5 #[.slice a rs.length c, .int .i64 z] w fun e w' => e = .returned (.bool true) ∧ Step noF w w' := mergeAny_on rs hx hq a c hc _ rfl hcl z w h
end Go.Proofs.YtnalillebemglaaGreat
