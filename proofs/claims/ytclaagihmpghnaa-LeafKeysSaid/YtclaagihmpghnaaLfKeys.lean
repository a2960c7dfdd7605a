/-
  The law LeafKeys: a message changes its own key alone.
-/
import Derived.Test.YtclaagihmpghnaaLfLight
import Derived.Test.YtclaagihmpghnaaLfHeavy
import Derived.Test.YtclaagihmpghnaaLfKeysM
namespace Go.Proofs.Ytclaagihmpghnaa
open Go.RowKit Go.Sort
set_option linter.unusedVariables false
set_option linter.unusedSimpArgs false
set_option maxRecDepth 20000

set_option maxHeartbeats 4000000 in
theorem leafKeys_any (xs : List Rg) (hx : xs.length ≤ maxLen) (hq : ∀ x ∈ xs, x.lo.length ≤ maxLen ∧ x.hi.length ≤ maxLen) (ms : List Mg) (hm : ms.length ≤ maxLen) (hmq : ∀ m ∈ ms, m.key.length ≤ maxLen ∧ m.val.length ≤ maxLen) (k : List UInt8)
    (a : Option Addr) (c : Nat) (hc : a = none → c = 0) (b : Option Addr) (d : Nat) (hd : b = none → d = 0) (w : World) (h : RgsAt w a xs) (hr : MsgsAt w noF b ms) :
    Calls Try.prog 6 #[.slice a xs.length c, .slice b ms.length d, .string (str k)] w fun e w' => e = .returned (.bool true) ∧ Step noF w w' := by
  have hE := same_str
  have HR := hid h
  have HC := hid hc
  have HX := hid hx
  have HQ := hid hq
  have HMR := hid hr
  have HD := hid hd
  have HM := hid hm
  have HMQ := hid hmq
  clear h hc hx hq hr hd hm hmq
  go_enter Try.func6, Try.ntmps6
  go_wp2_with fail
  refine (awake_any w).mono ?_
  rintro e w1 ⟨rfl, s1⟩
  have S1 := hid s1
  clear s1
  go_wp2_with fail
  refine (great_any xs HX.out HQ.out a c w1 (HR.out.step S1.out)).mono ?_
  rintro e w1' ⟨hg, rfl⟩
  rcases hg with rfl | ⟨rfl, h60, h512⟩
  · go_wp2_with fail
    go_ret
    exact ⟨rfl, S1.out⟩
  · clear h512
    go_wp2_with fail
    refine (heavy_any ms HM.out HMQ.out b d w1 (HMR.out.step S1.out (fun _ h => h))).mono ?_
    rintro e w1' ⟨hg, rfl⟩
    rcases hg with rfl | ⟨rfl, h40, hm512⟩
    · go_wp2_with fail
      go_ret
      exact ⟨rfl, S1.out⟩
    · have H512 := hid hm512
      clear hm512
      go_wp2_with fail
      refine (leafOf_any xs (by omega) a c w1 (HR.out.step S1.out) HC.out).mono ?_
      rintro e w2 ⟨s2, hof⟩
      have S2 := hid (S1.out.trans s2)
      clear s2
      rcases hof with ⟨hne, rfl⟩ | ⟨h0, p, rfl, _, l2⟩
      · have hnz : (ofE xs == 0) = false := by rw [beq_eq_false_iff_ne]; exact hne
        go_wp2_with fail
        go_ret
        exact ⟨rfl, S2.out⟩
      · obtain ⟨hR, hok, hlen⟩ := ofE_zero h0
        obtain ⟨S, hS⟩ : ∃ S, sortL xs = S := ⟨_, rfl⟩
        rw [hS] at hR hok hlen l2
        have HRI := hid hR
        have HOK := hid hok
        have L2 := hid l2
        have hS60 : S.length ≤ 60 := by omega
        clear hR hok l2 hS h0 hlen
        have cW := fun ms' (h1 : ∀ m ∈ ms', m ∈ ms) (h2 : ms'.length ≤ 80) => with_any p S HRI.out HOK.out (by omega) ms' (fun m hm => (HMQ.out m (h1 m hm)).2) (by omega)
        have CW := hid cW
        clear cW
        go_wp2_with fail
        refine (CW.out ms (fun _ h => h) (by omega) b d HD.out w2 L2.out (HMR.out.step S2.out (fun _ h => h))).mono ?_
        rintro e w3 ⟨hw, s3⟩
        have S23 := hid s3
        have S3 := hid (S2.out.trans s3)
        clear s3
        rcases hw with ⟨_, rfl⟩ | ⟨hall, q, rfl, _, l3⟩
        · go_wp2_with fail
          go_ret
          exact ⟨rfl, S3.out⟩
        · have HIS : Hid (∀ m ∈ ms, m.is = true) := List.all_eq_true.1 hall
          have L3 := hid l3
          clear l3 hall
          have HWR := hid (withL_rising ms S HRI.out)
          have hwl := withL_len ms S
          have hwl2 : (withL ms S).length ≤ 100 := by omega
          clear hwl
          have cF : Calls Try.prog 22 #[.pointer (some ⟨p, 0, none⟩), .string (str k)] w3 fun e w' => e = .returned (.tuple #[.string (str (valL k [] S)), .bool (isL k [] S)]) ∧ Step noF w3 w' := find_any p S (by omega) HRI.out k w3 (L2.out.step S23.out)
          go_wp2_with fail
          refine cF.mono ?_
          rintro e w4 ⟨rfl, s4⟩
          have S4 := hid (S3.out.trans s4)
          have S24 := hid (S23.out.trans s4)
          have S34 := hid s4
          clear s4 cF
          go_wp2_with fail
          have S6 : Hid (Step noF w4 ((w4.alloc (.cells #[] 58)).alloc (.cells #[] 58))) := ((Step.refl noF w4).alloc _).alloc _
          have T6 : Hid (TwoMs ((w4.alloc (.cells #[] 58)).alloc (.cells #[] 58)) w4.heap.size (.slice (some ⟨w4.heap.size, 0, none⟩) 0 0) (.slice (some ⟨w4.heap.size + 1, 0, none⟩) 0 0) [] []) := by
            have h1 := (OwnMs.empty w4 w4 (Step.refl _ _)).step ((Step.refl noF (w4.alloc (.cells #[] 58))).alloc (.cells #[] 58))
            have h2 := OwnMs.empty (w4.alloc (.cells #[] 58)) w4 ((Step.refl noF w4).alloc _)
            rw [World.size_alloc] at h2
            exact ⟨h1, h2, fun k h1 h2 => by simp [Value.ownBlock] at h1 h2; omega⟩
          go_loopw [11, 12, 13, 14, 15] (fun u v x y i wr => ∃ (j : Nat), j ≤ ms.length ∧ i = .int .i64 j ∧ u = .string (str (valL k (ms.take j) S)) ∧ v = .bool (isL k (ms.take j) S) ∧ Hid (TwoMs wr w4.heap.size x y (mineL k (ms.take j)) (otherL k (ms.take j))) ∧ Hid (Step noF w4 wr)) (fun _ _ _ _ i _ => ms.length - (intOf i).toNat)
          case atStart => exact ⟨0, Nat.zero_le _, rfl, rfl, rfl, T6, S6⟩
          case round =>
            obtain ⟨j, hj, rfl, rfl, rfl, TW, SW⟩ := hrel
            by_cases hjl : j < ms.length
            · have hjz : (j : Int) < (ms.length : Int) := by omega
              obtain ⟨g, off, rfl, c0, c1, c2⟩ := (HMR.out.step (S4.out.trans SW.out) (fun _ h => h)).at j hjl
              have HMI := hid (HIS.out ms[j] (List.getElem_mem hjl))
              have hvl := valL_len k (ms.take j) (fun m hm => HIS.out m (List.mem_of_mem_take hm)) S HOK.out
              have hml := mine_len k (ms.take j)
              rw [List.length_take] at hml
              have HML : Hid ((mineL k (ms.take j)).length + 1 ≤ 1000000000 ∧ (otherL k (ms.take j)).length + 1 ≤ 1000000000) := ⟨by omega, by omega⟩
              clear hml
              by_cases hk : ms[j].key = k
              · have HF := hid (find_take_mine k ms S j hjl hk HMI.out)
                have HT := hid (mine_take k ms j hjl hk)
                have cA := fun w' => apply_any ms[j] (Mg.val_max HMI.out) (valL k (ms.take j) S) (le_max (by omega)) (isL k (ms.take j) S) w'
                unfold Mg.appR at cA
                rw [← HF.out.1, ← HF.out.2] at cA
                obtain ⟨u', hu'⟩ : ∃ u', valL k (ms.take (j + 1)) S = u' := ⟨_, rfl⟩
                obtain ⟨v', hv'⟩ : ∃ v', isL k (ms.take (j + 1)) S = v' := ⟨_, rfl⟩
                rw [hu', hv'] at cA
                have HU := hid hu'
                have HV := hid hv'
                obtain ⟨⟨mk, my, mv⟩, hme⟩ : ∃ m, ms[j] = m := ⟨_, rfl⟩
                rw [hme] at c0 c1 c2 HT hk cA
                clear hme HMI HF hvl hu' hv'
                simp only at c0 c1 c2 hk
                subst hk
                go_wp2_with fail
                refine (cA _).mono ?_
                rintro e w5 ⟨rfl, s5⟩
                have S5 := hid s5
                have c0' := s5.after c0
                have c1' := s5.after c1
                have c2' := s5.after c2
                clear s5 c0 c1 c2
                have HZ : Hid (MsgsAt (w5.alloc (.cells #[.int .i64 mk, .string (str my), .string (str mv)] 58)) noF (some ⟨w5.heap.size, 0, none⟩) [⟨mk, my, mv⟩]) := ms_new w5 mk my mv
                have SZ : Hid (Step noF w4 (w5.alloc (.cells #[.int .i64 mk, .string (str my), .string (str mv)] 58))) := (SW.out.trans S5.out).alloc _
                have TZ : Hid (TwoMs (w5.alloc (.cells #[.int .i64 mk, .string (str my), .string (str mv)] 58)) w4.heap.size u13 u14 (mineL my (ms.take j)) (otherL my (ms.take j))) := (TW.out.step S5.out).step ((Step.refl noF w5).alloc _)
                go_wp2_with (at_builtin; refine wpList_append_ms rfl _ _ rfl _ (mineL my (ms.take j)) rfl TZ.out.1.1 (some ⟨w5.heap.size, 0, none⟩) 1 [⟨mk, my, mv⟩] rfl HZ.out (by intro h; cases h) HML.out.1 ?_)
                intro v3 w6 o6 g6 f6
                have T6 : Hid (TwoMs w6 w4.heap.size v3 u14 (mineL my (ms.take j) ++ [⟨mk, my, mv⟩]) (otherL my (ms.take j))) := TZ.out.grown SZ.out.size (OwnMs.of (base := 0) o6 (by simp)) g6 f6
                have S6 : Hid (Step noF w4 w6) := OwnMs.after SZ.out TZ.out.1 (Nat.le_refl _) g6
                clear o6 g6 f6
                go_wp2_with fail
                go_roundw
                case rel => exact ⟨j + 1, by omega, int_eq (by omega), by rw [HU.out], by rw [HV.out], (by show TwoMs _ _ _ _ _ _; rw [HT.out.1, HT.out.2]; exact T6.out), S6⟩
                case measure => simp [intOf]; omega
              · have HF := hid (find_take_other k ms S j hjl hk)
                have HT := hid (other_take k ms j hjl hk)
                obtain ⟨⟨mk, my, mv⟩, hme⟩ : ∃ m, ms[j] = m := ⟨_, rfl⟩
                rw [hme] at c0 c1 c2 HT hk
                clear hme HMI hvl
                simp only at c0 c1 c2 hk
                have hkd : decide (my = k) = false := decide_eq_false hk
                have HZ : Hid (MsgsAt (wr.alloc (.cells #[.int .i64 mk, .string (str my), .string (str mv)] 58)) noF (some ⟨wr.heap.size, 0, none⟩) [⟨mk, my, mv⟩]) := ms_new wr mk my mv
                have SZ : Hid (Step noF w4 (wr.alloc (.cells #[.int .i64 mk, .string (str my), .string (str mv)] 58))) := SW.out.alloc _
                have TZ : Hid (TwoMs (wr.alloc (.cells #[.int .i64 mk, .string (str my), .string (str mv)] 58)) w4.heap.size u13 u14 (mineL k (ms.take j)) (otherL k (ms.take j))) := TW.out.step ((Step.refl noF wr).alloc _)
                go_wp2_with (at_builtin; refine wpList_append_ms rfl _ _ rfl _ (otherL k (ms.take j)) rfl TZ.out.2.1.1 (some ⟨wr.heap.size, 0, none⟩) 1 [⟨mk, my, mv⟩] rfl HZ.out (by intro h; cases h) HML.out.2 ?_)
                intro v3 w6 o6 g6 f6
                have T6 : Hid (TwoMs w6 w4.heap.size u13 v3 (mineL k (ms.take j)) (otherL k (ms.take j) ++ [⟨mk, my, mv⟩])) := (TZ.out.symm.grown SZ.out.size (OwnMs.of (base := 0) o6 (by simp)) g6 f6).symm
                have S6 : Hid (Step noF w4 w6) := OwnMs.after SZ.out TZ.out.2.1 (Nat.le_refl _) g6
                clear o6 g6 f6
                go_wp2_with fail
                go_roundw
                case rel => exact ⟨j + 1, by omega, int_eq (by omega), by rw [HF.out.1], by rw [HF.out.2], (by show TwoMs _ _ _ _ _ _; rw [HT.out.1, HT.out.2]; exact T6.out), S6⟩
                case measure => simp [intOf]; omega
            · obtain rfl : j = ms.length := by omega
              rw [List.take_of_length_le (Nat.le_refl _)] at TW ⊢
              have hml := mine_len k ms
              have cF2 : ∀ w', LeafAt w' q (withL ms S) → Calls Try.prog 22 #[.pointer (some ⟨q, 0, none⟩), .string (str k)] w' fun e w'' => e = .returned (.tuple #[.string (str (valL k ms S)), .bool (isL k ms S)]) ∧ Step noF w' w'' := fun w' h => find_any q (withL ms S) (by omega) HWR.out k w' h
              obtain ⟨hm1, hm2⟩ := with_mine k ms S HRI.out
              have HM1 : Hid (withL (mineL k ms ++ otherL k ms) S = withL ms S) := hm1
              have HM2 : Hid (withL (otherL k ms ++ mineL k ms) S = withL ms S) := hm2
              have HMEM : Hid ((∀ m ∈ mineL k ms ++ otherL k ms, m ∈ ms) ∧ ∀ m ∈ otherL k ms ++ mineL k ms, m ∈ ms) := by
                have h1 : ∀ m ∈ mineL k ms, m ∈ ms := fun m hm => (List.mem_filter.1 hm).1
                have h2 : ∀ m ∈ otherL k ms, m ∈ ms := fun m hm => (List.mem_filter.1 hm).1
                exact ⟨fun m hm => (List.mem_append.1 hm).elim (h1 m) (h2 m), fun m hm => (List.mem_append.1 hm).elim (h2 m) (h1 m)⟩
              obtain ⟨u, hu⟩ : ∃ u, valL k ms S = u := ⟨_, rfl⟩
              obtain ⟨v, hv⟩ : ∃ v, isL k ms S = v := ⟨_, rfl⟩
              rw [hu, hv] at cF2
              rw [hu, hv]
              obtain ⟨X, hX⟩ : ∃ X, mineL k ms = X := ⟨_, rfl⟩
              obtain ⟨Y, hY⟩ : ∃ Y, otherL k ms = Y := ⟨_, rfl⟩
              rw [hX, hY] at TW HM1 HM2 HMEM hml
              clear hm1 hm2 hu hv hX hY
              have HXY : Hid (X.length ≤ 40 ∧ Y.length ≤ 40) := ⟨by omega, by omega⟩
              have HWS := hid (S34.out.trans SW.out)
              have HL3 := hid (L3.out.step HWS.out)
              have HL2 := hid (L2.out.step (S24.out.trans SW.out))
              obtain ⟨am, cm, hvm, hnm, rm⟩ := TW.out.1.row
              obtain ⟨ao, co, hvo, hno, ro⟩ := TW.out.2.1.row
              have HRM := hid rm
              have HRO := hid ro
              have HNM := hid hnm
              have HNO := hid hno
              obtain ⟨lx, hlx⟩ : ∃ lx, X.length = lx := ⟨_, rfl⟩
              obtain ⟨ly, hly⟩ : ∃ ly, Y.length = ly := ⟨_, rfl⟩
              have HLX := hid hlx
              have HLY := hid hly
              rw [hlx] at hvm
              rw [hly] at hvo
              subst hvm hvo
              have hxy2 : lx ≤ 40 ∧ ly ≤ 40 := by have := HXY.out; omega
              obtain ⟨hx40, hy40⟩ := hxy2
              clear hml rm ro hnm hno hlx hly
              go_wp2_with fail
              refine (cF2 _ HL3.out).mono ?_
              rintro e w6 ⟨rfl, s6⟩
              have S6 := hid s6
              clear s6
              have E7 : Hid (OwnMs (w6.alloc (.cells #[] 58)) w6.heap.size (.slice (some ⟨w6.heap.size, 0, none⟩) 0 0) []) := OwnMs.empty w6 w6 (Step.refl _ _)
              have A7 : Hid (Step noF w6 (w6.alloc (.cells #[] 58))) := (Step.refl noF w6).alloc _
              have RX7 := hid (HRM.out.step (S6.out.trans A7.out) (fun _ h => h))
              have LX7 : Hid (([] : List Mg).length + X.length ≤ 1000000000) := by show _ ≤ _; have := HXY.out; simp; omega
              go_wp2_with (at_builtin; refine wpList_append_ms rfl _ _ rfl _ [] rfl E7.out.1 am cm X (by rw [HLX.out]; rfl) RX7.out HNM.out LX7.out ?_)
              intro va7 wa7 oa7 ga7 fa7
              have OA7 : Hid (OwnMs wa7 w6.heap.size va7 X) := E7.out.grown A7.out.size (OwnMs.of (base := 0) oa7 (by simp)) fa7
              have SA7 : Hid (Step noF w6 wa7) := OwnMs.after A7.out E7.out (Nat.le_refl _) ga7
              have RY7 := hid (HRO.out.step (S6.out.trans SA7.out) (fun _ h => h))
              have LY7 : Hid (X.length + Y.length ≤ 1000000000) := by show _ ≤ _; have := HXY.out; omega
              clear oa7 ga7 fa7
              go_wp2_with (at_builtin; refine wpList_append_ms rfl _ _ rfl va7 X rfl OA7.out.1 ao co Y (by rw [HLY.out]; rfl) RY7.out HNO.out LY7.out ?_)
              intro vb7 wb7 ob7 gb7 fb7
              have OB7 : Hid (OwnMs wb7 w6.heap.size vb7 (X ++ Y)) := OA7.out.grown SA7.out.size (OwnMs.of (base := 0) ob7 (by simp)) fb7
              have SB7 : Hid (Step noF w6 wb7) := OwnMs.after SA7.out OA7.out (Nat.le_refl _) gb7
              have T7 := hid (S6.out.trans SB7.out)
              obtain ⟨ab7, cb7, hv7, hn7, rb7⟩ := OB7.out.row
              have cW7 := CW.out (X ++ Y) HMEM.out.1 (by have := HXY.out; rw [List.length_append]; omega) ab7 cb7 hn7 wb7 (HL2.out.step T7.out) rb7
              obtain ⟨L7, hL7⟩ : ∃ L, (X ++ Y).length = L := ⟨_, rfl⟩
              rw [hL7] at hv7 cW7
              subst hv7
              clear ob7 gb7 fb7 hL7 hn7 rb7
              go_wp2_with fail
              refine cW7.mono ?_
              rintro e wc7 ⟨hw7, s7⟩
              have U7 := hid (T7.out.trans s7)
              clear s7 cW7
              rcases hw7 with ⟨hf, _⟩ | ⟨_, r7, rfl, _, l7⟩
              · exact absurd (List.all_eq_true.2 (fun m hm => HIS.out m (HMEM.out.1 m hm))) (by rw [hf]; simp)
              rw [HM1.out] at l7
              have LR7 := hid l7
              clear l7
              have E8 : Hid (OwnMs (wc7.alloc (.cells #[] 58)) wc7.heap.size (.slice (some ⟨wc7.heap.size, 0, none⟩) 0 0) []) := OwnMs.empty wc7 wc7 (Step.refl _ _)
              have A8 : Hid (Step noF wc7 (wc7.alloc (.cells #[] 58))) := (Step.refl noF wc7).alloc _
              have RX8 := hid (HRO.out.step (U7.out.trans A8.out) (fun _ h => h))
              have LX8 : Hid (([] : List Mg).length + Y.length ≤ 1000000000) := by show _ ≤ _; have := HXY.out; simp; omega
              go_wp2_with (at_builtin; refine wpList_append_ms rfl _ _ rfl _ [] rfl E8.out.1 ao co Y (by rw [HLY.out]; rfl) RX8.out HNO.out LX8.out ?_)
              intro va8 wa8 oa8 ga8 fa8
              have OA8 : Hid (OwnMs wa8 wc7.heap.size va8 Y) := E8.out.grown A8.out.size (OwnMs.of (base := 0) oa8 (by simp)) fa8
              have SA8 : Hid (Step noF wc7 wa8) := OwnMs.after A8.out E8.out (Nat.le_refl _) ga8
              have RY8 := hid (HRM.out.step (U7.out.trans SA8.out) (fun _ h => h))
              have LY8 : Hid (Y.length + X.length ≤ 1000000000) := by show _ ≤ _; have := HXY.out; omega
              clear oa8 ga8 fa8
              go_wp2_with (at_builtin; refine wpList_append_ms rfl _ _ rfl va8 Y rfl OA8.out.1 am cm X (by rw [HLX.out]; rfl) RY8.out HNM.out LY8.out ?_)
              intro vb8 wb8 ob8 gb8 fb8
              have OB8 : Hid (OwnMs wb8 wc7.heap.size vb8 (Y ++ X)) := OA8.out.grown SA8.out.size (OwnMs.of (base := 0) ob8 (by simp)) fb8
              have SB8 : Hid (Step noF wc7 wb8) := OwnMs.after SA8.out OA8.out (Nat.le_refl _) gb8
              have T8 := hid (U7.out.trans SB8.out)
              obtain ⟨ab8, cb8, hv8, hn8, rb8⟩ := OB8.out.row
              have cW8 := CW.out (Y ++ X) HMEM.out.2 (by have := HXY.out; rw [List.length_append]; omega) ab8 cb8 hn8 wb8 (HL2.out.step T8.out) rb8
              obtain ⟨L8, hL8⟩ : ∃ L, (Y ++ X).length = L := ⟨_, rfl⟩
              rw [hL8] at hv8 cW8
              subst hv8
              clear ob8 gb8 fb8 hL8 hn8 rb8
              go_wp2_with fail
              refine cW8.mono ?_
              rintro e wc8 ⟨hw8, s8⟩
              have SX8 : Hid (Step noF wc7 wc8) := SB8.out.trans s8
              have U8 := hid (T8.out.trans s8)
              clear s8 cW8
              rcases hw8 with ⟨hf, _⟩ | ⟨_, r8, rfl, _, l8⟩
              · exact absurd (List.all_eq_true.2 (fun m hm => HIS.out m (HMEM.out.2 m hm))) (by rw [hf]; simp)
              rw [HM2.out] at l8
              have LR8 := hid l8
              clear l8
              have LR9 := hid (LR7.out.step SX8.out)
              have HL9 := hid (HL3.out.step U8.out)
              obtain ⟨Z, hZ⟩ : ∃ Z, withL ms S = Z := ⟨_, rfl⟩
              rw [hZ] at LR9 HL9 LR8 hwl2
              clear hZ
              have hwl3 : Z.length ≤ 1000000 := by omega
              go_wp2_with fail
              refine (same_any r7 q Z Z ⟨hwl3, hwl3⟩ wc8 LR9.out HL9.out).mono ?_
              rintro e wd ⟨rfl, sd⟩
              rw [(sameB_iff Z Z).2 rfl]
              have SD := hid sd
              clear sd
              go_wp2_with fail
              refine (same_any r8 q Z Z ⟨hwl3, hwl3⟩ wd (LR8.out.step SD.out) (HL9.out.step SD.out)).mono ?_
              rintro e we ⟨rfl, se⟩
              rw [(sameB_iff Z Z).2 rfl]
              go_wp2_with fail
              go_ret
              exact ⟨rfl, S4.out.trans (SW.out.trans (U8.out.trans (SD.out.trans se)))⟩
end Go.Proofs.Ytclaagihmpghnaa
