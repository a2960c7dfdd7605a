/-
  The walk of the law MergeExact.
-/
import Derived.Test.YtnalillebemglaaGreatMgAny
import Derived.Test.YtnalillebemglaaGreatMgRD
namespace Go.Proofs.YtnalillebemglaaGreat
open Go.RowKit Go.Sort
set_option linter.unusedVariables false
set_option linter.unusedSimpArgs false
set_option maxRecDepth 20000

theorem ofK_one (k : List UInt8) (r : List Mg) (t : Nat) (ht : t < r.length) : (ofK k (r.take (t + 1))).length = (ofK k (r.take t)).length + if r[t].key = k then 1 else 0 := by
  rw [List.take_succ_eq_append_getElem ht, ofK_append, List.length_append]
  congr 1
  unfold ofK
  by_cases h : r[t].key = k <;> simp [h]
theorem ofK_run (k : List UInt8) (rs : List (List Mg)) (q : Nat) (hq : q < rs.length) : (ofK k (rs.take (q + 1)).flatten).length = (ofK k (rs.take q).flatten).length + (ofK k rs[q]).length := by
  rw [List.take_succ_eq_append_getElem hq, List.flatten_append, ofK_append, List.length_append]
  simp
theorem ofK_le (k : List UInt8) (ms : List Mg) : (ofK k ms).length ≤ ms.length := List.length_filter_le _ _
theorem own_at {w : World} {b : Nat} {a : Option Addr} {n c : Nat} {xs : List Mg} (h : OwnB w b (.slice a n c) xs) : MsgsAt w noF a xs := by
  obtain ⟨a', c', e, _, _, h⟩ := owns_msgs h
  injection e with e1 e2 e3
  subst e1
  exact h
/-- Next of none. -/
theorem mNext_nil (w : World) : Calls Tryz.prog 15 #[.pointer none] w fun e w' => e = .returned (.tuple #[.agg #[.int .i64 0, .string (str []), .string (str [])], .bool false]) ∧ Step noF w w' := by
  have T0 := trip_new w 37 ⟨0, [], []⟩
  have HS := hid (((Step.refl noF w).alloc (.cells #[.int .i64 0, .string (str []), .string (str [])] 37)))
  obtain ⟨t0, t1, t2, f0, f1, f2⟩ := T0.all
  clear T0
  go_enter Tryz.func15, Tryz.ntmps15
  go_wp2_with fail
  refine (mLeft_nil _).mono ?_
  rintro e w1 ⟨rfl, rfl⟩
  go_wp2_with fail
  refine bodyPost_ret (v := .tuple #[.agg #[.int .i64 0, .string (str []), .string (str [])], .bool false]) (by simp [results, Tryz.results15, go_sem, *]; rfl) rfl ?_
  exact ⟨rfl, HS.out⟩

set_option maxHeartbeats 4000000 in
theorem mergeExact_on (rs : List (List Mg)) (hx : rs.length ≤ maxLen) (hq : ∀ r ∈ rs, r.length ≤ maxLen ∧ ∀ m ∈ r, m.key.length ≤ maxLen ∧ m.val.length ≤ maxLen) (a : Option Addr) (c : Nat) (len : Nat) (hlen : Hid (rs.length = len)) (w : World) (hR : RunsAt w a rs) :
    Calls Tryz.prog 3 #[.slice a len c] w fun e w' => e = .returned (.bool true) ∧ Step noF w w' := by
  have hSs := same_str
  have hn0 := nil_str
  have cG : ∀ w', Step noF w w' → Calls Tryz.prog 8 #[.slice a len c] w' fun e w'' => (e = .returned (.bool true) ∨ (e = .returned (.bool false) ∧ Hid (ModR rs))) ∧ Hid (w' = w'') := fun w' hs => by
    rw [← hlen.out]
    exact greatR_any rs hx hq a c w' (hR.step hs)
  clear hx hq
  go_enter Tryz.func3, Tryz.ntmps3
  go_wp2_with fail
  refine (awakeR_any w).mono ?_
  rintro e w1 ⟨rfl, s1⟩
  go_wp2_with fail
  refine (cG w1 s1).mono ?_
  rintro e w2 ⟨rfl | ⟨rfl, HMM⟩, hw2⟩
  · obtain rfl := hw2.out
    go_wp2_with fail
    go_ret
    exact ⟨rfl, s1⟩
  obtain rfl := hw2.out
  have hM := HMM.out
  obtain ⟨hF, hL⟩ := mod_few hM
  have h10 : len ≤ 10 := by rw [← hlen.out]; exact hM.1
  by_cases hk : chkR rs = 0
  · have hok := chkR_ok hk
    have HFF := hid hF
    have HOK := hid hok
    have HL := hid hL
    have HKK := hid hk
    have cN : ∀ W, Step noF w W → Calls Tryz.prog 9 #[.slice a len c] W fun e w' => ∃ p F, e = .returned (.tuple #[.pointer (some ⟨p, 0, none⟩), .int .i64 0]) ∧ Hid (MerAt w' F w'.heap.size p rs) ∧ Hid (∀ k, F k → W.heap.size ≤ k) ∧ Hid (Step noF W w') := fun W hW => by
      rw [← hlen.out]
      refine (mNew_any rs HFF.out a c W (hR.step hW)).mono ?_
      rintro e w' ⟨s, h⟩
      rcases h with ⟨h, _⟩ | ⟨_, p, F, rfl, hm, hF⟩
      · exact absurd HKK.out h
      · exact ⟨p, F, rfl, hm, hF, s⟩
    have cC : ∀ W, Step noF w W → Calls Tryz.prog 11 #[.slice a len c] W fun e w' => e = .returned (.int .i64 0) ∧ Hid (Step noF W w') := fun W hW => by
      have h := refCheck_any rs HFF.out a c W (hR.step hW)
      rw [hlen.out, HKK.out] at h
      exact h
    have cU : ∀ W, Step noF w W → Calls Tryz.prog 12 #[.slice a len c] W fun e w' => ∃ ua n uc, e = .returned (.slice ua n uc) ∧ Hid (OwnB w' W.heap.size (.slice ua n uc) (msgsR rs)) ∧ Hid (RunOk w' ua n uc (msgsR rs)) ∧ Hid (Step noF W w') := fun W hW => by
      rw [← hlen.out]
      refine (refMsgsR_any rs HOK.out HFF.out.1 (Nat.le_trans HL.out (by omega)) a c W (hR.step hW)).mono ?_
      rintro e w' ⟨⟨v, rfl, ho⟩, s⟩
      obtain ⟨ua, uc, rfl, h1, h2, h3⟩ := owns_msgs ho
      exact ⟨ua, _, uc, rfl, ho, ⟨rfl, h2.1, h1, h3⟩, s⟩
    clear hF hok hL hM cG hk
    go_wp2_with fail
    refine (cN w1 s1).mono ?_
    rintro e w3 ⟨p, F, rfl, HM3, HF3, s3⟩
    have S3 := hid (s1.trans s3.out)
    have S13 := hid s3.out
    have S01 := hid s1
    clear s1 s3 cN
    go_wp2_with fail
    refine (mMsgs_ok rs HFF.out HOK.out a len c hlen w3 (hR.step S3.out)).mono ?_
    rintro e w4 ⟨a1, n1, c1, rfl, H1, s4⟩
    go_wp2_with fail
    refine (cC w4 (S3.out.trans s4.out)).mono ?_
    rintro e w5 ⟨rfl, s5⟩
    have S35 := hid (s4.out.trans s5.out)
    have H15 := hid (H1.out.step s5.out)
    clear s4 s5 H1 cC
    go_wp2_with fail
    refine (cU w5 (S3.out.trans S35.out)).mono ?_
    rintro e w6 ⟨ua, n, uc, rfl, HU, HUR, s6⟩
    have S36 := hid (S35.out.trans s6.out)
    have H16 := hid (H15.out.step s6.out)
    have HB5 := hid S35.out.size
    clear s6 H15 cU S35
    go_wp2_with fail
    refine (sameG_yes (msgsR rs) (Nat.le_trans (msgsR_len rs) (Nat.le_trans HL.out (by omega))) a1 ua n1 n c1 uc w6 H16.out HUR.out).mono ?_
    rintro e w7 ⟨rfl, s7⟩
    have S37 := hid (S36.out.trans s7.out)
    have HU7 := hid (HU.out.step s7.out)
    have HN : Hid ((msgsR rs).length = n) := HUR.out.1.symm
    have hn300 : n ≤ 300 := by have := HN.out; have := msgsR_len rs; have := HL.out; omega
    have HM7 := hid (HM3.out.step S37.out)
    have S17 := hid (S13.out.trans S37.out)
    clear H16 HUR HU s7 S36 S13 S37 HM3
    go_wp2_with fail
    have HT0 : Hid (∀ k, leftR (rs.take k) ≤ 300) := fun k => Nat.le_trans (leftR_takeLe rs k) HL.out
    go_loopg [9, 10] 12 (fun kx l i wr => ∃ (j : Nat), l = .int .i64 (leftR (rs.take j) : Nat) ∧ i = .int .i64 j ∧ j ≤ len ∧ len - j ≤ kx ∧ wr = w7)
    case atStart => exact ⟨0, by simp [leftR], rfl, by omega, by omega, rfl⟩
    case round =>
      obtain ⟨j, rfl, rfl, hj, hkx, rfl⟩ := hrel
      by_cases hjl : j < len
      · have hjl2 : j < rs.length := by rw [hlen.out]; exact hjl
        obtain ⟨b, off, rfl, aj, cj, r0, hcj, hlc, hm⟩ := (hR.step (S01.out.trans S17.out)).at j hjl2
        have hT := leftR_take rs j hjl2
        have h1 := HT0.out j
        have h2 := HT0.out (j + 1)
        obtain ⟨L, hL⟩ : ∃ L, leftR (rs.take j) = L := ⟨_, rfl⟩
        obtain ⟨L2, hL2⟩ : ∃ L, leftR (rs.take (j + 1)) = L := ⟨_, rfl⟩
        obtain ⟨n3, hn3⟩ : ∃ n3, rs[j].length = n3 := ⟨_, rfl⟩
        rw [hn3] at r0 hT
        rw [hL] at hT h1 ⊢
        rw [hL2] at hT h2
        clear hm hcj hlc hn3 hL
        go_wp2_with fail
        go_roundg (len - (j + 1))
        case measure => omega
        case rel => exact ⟨j + 1, by rw [hL2]; exact int_eq (by omega), by simp, by omega, Nat.le_refl _, rfl⟩
      · obtain rfl : len = j := by omega
        have hTT : leftR (rs.take len) = leftR (stR rs 0) := by rw [List.take_of_length_le (by rw [hlen.out]; exact Nat.le_refl _)]; rfl
        have hL0 : leftR (stR rs 0) ≤ 300 := HL.out
        rw [hTT]
        clear hTT HT0
        go_wp2_with fail
        go_loopg [9, 11, 12, 13, 14, 15] 400 (fun kx l i s12 s13 s14 s15 wr => ∃ (j : Nat), l = .int .i64 (leftR (stR rs j) : Nat) ∧ i = .int .i64 j ∧ j ≤ n ∧ n - j ≤ kx ∧ Hid (MerAt wr F w3.heap.size p (stR rs j)) ∧ Hid (OwnB wr w5.heap.size (.slice ua n uc) (msgsR rs)) ∧ Hid (Step noF w1 wr))
        case atStart => exact ⟨0, rfl, rfl, by omega, by omega, HM7.out, HU7.out, S17.out⟩
        case round =>
          obtain ⟨j, rfl, rfl, hjn, hkx, HM, HU, ST⟩ := hrel
          have hLj : leftR (stR rs j) ≤ 300 := Nat.le_trans (st_le rs j) HL.out
          have cL := mLeft_any wr F _ p (stR rs j) HM.out
          have cX := mNextSt_any wr F _ p rs HOK.out (Nat.le_trans HL.out (by omega)) (by rw [hlen.out]; omega) j (by rw [HN.out]; exact hjn) HM.out
          by_cases hjl : j < n
          · have hjz : (j : Int) < (n : Int) := by omega
            have hlt : j < (msgsR rs).length := by rw [HN.out]; exact hjl
            have hT := st_left HOK.out j hlt
            obtain ⟨⟨xk, xy, xv⟩, hx⟩ : ∃ m, xAt rs j = m := ⟨_, rfl⟩
            have HXE : Hid ((msgsR rs)[j] = ⟨xk, xy, xv⟩) := (xAt_lt hlt).symm.trans hx
            rw [hx, decide_eq_true hlt] at cX
            rw [HXE.out] at hT
            simp only at hT
            have HT := hid hT
            obtain ⟨Lj, hLL⟩ : ∃ L, leftR (stR rs j) = L := ⟨_, rfl⟩
            have HLL := hid hLL
            rw [hLL] at cL hLj ⊢
            clear hx hT hLL
            go_wp2_with fail
            refine cL.mono ?_
            rintro e w8 ⟨rfl, rfl⟩
            go_wp2_with fail
            refine cX.mono ?_
            rintro e w9 ⟨rfl, s9, hm9⟩
            have HM9 := hid hm9
            have T9 := hid (step_over ST.out s9 HF3.out)
            have HU9 := hid (HU.out.keepF s9 (fun k hk => Nat.lt_of_lt_of_le (HM.out.low.1 k hk) HB5.out))
            have st9 := (Step.refl noF w9).alloc (.cells #[.int .i64 xk, .string (str xy), .string (str xv)] 37)
            have X9 := hid (trip_new w9 37 ⟨xk, xy, xv⟩)
            obtain ⟨g, o, rfl, c0, c1, c2⟩ := (own_at (HU9.out.step st9)).at j hlt
            rw [HXE.out] at c0 c1 c2
            obtain ⟨v0, v1, v2, _, _, _⟩ := TripAt.all X9.out
            have ST9 := hid st9
            clear st9 s9 hm9 cL cX HU HM ST
            go_wp2_with fail
            go_quiet (fail)
            go_wp2_with fail
            go_loopg [9, 14, 15] 12 (fun kz l k s15 wr3 => ∃ (q : Nat), l = .int .i64 ((Lj : Int) - ((ofK xy (rs.take q).flatten).length : Nat)) ∧ k = .int .i64 q ∧ q ≤ len ∧ len - q ≤ kz ∧ Hid (Step noF w9 wr3) ∧ Hid (TripAt wr3 w9.heap.size 37 ⟨xk, xy, xv⟩))
            case atStart => exact ⟨0, by simp [ofK], rfl, by omega, by omega, ST9.out.trans ((Step.refl noF _).drewN _), X9.out.step ((Step.refl noF _).drewN _)⟩
            case round =>
              obtain ⟨q, rfl, rfl, hql, hkz, S3, X3⟩ := hrel
              have HCQ : Hid ((ofK xy (rs.take q).flatten).length ≤ 300) := Nat.le_trans (ofK_le _ _) (Nat.le_trans (leftR_takeLe rs q) HL.out)
              by_cases hqn : q < len
              · have hq2 : q < rs.length := by rw [hlen.out]; exact hqn
                have hqz : (q : Int) < (len : Int) := by omega
                obtain ⟨b, off, rfl, aq, cq, r0, hcj, hlc, hm⟩ := (hR.step (S01.out.trans (T9.out.trans S3.out))).at q hq2
                have hQ := ofK_run xy rs q hq2
                have hQ2 : (ofK xy (rs.take (q + 1)).flatten).length ≤ 300 := Nat.le_trans (ofK_le _ _) (Nat.le_trans (leftR_takeLe rs (q + 1)) HL.out)
                have hr30 := (HMM.out.2 rs[q] (List.getElem_mem hq2)).1
                obtain ⟨r, hr⟩ : ∃ r, rs[q] = r := ⟨_, rfl⟩
                rw [hr] at r0 hlc hm hQ hr30
                obtain ⟨n3, hn3⟩ : ∃ n3, r.length = n3 := ⟨_, rfl⟩
                have HN3 := hid hn3
                rw [hn3] at r0 hlc hr30
                have HRM := hid hm
                have HR0 := hid r0
                have hcq := HCQ.out
                obtain ⟨cn, hcn⟩ : ∃ cn, (ofK xy (rs.take q).flatten).length = cn := ⟨_, rfl⟩
                rw [hcn] at hcq hQ ⊢
                have HQ := hid hQ
                have HQ2 := hid hQ2
                obtain ⟨C, hC⟩ : ∃ C : Int, (Lj : Int) - (cn : Int) = C := ⟨_, rfl⟩
                have hC1 : -1000 ≤ C ∧ C ≤ 1000 := by omega
                obtain ⟨hC1, hC2⟩ := hC1
                rw [hC]
                have HC := hid hC
                clear hr hn3 hm hcn hQ hQ2 hC hcj hcq HCQ
                go_wp2_with fail
                go_loopg [9, 15] 32 (fun kw l i wr4 => ∃ (t : Nat), l = .int .i64 (C - ((ofK xy (r.take t)).length : Nat)) ∧ i = .int .i64 t ∧ t ≤ n3 ∧ n3 - t ≤ kw ∧ Hid (Step noF wr wr4))
                case atStart => exact ⟨0, by simp [ofK], rfl, by omega, by omega, Step.refl _ _⟩
                case round =>
                  obtain ⟨t, rfl, rfl, htn, hkw, S4⟩ := hrel
                  have r1 := S4.out.after HR0.out
                  by_cases htl : t < n3
                  · have htz : (t : Int) < (n3 : Int) := by omega
                    have ht2 : t < r.length := by rw [HN3.out]; exact htl
                    obtain ⟨g2, o2, rfl, _, d1, _⟩ := (HRM.out.step S4.out (fun _ x => x)).at t ht2
                    obtain ⟨_, v1, _, _, _, _⟩ := TripAt.all (X3.out.step S4.out)
                    have hO := ofK_one xy r t ht2
                    have hO2 : (ofK xy (r.take t)).length ≤ 30 := Nat.le_trans (ofK_le _ _) (by rw [List.length_take]; omega)
                    obtain ⟨cm, hcm⟩ : ∃ cm, (ofK xy (r.take t)).length = cm := ⟨_, rfl⟩
                    rw [hcm] at hO hO2 ⊢
                    obtain ⟨y, hy⟩ : ∃ y, r[t].key = y := ⟨_, rfl⟩
                    rw [hy] at hO d1
                    obtain ⟨D, hD⟩ : ∃ D : Int, C - (cm : Int) = D := ⟨_, rfl⟩
                    have hD1 : -2000 ≤ D ∧ D ≤ 1000 := by omega
                    obtain ⟨hD1, hD2⟩ := hD1
                    rw [hD]
                    clear hy hcm
                    by_cases hyx : y = xy
                    · subst hyx
                      rw [if_pos rfl] at hO
                      have HO := hid hO
                      clear hO
                      go_wp2_with fail
                      go_quiet (fail)
                      go_wp2_with fail
                      go_roundg (n3 - (t + 1))
                      case measure => omega
                      case rel => exact ⟨t + 1, by rw [HO.out]; exact int_eq (by omega), by simp, by omega, Nat.le_refl _, S4.out.trans ((Step.refl noF _).drewN _)⟩
                    · rw [if_neg hyx, Nat.add_zero] at hO
                      have HO := hid hO
                      clear hO
                      go_wp2_with fail
                      go_quiet (fail)
                      go_wp2_with fail
                      go_roundg (n3 - (t + 1))
                      case measure => omega
                      case rel => exact ⟨t + 1, by rw [HO.out]; exact int_eq (by omega), by simp, by omega, Nat.le_refl _, S4.out.trans ((Step.refl noF _).drewN _)⟩
                  · have htz : ¬ (t : Int) < (n3 : Int) := by omega
                    have hE : (ofK xy (r.take t)).length = (ofK xy r).length := by rw [List.take_of_length_le (by rw [HN3.out]; omega)]
                    have S5 := hid (S3.out.trans S4.out)
                    have X5 := hid (X3.out.step S4.out)
                    rw [hE]
                    clear hE
                    go_wp2_with fail
                    go_roundg (len - (q + 1))
                    case measure => omega
                    case rel => exact ⟨q + 1, by have e1 := HQ.out; have e2 := HC.out; exact int_eq (by omega), by simp, by omega, Nat.le_refl _, S5.out, X5.out⟩
              · have hqz : ¬ (q : Int) < (len : Int) := by omega
                have hE : ((Lj : Int) - ((ofK xy (rs.take q).flatten).length : Nat)) = (leftR (stR rs (j + 1)) : Nat) := by
                  have e1 := HT.out
                  have e2 := HLL.out
                  rw [List.take_of_length_le (by rw [hlen.out]; omega)]
                  omega
                rw [hE]
                have HM10 := hid (HM9.out.step S3.out)
                have HU10 := hid (HU9.out.step S3.out)
                have T10 := hid (T9.out.trans S3.out)
                clear hE
                go_wp2_with fail
                go_roundg (n - (j + 1))
                case measure => omega
                case rel => exact ⟨j + 1, rfl, by simp, by omega, Nat.le_refl _, HM10.out, HU10.out, T10.out⟩
          · obtain rfl : n = j := by omega
            have hjz : ¬ (n : Int) < (n : Int) := by omega
            have e1 : xAt rs n = ⟨0, [], []⟩ := by rw [← HN.out]; exact xAt_end rs
            rw [e1, decide_eq_false (by rw [HN.out]; omega)] at cX
            simp only at cX
            have e0 : leftR (stR rs n) = 0 := by rw [← HN.out]; exact st_end HOK.out
            have e2 : leftR (stR rs (n + 1)) = 0 := by
              show leftR (tailsR _ (stR rs n)) = 0
              rw [tails_none _ e0]
              exact e0
            rw [e0]
            clear cL e1
            go_wp2_with fail
            refine cX.mono ?_
            rintro e w9 ⟨rfl, s9, hm9⟩
            have HM9 := hid hm9
            have T9 := hid (step_over ST.out s9 HF3.out)
            have st9 := (Step.refl noF w9).alloc (.cells #[.int .i64 0, .string (str []), .string (str [])] 37)
            have X9 := hid (trip_new w9 37 ⟨0, [], []⟩)
            have ST9 := hid st9
            clear st9 s9 hm9 cX HU HM ST
            go_wp2_with fail
            refine (mNext_nil _).mono ?_
            rintro e w10 ⟨rfl, s10⟩
            have X10 := X9.out.step (s10.alloc (.cells #[.int .i64 0, .string (str []), .string (str [])] 37))
            have S10 := hid (ST9.out.trans (s10.alloc (.cells #[.int .i64 0, .string (str []), .string (str [])] 37)))
            obtain ⟨v0, v1, v2, _, _, _⟩ := TripAt.all X10
            have T10 := hid (T9.out.trans S10.out)
            have cL := mLeft_any _ F _ p (stR rs (n + 1)) (HM9.out.step S10.out)
            rw [e2] at cL
            have S01w := hid (S01.out.trans T10.out)
            clear X10 s10
            go_wp2_with fail
            refine cL.mono ?_
            rintro e w11 ⟨rfl, rfl⟩
            go_wp2_with fail
            refine (mLeft_nil _).mono ?_
            rintro e w12 ⟨rfl, rfl⟩
            go_wp2_with fail
            go_ret
            exact ⟨rfl, S01w.out⟩
  · obtain ⟨q, hq⟩ : ∃ q, chkR rs = q := ⟨_, rfl⟩
    have cN : ∀ W, Step noF w W → Calls Tryz.prog 9 #[.slice a len c] W fun e w' => e = .returned (.tuple #[.pointer none, .int .i64 q]) ∧ Step noF W w' := fun W hW => by
      rw [← hlen.out]
      refine (mNew_any rs hF a c W (hR.step hW)).mono ?_
      rintro e w3 ⟨s3, ⟨_, rfl⟩ | ⟨hk2, _⟩⟩
      · exact ⟨by rw [hq], s3⟩
      · exact absurd hk2 hk
    have cM : ∀ W, Step noF w W → Calls Tryz.prog 10 #[.slice a len c] W fun e w' => e = .returned (.tuple #[.slice none 0 0, .int .i64 q]) ∧ Step noF W w' := fun W hW => by
      rw [← hlen.out]
      refine (mMsgs_any rs hF a c W (hR.step hW)).mono ?_
      rintro e w3 ⟨s3, ⟨_, rfl⟩ | ⟨hk2, _⟩⟩
      · exact ⟨by rw [hq], s3⟩
      · exact absurd hk2 hk
    have cC : ∀ W, Step noF w W → Calls Tryz.prog 11 #[.slice a len c] W fun e w' => e = .returned (.int .i64 q) ∧ Step noF W w' := fun W hW => by
      have h := refCheck_any rs hF a c W (hR.step hW)
      rw [hlen.out, hq] at h
      exact h
    have hq0 : ¬ q = 0 := by rw [← hq]; exact hk
    clear hq hk hF hL hM cG
    go_wp2_with fail
    refine (cN w1 s1).mono ?_
    rintro e w3 ⟨rfl, s3⟩
    go_wp2_with fail
    refine (cM w3 (s1.trans s3)).mono ?_
    rintro e w4 ⟨rfl, s4⟩
    go_wp2_with fail
    refine (cC w4 ((s1.trans s3).trans s4)).mono ?_
    rintro e w5 ⟨rfl, s5⟩
    go_wp2_with fail
    go_ret
    exact ⟨rfl, ((s1.trans s3).trans s4).trans s5⟩
end Go.Proofs.YtnalillebemglaaGreat
