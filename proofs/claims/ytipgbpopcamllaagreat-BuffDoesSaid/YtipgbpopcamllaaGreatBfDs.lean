/-
  The law BuffDoes: what a buffer does to a key is what all that was put into it does.
-/
import Derived.Test.YtipgbpopcamllaaGreatBfAw
import Derived.Test.YtipgbpopcamllaaGreatLfK
import Derived.Test.YtipgbpopcamllaaGreatLfG
import Derived.Test.YtipgbpopcamllaaGreatMsgA
namespace Go.Proofs.YtipgbpopcamllaaGreat
open Go.RowKit Go.Sort
set_option linter.unusedVariables false
set_option linter.unusedSimpArgs false
set_option maxRecDepth 20000

theorem ofE_zeroB {xs : List Rg} (h : ofE xs = 0) : Rising (sortL xs) ∧ (∀ x ∈ sortL xs, itOk x = true) ∧ (sortL xs).length = xs.length := by
  unfold ofE at h
  split at h
  · rename_i h1
    split at h
    · rename_i h2
      exact ⟨sortL_rising xs h2, fun x hx => List.all_eq_true.1 h1 x ((sortL_mem xs x).1 hx), sortL_length xs⟩
    · cases h
  · cases h
theorem appAll_step (k : List UInt8) (ms : List Mg) (j : Nat) (hj : j < ms.length) (o : Option (List UInt8)) : appAll k (ms.take (j + 1)) o = if ms[j].key = k then ms[j].appO (appAll k (ms.take j) o) else appAll k (ms.take j) o := by
  unfold appAll
  rw [List.take_succ_eq_append_getElem hj, List.filter_append, List.foldl_append]
  by_cases h : ms[j].key = k
  · rw [if_pos h]
    simp [List.filter_cons, h]
  · rw [if_neg h]
    simp [List.filter_cons, h]
theorem appR_opt {m : Mg} (hm : m.is = true) {o : Option (List UInt8)} : m.appR (o.getD []) o.isSome = .tuple #[.string (str ((m.appO o).getD [])), .bool (m.appO o).isSome] := by
  unfold Mg.appR Mg.appO
  by_cases h : m.appH o.isSome = true
  · rw [if_pos h, h]
    rfl
  · have h2 : m.appH o.isSome = false := by simpa using h
    rw [if_neg h, h2]
    have h3 : m.kind = 2 := by simpa [Mg.appH, hm] using h2
    have h4 : m.appV (o.getD []) o.isSome = [] := by simp [Mg.appV, hm, h3]
    rw [h4]
    rfl
theorem appO_len {m : Mg} (hm : m.is = true) (o : Option (List UInt8)) (h : (o.getD []).length ≤ maxLen) : ((m.appO o).getD []).length ≤ maxLen := by
  have hv := Mg.val_max hm
  unfold Mg.appO
  split
  · simp only [Option.getD_some]
    unfold Mg.appV
    rw [if_pos hm]
    split
    · simp
    · split
      · unfold moreL
        split
        · rw [sumL_length]; unfold maxLen; omega
        · exact h
      · exact hv
  · simp

set_option maxHeartbeats 8000000 in
theorem buffDoes_t (ms : List Mg) (hx : ms.length ≤ maxLen) (hq : ∀ m ∈ ms, m.key.length ≤ maxLen ∧ m.val.length ≤ maxLen) (a : Option Addr) (c : Nat) (hc : a = none → c = 0) (xs : List Rg) (hxx : xs.length ≤ maxLen) (b : Option Addr) (d : Nat) (hd : b = none → d = 0) (k val : List UInt8) (hv : val.length ≤ maxLen) (w : World) (h : MsgsAt w noF a ms) (hr : RgsAt w b xs) :
    Calls Tryz.prog 4 #[.slice a ms.length c, .slice b xs.length d, .string (str k), .string (str val), .bool true] w fun e w' => e = .returned (.bool true) ∧ Step noF w w' := by
  have hE := same_str
  have h0 := nil_str
  have HX := hid hx
  have HQ := hid hq
  have HC := hid hc
  have HD := hid hd
  have HV := hid hv
  have HMR := hid h
  have HIR := hid hr
  have hxx2 : xs.length ≤ 9223372036854775807 := by unfold maxLen at hxx; omega
  clear hx hq hc hd hv h hr hxx
  go_enter Tryz.func4, Tryz.ntmps4
  go_wp2_with fail
  refine (awakeB_any _).mono ?_
  rintro e w1 ⟨rfl, s1⟩
  have S1 := hid s1
  clear s1
  go_wp2_with fail
  refine (heavyB_any ms HX.out HQ.out a c w1 (HMR.out.stepB S1.out)).mono ?_
  rintro e w1' ⟨hg, rfl⟩
  rcases hg with rfl | ⟨rfl, hl0, _⟩
  · go_wp2_with fail
    go_ret
    exact ⟨rfl, S1.out⟩
  by_cases hl1 : 30 < xs.length
  · have hl1z : (30 : Int) < (xs.length : Int) := by omega
    go_wp2_with fail
    go_ret
    exact ⟨rfl, S1.out⟩
  have hl1z : ¬ (30 : Int) < (xs.length : Int) := by omega
  go_wp2_with fail
  refine (ofB_any ms (fun m hm => (HQ.out m hm).2) (by omega) a c HC.out w1 (HMR.out.stepB S1.out)).mono ?_
  rintro e w2 ⟨ho, s2⟩
  have S3 := hid (S1.out.trans s2)
  clear s2
  rcases ho with ⟨hall, rfl⟩ | ⟨hall, p, rfl, hb2⟩
  · clear hall
    go_wp2_with fail
    go_ret
    exact ⟨rfl, S3.out⟩
  have HG0 : Hid (GoodM ms) := List.all_eq_true.1 hall
  have hgr := putsM_all ms HG0.out [] (fun _ h => by simp at h) List.Pairwise.nil
  have hUl := putsM_len ms []
  have HAP := hid (fun o => appAll_puts k ms HG0.out o)
  have HWL := hid (fun zs (hz : Rising zs) => withL_puts ms HG0.out zs hz)
  obtain ⟨U, hU⟩ : ∃ U, putsM ms [] = U := ⟨_, rfl⟩
  rw [hU] at hgr hb2 hUl HAP HWL
  have HGU := hid hgr.1
  have HRU := hid hgr.2
  have hUl2 : U.length ≤ 40 := by simp at hUl; omega
  have B2 := hid hb2
  clear hall hgr hb2 hUl hU
  go_wp2_with fail
  go_loopw [13, 14, 15] (fun v z i wr => ∃ (j : Nat) (o : Option (List UInt8)), j ≤ ms.length ∧ i = .int .i64 j ∧ v = .string (str (o.getD [])) ∧ z = .bool o.isSome ∧ Hid (o = appAll k (ms.take j) (some val)) ∧ Hid ((o.getD []).length ≤ maxLen) ∧ Hid (Step noF w2 wr)) (fun _ _ i _ => ms.length - (intOf i).toNat)
  case atStart => exact ⟨0, some val, Nat.zero_le _, rfl, rfl, rfl, (by show _ = _; rfl), (by first | exact HV.out | (show ([] : List UInt8).length ≤ maxLen; simp)), Step.refl _ _⟩
  case round =>
    obtain ⟨j, o, hj, rfl, rfl, rfl, HI, HLn, HS⟩ := hrel
    by_cases hjl : j < ms.length
    · have hjz : (j : Int) < (ms.length : Int) := by omega
      obtain ⟨g, off, rfl, y0, y1, y2⟩ := (HMR.out.stepB (S3.out.trans HS.out)).at j hjl
      have HF := hid (appAll_step k ms j hjl (some val))
      have hmi := HG0.out ms[j] (List.getElem_mem hjl)
      have cA := apply_any ms[j] (Mg.val_max hmi) (o.getD []) HLn.out o.isSome
      rw [appR_opt hmi] at cA
      have HAL := hid (appO_len hmi o HLn.out)
      have ev : ms[j].value = .agg #[.int .i64 ms[j].kind, .string (str ms[j].key), .string (str ms[j].val)] := rfl
      rw [ev] at cA
      obtain ⟨⟨xk, xy, xv⟩, hxm⟩ : ∃ m, ms[j] = m := ⟨_, rfl⟩
      rw [hxm] at y0 y1 y2 HF cA HAL
      simp only at y0 y1 y2 HF cA
      clear hxm hmi ev
      by_cases hkk : xy = k
      · have HF2 : Hid (appAll k (ms.take (j + 1)) (some val) = (Mg.mk xk xy xv).appO o) := by show _ = _; rw [HF.out, if_pos hkk, ← HI.out]
        have hkd : decide (xy = k) = true := decide_eq_true hkk
        obtain ⟨o2, ho2⟩ : ∃ o2, (Mg.mk xk xy xv).appO o = o2 := ⟨_, rfl⟩
        rw [ho2] at cA HF2 HAL
        clear HF ho2
        subst hkk
        go_wp2_with fail
        refine (cA _).mono ?_
        rintro e w3 ⟨rfl, s3⟩
        have V3 := hid (HS.out.trans s3)
        clear s3 cA
        go_wp2_with fail
        go_roundw
        case rel => exact ⟨j + 1, o2, by omega, int_eq (by omega), rfl, rfl, (by show _ = _; rw [HF2.out]), HAL.out, V3.out⟩
        case measure => simp [intOf]; omega
      · have HF2 : Hid (appAll k (ms.take (j + 1)) (some val) = o) := by show _ = _; rw [HF.out, if_neg hkk, ← HI.out]
        have hkd : decide (xy = k) = false := decide_eq_false hkk
        clear HF cA
        go_wp2_with fail
        go_roundw
        case rel => exact ⟨j + 1, o, by omega, int_eq (by omega), rfl, rfl, (by show _ = _; rw [HF2.out]), HLn.out, HS.out⟩
        case measure => simp [intOf]; omega
    · obtain rfl : j = ms.length := by omega
      have HI2 : Hid (o = appAll k ms (some val)) := by
        have := HI.out
        rw [List.take_of_length_le (Nat.le_refl _)] at this
        exact this
      have HFU : Hid (o = Mg.appOO (findM k U) (some val)) := by
        show _ = _
        rw [HI2.out, ← HAP.out, appAll_find k U HRU.out]
      have S4 := hid (S3.out.trans HS.out)
      have B4 := hid (B2.out.step HS.out)
      have cF := findB_any p U (by omega) HRU.out k wr B4.out
      unfold findMV at cF
      have HTAIL : ∀ wz, Step noF wr wz → Hid (Step noF w wz ∧ BuffAt wz p U) := fun wz hs => ⟨S4.out.trans hs, B4.out.step hs⟩
      clear HI HI2 HAP HS B2 S3
      cases hfm : findM k U with
      | none =>
        rw [hfm] at cF HFU
        have HO : Hid (o = some val) := HFU.out
        obtain rfl := HO.out
        simp only at cF
        clear hfm HFU HO
        go_wp2_with fail
        refine cF.mono ?_
        rintro e w3 ⟨rfl, s3⟩
        obtain ⟨st3, bt3⟩ := (HTAIL _ (s3.alloc (.cells #[.int .i64 0, .string (str []), .string (str [])] 40))).out
        have SX := hid st3
        have BX := hid bt3
        clear s3 cF st3 bt3 B4 S4
        have HIX := hid (HIR.out.step SX.out)
        go_wp2_with fail
        refine (leafOf_any xs (by omega) b d _ HIX.out HD.out).mono ?_
        rintro e w4 ⟨s4, hof⟩
        have S5 := hid (SX.out.trans s4)
        have B5 := hid (BX.out.step s4)
        clear s4
        rcases hof with ⟨hne, rfl⟩ | ⟨hz, q, rfl, _, l4⟩
        · have hnz : (ofE xs == 0) = false := by rw [beq_eq_false_iff_ne]; exact hne
          go_wp2_with fail
          go_ret
          exact ⟨rfl, S5.out⟩
        obtain ⟨hR, hok, hlen⟩ := ofE_zeroB hz
        obtain ⟨Sx, hSx⟩ : ∃ Sx, sortL xs = Sx := ⟨_, rfl⟩
        rw [hSx] at hR hok hlen l4
        have HRS := hid hR
        have HOK := hid hok
        have L4 := hid l4
        have hS30 : Sx.length ≤ 30 := by omega
        clear hR hok l4 hSx hz hlen
        go_wp2_with fail
        refine (with_any q Sx HRS.out HOK.out (by omega) ms (fun m hm => Mg.val_max (HG0.out m hm)) (by omega) a c HC.out w4 L4.out (HMR.out.stepB S5.out)).mono ?_
        rintro e w5 ⟨hw, s5⟩
        rcases hw with ⟨hall, _⟩ | ⟨_, q1, rfl, _, l1⟩
        · exact absurd hall (by rw [List.all_eq_true.2 HG0.out]; simp)
        have V5 := hid s5
        have L1 := hid l1
        clear s5 l1
        go_wp2_with fail
        refine (listB_any p U (by omega) w5 (B5.out.step V5.out)).mono ?_
        rintro e w6 ⟨vu, rfl, hou, s6⟩
        obtain ⟨ta, tc, rfl, _, htn, htm⟩ := owns_msgs hou
        have V6 := hid (V5.out.trans s6)
        have L16 := hid (L1.out.step s6)
        have HTN := hid htn.1
        have HTM := hid htm
        clear s6 hou htn htm L1
        go_wp2_with fail
        refine (with_any q Sx HRS.out HOK.out (by omega) U (fun m hm => Mg.val_max (HGU.out m hm)) (by omega) ta tc HTN.out w6 (L4.out.step V6.out) HTM.out).mono ?_
        rintro e w7 ⟨hw, s7⟩
        rcases hw with ⟨hall, _⟩ | ⟨_, q2, rfl, _, l2⟩
        · exact absurd hall (by rw [List.all_eq_true.2 HGU.out]; simp)
        have hle := withL_len ms Sx
        rw [HWL.out Sx HRS.out] at l2
        have V7 := hid (V6.out.trans s7)
        have L17 := hid (L16.out.step s7)
        have L2 := hid l2
        clear s7 l2
        go_wp2_with fail
        refine (same_any q1 q2 (withL ms Sx) (withL ms Sx) ⟨by omega, by omega⟩ w7 L17.out L2.out).mono ?_
        rintro e w8 ⟨rfl, s8⟩
        rw [(sameB_iff _ _).2 rfl]
        have V8 := hid (V7.out.trans s8)
        clear s8
        go_wp2_with fail
        go_ret
        exact ⟨rfl, S5.out.trans V8.out⟩
      | some m =>
        have hmg : m.is = true := HGU.out m (findM_mem hfm).1
        rw [hfm] at cF HFU
        have HFU2 : Hid (o = m.appO (some val)) := HFU.out
        have cA := apply_any m (Mg.val_max hmg) (Option.getD (some val) []) (by first | exact HV.out | (show ([] : List UInt8).length ≤ maxLen; simp)) (Option.isSome (some val))
        rw [appR_opt hmg, ← HFU2.out] at cA
        have ev : m.value = .agg #[.int .i64 m.kind, .string (str m.key), .string (str m.val)] := rfl
        rw [ev] at cA
        simp only [Option.getD_some, Option.getD_none, Option.isSome_some, Option.isSome_none] at cA
        obtain ⟨xk, xy, xv⟩ := m
        simp only at cF cA
        clear hfm HFU HFU2 ev hmg
        go_wp2_with fail
        refine cF.mono ?_
        rintro e w3 ⟨rfl, s3⟩
        have tm := trip_new w3 40 ⟨xk, xy, xv⟩
        obtain ⟨z0, z1, z2, _, _, _⟩ := TripAt.all tm
        have st3 := s3.alloc (.cells #[.int .i64 xk, .string (str xy), .string (str xv)] 40)
        simp only at z0 z1 z2
        clear tm
        go_wp2_with fail
        refine (cA _).mono ?_
        rintro e wA ⟨rfl, sA⟩
        obtain ⟨stA, btA⟩ := (HTAIL _ (st3.trans sA)).out
        have SX := hid stA
        have BX := hid btA
        clear s3 cF st3 stA btA sA z0 z1 z2 cA B4 S4
        have HIX := hid (HIR.out.step SX.out)
        go_wp2_with fail
        refine (leafOf_any xs (by omega) b d _ HIX.out HD.out).mono ?_
        rintro e w4 ⟨s4, hof⟩
        have S5 := hid (SX.out.trans s4)
        have B5 := hid (BX.out.step s4)
        clear s4
        rcases hof with ⟨hne, rfl⟩ | ⟨hz, q, rfl, _, l4⟩
        · have hnz : (ofE xs == 0) = false := by rw [beq_eq_false_iff_ne]; exact hne
          go_wp2_with fail
          go_ret
          exact ⟨rfl, S5.out⟩
        obtain ⟨hR, hok, hlen⟩ := ofE_zeroB hz
        obtain ⟨Sx, hSx⟩ : ∃ Sx, sortL xs = Sx := ⟨_, rfl⟩
        rw [hSx] at hR hok hlen l4
        have HRS := hid hR
        have HOK := hid hok
        have L4 := hid l4
        have hS30 : Sx.length ≤ 30 := by omega
        clear hR hok l4 hSx hz hlen
        go_wp2_with fail
        refine (with_any q Sx HRS.out HOK.out (by omega) ms (fun m hm => Mg.val_max (HG0.out m hm)) (by omega) a c HC.out w4 L4.out (HMR.out.stepB S5.out)).mono ?_
        rintro e w5 ⟨hw, s5⟩
        rcases hw with ⟨hall, _⟩ | ⟨_, q1, rfl, _, l1⟩
        · exact absurd hall (by rw [List.all_eq_true.2 HG0.out]; simp)
        have V5 := hid s5
        have L1 := hid l1
        clear s5 l1
        go_wp2_with fail
        refine (listB_any p U (by omega) w5 (B5.out.step V5.out)).mono ?_
        rintro e w6 ⟨vu, rfl, hou, s6⟩
        obtain ⟨ta, tc, rfl, _, htn, htm⟩ := owns_msgs hou
        have V6 := hid (V5.out.trans s6)
        have L16 := hid (L1.out.step s6)
        have HTN := hid htn.1
        have HTM := hid htm
        clear s6 hou htn htm L1
        go_wp2_with fail
        refine (with_any q Sx HRS.out HOK.out (by omega) U (fun m hm => Mg.val_max (HGU.out m hm)) (by omega) ta tc HTN.out w6 (L4.out.step V6.out) HTM.out).mono ?_
        rintro e w7 ⟨hw, s7⟩
        rcases hw with ⟨hall, _⟩ | ⟨_, q2, rfl, _, l2⟩
        · exact absurd hall (by rw [List.all_eq_true.2 HGU.out]; simp)
        have hle := withL_len ms Sx
        rw [HWL.out Sx HRS.out] at l2
        have V7 := hid (V6.out.trans s7)
        have L17 := hid (L16.out.step s7)
        have L2 := hid l2
        clear s7 l2
        go_wp2_with fail
        refine (same_any q1 q2 (withL ms Sx) (withL ms Sx) ⟨by omega, by omega⟩ w7 L17.out L2.out).mono ?_
        rintro e w8 ⟨rfl, s8⟩
        rw [(sameB_iff _ _).2 rfl]
        have V8 := hid (V7.out.trans s8)
        clear s8
        go_wp2_with fail
        go_ret
        exact ⟨rfl, S5.out.trans V8.out⟩
set_option maxHeartbeats 8000000 in
theorem buffDoes_f (ms : List Mg) (hx : ms.length ≤ maxLen) (hq : ∀ m ∈ ms, m.key.length ≤ maxLen ∧ m.val.length ≤ maxLen) (a : Option Addr) (c : Nat) (hc : a = none → c = 0) (xs : List Rg) (hxx : xs.length ≤ maxLen) (b : Option Addr) (d : Nat) (hd : b = none → d = 0) (k val : List UInt8) (hv : val.length ≤ maxLen) (w : World) (h : MsgsAt w noF a ms) (hr : RgsAt w b xs) :
    Calls Tryz.prog 4 #[.slice a ms.length c, .slice b xs.length d, .string (str k), .string (str val), .bool false] w fun e w' => e = .returned (.bool true) ∧ Step noF w w' := by
  have hE := same_str
  have h0 := nil_str
  have HX := hid hx
  have HQ := hid hq
  have HC := hid hc
  have HD := hid hd
  have HV := hid hv
  have HMR := hid h
  have HIR := hid hr
  have hxx2 : xs.length ≤ 9223372036854775807 := by unfold maxLen at hxx; omega
  clear hx hq hc hd hv h hr hxx
  go_enter Tryz.func4, Tryz.ntmps4
  go_wp2_with fail
  refine (awakeB_any _).mono ?_
  rintro e w1 ⟨rfl, s1⟩
  have S1 := hid s1
  clear s1
  go_wp2_with fail
  refine (heavyB_any ms HX.out HQ.out a c w1 (HMR.out.stepB S1.out)).mono ?_
  rintro e w1' ⟨hg, rfl⟩
  rcases hg with rfl | ⟨rfl, hl0, _⟩
  · go_wp2_with fail
    go_ret
    exact ⟨rfl, S1.out⟩
  by_cases hl1 : 30 < xs.length
  · have hl1z : (30 : Int) < (xs.length : Int) := by omega
    go_wp2_with fail
    go_ret
    exact ⟨rfl, S1.out⟩
  have hl1z : ¬ (30 : Int) < (xs.length : Int) := by omega
  go_wp2_with fail
  refine (ofB_any ms (fun m hm => (HQ.out m hm).2) (by omega) a c HC.out w1 (HMR.out.stepB S1.out)).mono ?_
  rintro e w2 ⟨ho, s2⟩
  have S3 := hid (S1.out.trans s2)
  clear s2
  rcases ho with ⟨hall, rfl⟩ | ⟨hall, p, rfl, hb2⟩
  · clear hall
    go_wp2_with fail
    go_ret
    exact ⟨rfl, S3.out⟩
  have HG0 : Hid (GoodM ms) := List.all_eq_true.1 hall
  have hgr := putsM_all ms HG0.out [] (fun _ h => by simp at h) List.Pairwise.nil
  have hUl := putsM_len ms []
  have HAP := hid (fun o => appAll_puts k ms HG0.out o)
  have HWL := hid (fun zs (hz : Rising zs) => withL_puts ms HG0.out zs hz)
  obtain ⟨U, hU⟩ : ∃ U, putsM ms [] = U := ⟨_, rfl⟩
  rw [hU] at hgr hb2 hUl HAP HWL
  have HGU := hid hgr.1
  have HRU := hid hgr.2
  have hUl2 : U.length ≤ 40 := by simp at hUl; omega
  have B2 := hid hb2
  clear hall hgr hb2 hUl hU
  go_wp2_with fail
  go_loopw [13, 14, 15] (fun v z i wr => ∃ (j : Nat) (o : Option (List UInt8)), j ≤ ms.length ∧ i = .int .i64 j ∧ v = .string (str (o.getD [])) ∧ z = .bool o.isSome ∧ Hid (o = appAll k (ms.take j) (none)) ∧ Hid ((o.getD []).length ≤ maxLen) ∧ Hid (Step noF w2 wr)) (fun _ _ i _ => ms.length - (intOf i).toNat)
  case atStart => exact ⟨0, none, Nat.zero_le _, rfl, rfl, rfl, (by show _ = _; rfl), (by first | exact HV.out | (show ([] : List UInt8).length ≤ maxLen; simp)), Step.refl _ _⟩
  case round =>
    obtain ⟨j, o, hj, rfl, rfl, rfl, HI, HLn, HS⟩ := hrel
    by_cases hjl : j < ms.length
    · have hjz : (j : Int) < (ms.length : Int) := by omega
      obtain ⟨g, off, rfl, y0, y1, y2⟩ := (HMR.out.stepB (S3.out.trans HS.out)).at j hjl
      have HF := hid (appAll_step k ms j hjl (none))
      have hmi := HG0.out ms[j] (List.getElem_mem hjl)
      have cA := apply_any ms[j] (Mg.val_max hmi) (o.getD []) HLn.out o.isSome
      rw [appR_opt hmi] at cA
      have HAL := hid (appO_len hmi o HLn.out)
      have ev : ms[j].value = .agg #[.int .i64 ms[j].kind, .string (str ms[j].key), .string (str ms[j].val)] := rfl
      rw [ev] at cA
      obtain ⟨⟨xk, xy, xv⟩, hxm⟩ : ∃ m, ms[j] = m := ⟨_, rfl⟩
      rw [hxm] at y0 y1 y2 HF cA HAL
      simp only at y0 y1 y2 HF cA
      clear hxm hmi ev
      by_cases hkk : xy = k
      · have HF2 : Hid (appAll k (ms.take (j + 1)) (none) = (Mg.mk xk xy xv).appO o) := by show _ = _; rw [HF.out, if_pos hkk, ← HI.out]
        have hkd : decide (xy = k) = true := decide_eq_true hkk
        obtain ⟨o2, ho2⟩ : ∃ o2, (Mg.mk xk xy xv).appO o = o2 := ⟨_, rfl⟩
        rw [ho2] at cA HF2 HAL
        clear HF ho2
        subst hkk
        go_wp2_with fail
        refine (cA _).mono ?_
        rintro e w3 ⟨rfl, s3⟩
        have V3 := hid (HS.out.trans s3)
        clear s3 cA
        go_wp2_with fail
        go_roundw
        case rel => exact ⟨j + 1, o2, by omega, int_eq (by omega), rfl, rfl, (by show _ = _; rw [HF2.out]), HAL.out, V3.out⟩
        case measure => simp [intOf]; omega
      · have HF2 : Hid (appAll k (ms.take (j + 1)) (none) = o) := by show _ = _; rw [HF.out, if_neg hkk, ← HI.out]
        have hkd : decide (xy = k) = false := decide_eq_false hkk
        clear HF cA
        go_wp2_with fail
        go_roundw
        case rel => exact ⟨j + 1, o, by omega, int_eq (by omega), rfl, rfl, (by show _ = _; rw [HF2.out]), HLn.out, HS.out⟩
        case measure => simp [intOf]; omega
    · obtain rfl : j = ms.length := by omega
      have HI2 : Hid (o = appAll k ms (none)) := by
        have := HI.out
        rw [List.take_of_length_le (Nat.le_refl _)] at this
        exact this
      have HFU : Hid (o = Mg.appOO (findM k U) (none)) := by
        show _ = _
        rw [HI2.out, ← HAP.out, appAll_find k U HRU.out]
      have S4 := hid (S3.out.trans HS.out)
      have B4 := hid (B2.out.step HS.out)
      have cF := findB_any p U (by omega) HRU.out k wr B4.out
      unfold findMV at cF
      have HTAIL : ∀ wz, Step noF wr wz → Hid (Step noF w wz ∧ BuffAt wz p U) := fun wz hs => ⟨S4.out.trans hs, B4.out.step hs⟩
      clear HI HI2 HAP HS B2 S3
      cases hfm : findM k U with
      | none =>
        rw [hfm] at cF HFU
        have HO : Hid (o = none) := HFU.out
        obtain rfl := HO.out
        simp only at cF
        clear hfm HFU HO
        go_wp2_with fail
        refine cF.mono ?_
        rintro e w3 ⟨rfl, s3⟩
        obtain ⟨st3, bt3⟩ := (HTAIL _ (s3.alloc (.cells #[.int .i64 0, .string (str []), .string (str [])] 40))).out
        have SX := hid st3
        have BX := hid bt3
        clear s3 cF st3 bt3 B4 S4
        have HIX := hid (HIR.out.step SX.out)
        go_wp2_with fail
        refine (leafOf_any xs (by omega) b d _ HIX.out HD.out).mono ?_
        rintro e w4 ⟨s4, hof⟩
        have S5 := hid (SX.out.trans s4)
        have B5 := hid (BX.out.step s4)
        clear s4
        rcases hof with ⟨hne, rfl⟩ | ⟨hz, q, rfl, _, l4⟩
        · have hnz : (ofE xs == 0) = false := by rw [beq_eq_false_iff_ne]; exact hne
          go_wp2_with fail
          go_ret
          exact ⟨rfl, S5.out⟩
        obtain ⟨hR, hok, hlen⟩ := ofE_zeroB hz
        obtain ⟨Sx, hSx⟩ : ∃ Sx, sortL xs = Sx := ⟨_, rfl⟩
        rw [hSx] at hR hok hlen l4
        have HRS := hid hR
        have HOK := hid hok
        have L4 := hid l4
        have hS30 : Sx.length ≤ 30 := by omega
        clear hR hok l4 hSx hz hlen
        go_wp2_with fail
        refine (with_any q Sx HRS.out HOK.out (by omega) ms (fun m hm => Mg.val_max (HG0.out m hm)) (by omega) a c HC.out w4 L4.out (HMR.out.stepB S5.out)).mono ?_
        rintro e w5 ⟨hw, s5⟩
        rcases hw with ⟨hall, _⟩ | ⟨_, q1, rfl, _, l1⟩
        · exact absurd hall (by rw [List.all_eq_true.2 HG0.out]; simp)
        have V5 := hid s5
        have L1 := hid l1
        clear s5 l1
        go_wp2_with fail
        refine (listB_any p U (by omega) w5 (B5.out.step V5.out)).mono ?_
        rintro e w6 ⟨vu, rfl, hou, s6⟩
        obtain ⟨ta, tc, rfl, _, htn, htm⟩ := owns_msgs hou
        have V6 := hid (V5.out.trans s6)
        have L16 := hid (L1.out.step s6)
        have HTN := hid htn.1
        have HTM := hid htm
        clear s6 hou htn htm L1
        go_wp2_with fail
        refine (with_any q Sx HRS.out HOK.out (by omega) U (fun m hm => Mg.val_max (HGU.out m hm)) (by omega) ta tc HTN.out w6 (L4.out.step V6.out) HTM.out).mono ?_
        rintro e w7 ⟨hw, s7⟩
        rcases hw with ⟨hall, _⟩ | ⟨_, q2, rfl, _, l2⟩
        · exact absurd hall (by rw [List.all_eq_true.2 HGU.out]; simp)
        have hle := withL_len ms Sx
        rw [HWL.out Sx HRS.out] at l2
        have V7 := hid (V6.out.trans s7)
        have L17 := hid (L16.out.step s7)
        have L2 := hid l2
        clear s7 l2
        go_wp2_with fail
        refine (same_any q1 q2 (withL ms Sx) (withL ms Sx) ⟨by omega, by omega⟩ w7 L17.out L2.out).mono ?_
        rintro e w8 ⟨rfl, s8⟩
        rw [(sameB_iff _ _).2 rfl]
        have V8 := hid (V7.out.trans s8)
        clear s8
        go_wp2_with fail
        go_ret
        exact ⟨rfl, S5.out.trans V8.out⟩
      | some m =>
        have hmg : m.is = true := HGU.out m (findM_mem hfm).1
        rw [hfm] at cF HFU
        have HFU2 : Hid (o = m.appO (none)) := HFU.out
        have cA := apply_any m (Mg.val_max hmg) (Option.getD (none : Option (List UInt8)) []) (by first | exact HV.out | (show ([] : List UInt8).length ≤ maxLen; simp)) (Option.isSome (none : Option (List UInt8)))
        rw [appR_opt hmg, ← HFU2.out] at cA
        have ev : m.value = .agg #[.int .i64 m.kind, .string (str m.key), .string (str m.val)] := rfl
        rw [ev] at cA
        simp only [Option.getD_some, Option.getD_none, Option.isSome_some, Option.isSome_none] at cA
        obtain ⟨xk, xy, xv⟩ := m
        simp only at cF cA
        clear hfm HFU HFU2 ev hmg
        go_wp2_with fail
        refine cF.mono ?_
        rintro e w3 ⟨rfl, s3⟩
        have tm := trip_new w3 40 ⟨xk, xy, xv⟩
        obtain ⟨z0, z1, z2, _, _, _⟩ := TripAt.all tm
        have st3 := s3.alloc (.cells #[.int .i64 xk, .string (str xy), .string (str xv)] 40)
        simp only at z0 z1 z2
        clear tm
        go_wp2_with fail
        refine (cA _).mono ?_
        rintro e wA ⟨rfl, sA⟩
        obtain ⟨stA, btA⟩ := (HTAIL _ (st3.trans sA)).out
        have SX := hid stA
        have BX := hid btA
        clear s3 cF st3 stA btA sA z0 z1 z2 cA B4 S4
        have HIX := hid (HIR.out.step SX.out)
        go_wp2_with fail
        refine (leafOf_any xs (by omega) b d _ HIX.out HD.out).mono ?_
        rintro e w4 ⟨s4, hof⟩
        have S5 := hid (SX.out.trans s4)
        have B5 := hid (BX.out.step s4)
        clear s4
        rcases hof with ⟨hne, rfl⟩ | ⟨hz, q, rfl, _, l4⟩
        · have hnz : (ofE xs == 0) = false := by rw [beq_eq_false_iff_ne]; exact hne
          go_wp2_with fail
          go_ret
          exact ⟨rfl, S5.out⟩
        obtain ⟨hR, hok, hlen⟩ := ofE_zeroB hz
        obtain ⟨Sx, hSx⟩ : ∃ Sx, sortL xs = Sx := ⟨_, rfl⟩
        rw [hSx] at hR hok hlen l4
        have HRS := hid hR
        have HOK := hid hok
        have L4 := hid l4
        have hS30 : Sx.length ≤ 30 := by omega
        clear hR hok l4 hSx hz hlen
        go_wp2_with fail
        refine (with_any q Sx HRS.out HOK.out (by omega) ms (fun m hm => Mg.val_max (HG0.out m hm)) (by omega) a c HC.out w4 L4.out (HMR.out.stepB S5.out)).mono ?_
        rintro e w5 ⟨hw, s5⟩
        rcases hw with ⟨hall, _⟩ | ⟨_, q1, rfl, _, l1⟩
        · exact absurd hall (by rw [List.all_eq_true.2 HG0.out]; simp)
        have V5 := hid s5
        have L1 := hid l1
        clear s5 l1
        go_wp2_with fail
        refine (listB_any p U (by omega) w5 (B5.out.step V5.out)).mono ?_
        rintro e w6 ⟨vu, rfl, hou, s6⟩
        obtain ⟨ta, tc, rfl, _, htn, htm⟩ := owns_msgs hou
        have V6 := hid (V5.out.trans s6)
        have L16 := hid (L1.out.step s6)
        have HTN := hid htn.1
        have HTM := hid htm
        clear s6 hou htn htm L1
        go_wp2_with fail
        refine (with_any q Sx HRS.out HOK.out (by omega) U (fun m hm => Mg.val_max (HGU.out m hm)) (by omega) ta tc HTN.out w6 (L4.out.step V6.out) HTM.out).mono ?_
        rintro e w7 ⟨hw, s7⟩
        rcases hw with ⟨hall, _⟩ | ⟨_, q2, rfl, _, l2⟩
        · exact absurd hall (by rw [List.all_eq_true.2 HGU.out]; simp)
        have hle := withL_len ms Sx
        rw [HWL.out Sx HRS.out] at l2
        have V7 := hid (V6.out.trans s7)
        have L17 := hid (L16.out.step s7)
        have L2 := hid l2
        clear s7 l2
        go_wp2_with fail
        refine (same_any q1 q2 (withL ms Sx) (withL ms Sx) ⟨by omega, by omega⟩ w7 L17.out L2.out).mono ?_
        rintro e w8 ⟨rfl, s8⟩
        rw [(sameB_iff _ _).2 rfl]
        have V8 := hid (V7.out.trans s8)
        clear s8
        go_wp2_with fail
        go_ret
        exact ⟨rfl, S5.out.trans V8.out⟩
theorem buffDoes_any (ms : List Mg) (hx : ms.length ≤ maxLen) (hq : ∀ m ∈ ms, m.key.length ≤ maxLen ∧ m.val.length ≤ maxLen) (a : Option Addr) (c : Nat) (hc : a = none → c = 0) (xs : List Rg) (hxx : xs.length ≤ maxLen) (b : Option Addr) (d : Nat) (hd : b = none → d = 0) (k val : List UInt8) (hv : val.length ≤ maxLen) (hb : Bool) (w : World) (h : MsgsAt w noF a ms) (hr : RgsAt w b xs) :
    Calls Tryz.prog 4 #[.slice a ms.length c, .slice b xs.length d, .string (str k), .string (str val), .bool hb] w fun e w' => e = .returned (.bool true) ∧ Step noF w w' := by
  cases hb
  · exact buffDoes_f ms hx hq a c hc xs hxx b d hd k val hv w h hr
  · exact buffDoes_t ms hx hq a c hc xs hxx b d hd k val hv w h hr
end Go.Proofs.YtipgbpopcamllaaGreat
