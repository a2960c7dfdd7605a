/-
  The law BuffParts: a buffer is its parts.
-/
import Derived.Test.YtipgbpopcamllaaBfAw
import Derived.Test.YtipgbpopcamllaaKeyH
import Derived.BigQuiet
namespace Go.Proofs.Ytipgbpopcamllaa
open Go.RowKit Go.Sort
set_option linter.unusedVariables false
set_option linter.unusedSimpArgs false
set_option maxRecDepth 20000

theorem rise_fromB : ∀ (ps : List (List UInt8)) (lo : List UInt8), (∀ i (h : i < ps.length), ps[i] ≠ [] ∧ (i = 0 → lo = [] ∨ lo < ps[i]) ∧ (∀ hi : 0 < i, ps[i - 1]'(by omega) < ps[i])) → Rise lo ps
  | [], lo, _ => trivial
  | p :: t, lo, h => by
    refine ⟨(h 0 (by simp)).1, (h 0 (by simp)).2.1 rfl, rise_fromB t p (fun i hi => ?_)⟩
    obtain ⟨h1, h2, h3⟩ := h (i + 1) (by simp; omega)
    refine ⟨by simpa using h1, fun e => ?_, fun hp => ?_⟩
    · subst e
      exact .inr (by simpa using h3 (by omega))
    · have := h3 (by omega)
      obtain ⟨j, rfl⟩ : ∃ j, i = j + 1 := ⟨i - 1, by omega⟩
      simpa using this
theorem sum_zero : ∀ ls : List Nat, ls.sum = 0 ↔ ∀ i, i < ls.length → ls.getD i 0 = 0
  | [] => by simp
  | x :: xs => by
    rw [List.sum_cons]
    have ih := sum_zero xs
    constructor
    · intro h i hi
      cases i with
      | zero => simp; omega
      | succ i => simpa using (ih.1 (by omega)) i (by simpa using hi)
    · intro h
      have h0 := h 0 (by simp)
      have h1 := ih.2 (fun i hi => by simpa using h (i + 1) (by simp; omega))
      simp at h0
      omega
theorem best_facts (ls : List Nat) (n : Nat) (hn : ls.length = n) : bestZ ls n < (n : Int) ∧ (bestZ ls n < 0 ↔ ls.sum = 0) ∧ ∀ b : Nat, bestZ ls n = (b : Int) → b < n ∧ ∀ i, i < n → ls.getD i 0 ≤ ls.getD b 0 := by
  have ok := bestN_ok ls n
  unfold bestZ
  cases hb : bestN ls n with
  | none =>
    rw [hb] at ok
    have ok' : ∀ i, i < n → ls.getD i 0 = 0 := ok
    refine ⟨by simp only; omega, ⟨fun _ => (sum_zero ls).2 (by rw [hn]; exact ok'), fun _ => by simp only; omega⟩, fun b h => by simp only at h; omega⟩
  | some p =>
    rw [hb] at ok
    obtain ⟨o1, o2, o3⟩ : p < n ∧ 0 < ls.getD p 0 ∧ ∀ i, i < n → ls.getD i 0 ≤ ls.getD p 0 := ok
    refine ⟨by simp only; omega, ⟨fun h => by simp only at h; omega, fun h => ?_⟩, fun b h => ?_⟩
    · have := (sum_zero ls).1 h p (by omega)
      omega
    · simp only at h
      obtain rfl : p = b := by omega
      exact ⟨o1, o3⟩
theorem sum_take (ls : List Nat) (j : Nat) (hj : j < ls.length) : (ls.take (j + 1)).sum = (ls.take j).sum + ls[j] := by
  rw [List.take_succ_eq_append_getElem hj, List.sum_append]
  simp
theorem joinM_good (rs : List Rg) (ms : List Mg) (hg : GoodM ms) : GoodM (joinM rs ms) ∧ RisingM (joinM rs ms) := putsM_all _ (fun x hx => by
  obtain ⟨r, _, h⟩ := List.mem_flatMap.1 hx
  exact takeM_good r ms hg x h) [] (fun _ h => by simp at h) List.Pairwise.nil
theorem leftM_good (rs : List Rg) (ms : List Mg) (hg : GoodM ms) (hr : RisingM ms) : GoodM (leftM rs ms) ∧ RisingM (leftM rs ms) ∧ (leftM rs ms).length ≤ ms.length := by
  rw [leftM_eq]
  exact ⟨fun x hx => hg x (List.mem_filter.1 hx).1, List.Pairwise.filter _ hr, List.length_filter_le _ _⟩

theorem sum_part (ls : List Nat) (j : Nat) : (ls.take j).sum ≤ ls.sum := by
  have := congrArg List.sum (List.take_append_drop j ls)
  rw [List.sum_append] at this
  omega
theorem flatM_len (rs : List Rg) (ms : List Mg) : (rs.flatMap fun r => takeM r ms).length ≤ rs.length * ms.length := by
  induction rs with
  | nil => simp
  | cons r rs ih =>
    rw [List.flatMap_cons, List.length_append, List.length_cons, Nat.add_mul]
    have := takeM_len r ms
    omega
theorem joinM_len (rs : List Rg) (ms : List Mg) : (joinM rs ms).length ≤ rs.length * ms.length := by
  have h1 := putsM_len (rs.flatMap fun r => takeM r ms) []
  have h2 := flatM_len rs ms
  unfold joinM
  simp only [List.length_nil, Nat.zero_add] at h1
  omega

set_option maxHeartbeats 8000000 in
theorem buffParts_any (ms : List Mg) (hx : ms.length ≤ maxLen) (hq : ∀ m ∈ ms, m.key.length ≤ maxLen ∧ m.val.length ≤ maxLen) (a : Option Addr) (c : Nat) (hc : a = none → c = 0) (ps : List (List UInt8)) (hpx : ps.length ≤ maxLen) (hpq : ∀ x ∈ ps, x.length ≤ maxLen) (b : Option Addr) (d : Nat) (w : World) (h : MsgsAt w noF a ms) (hr : RowAt w noF b (texts ps)) :
    Calls Try.prog 4 #[.slice a ms.length c, .slice b ps.length d] w fun e w' => e = .returned (.bool true) ∧ Step noF w w' := by
  have hE := same_str
  have hLs := less_str
  have h0 := nil_str
  have HX := hid hx
  have HQ := hid hq
  have HPX := hid hpx
  have HPQ := hid hpq
  have HC := hid hc
  have HMR := hid h
  have HPR := hid hr
  clear hx hq hpx hpq hc h hr
  go_enter Try.func4, Try.ntmps4
  go_wp2_with fail
  refine (awakeB_any _).mono ?_
  rintro e w1 ⟨rfl, s1⟩
  have S1 := hid s1
  clear s1
  go_wp2_with fail
  refine (heavyB_any ms HX.out HQ.out a c w1 (HMR.out.stepB S1.out)).mono ?_
  rintro e w1' ⟨hg, rfl⟩
  rcases hg with rfl | ⟨rfl, hl0, _⟩
  · go_wp2_with fail
    go_ret
    exact ⟨rfl, S1.out⟩
  go_wp2_with fail
  refine (wideB_any ps HPX.out HPQ.out b d w1 (HPR.out.step S1.out)).mono ?_
  rintro e w1' ⟨hg, rfl⟩
  rcases hg with rfl | ⟨rfl, hl1, _⟩
  · go_wp2_with fail
    go_ret
    exact ⟨rfl, S1.out⟩
  go_wp2_with fail
  go_loopw [5] (fun i wr => ∃ j : Nat, j ≤ ps.length ∧ i = .int .i64 j ∧ Step noF w1 wr ∧ Hid (∀ i (h : i < ps.length), i < j → ps[i] ≠ [] ∧ ∀ hi : 0 < i, ps[i - 1]'(by omega) < ps[i])) (fun i _ => ps.length - (intOf i).toNat)
  case atStart => exact ⟨0, Nat.zero_le _, rfl, Step.refl _ _, fun i _ h => by omega⟩
  case round =>
    obtain ⟨j, hj, rfl, hst, hris⟩ := hrel
    by_cases hjn : j < ps.length
    · have hji : (j : Int) < (ps.length : Int) := by omega
      obtain ⟨bb, off, rfl, hcc⟩ := texts_at (HPR.out.step (S1.out.trans hst)) j hjn
      obtain ⟨p, hp⟩ : ∃ p, ps[j] = p := ⟨_, rfl⟩
      rw [hp] at hcc
      have HP := hid hp
      have cI : ∀ w', Calls Try.prog 21 #[.string (str p)] w' fun e w'' => e = .returned (.bool (isK p)) ∧ w'' = w' := fun w' => (is_any p w').mono (fun e w'' h => ⟨h.1, h.2.symm⟩)
      obtain ⟨A, hA⟩ : ∃ A, isK p = A := ⟨_, rfl⟩
      rw [hA] at cI
      have HA := hid hA
      clear hp hA
      cases A
      · go_wp2_with fail
        go_quiet (first | (go_at_call 21; refine Calls.quiet_of_same (cI _)))
        go_wp2_with fail
        go_ret
        exact ⟨rfl, (S1.out.trans hst).drewN _⟩
      · have hpe : Hid (p ≠ []) := fun e => by have := HA.out; rw [e] at this; simp [isK] at this
        by_cases hj0 : j = 0
        · have hR2 : Hid (∀ i (h : i < ps.length), i < j + 1 → ps[i] ≠ [] ∧ ∀ hi : 0 < i, ps[i - 1]'(by omega) < ps[i]) := by
            intro i h hi
            obtain rfl : i = j := by omega
            exact ⟨by rw [HP.out]; exact hpe.out, fun hi => by omega⟩
          have hjz : (j : Int) = 0 := by omega
          have hc0 : wr.cell? ⟨bb, off, none⟩ = some (.string (str p)) := by
            rw [hj0] at hcc
            exact hcc
          clear hcc hj0
          go_wp2_with fail
          go_quiet (first | (go_at_call 21; refine Calls.quiet_of_same (cI _)))
          go_wp2_with fail
          go_roundw
          case rel => exact ⟨j + 1, by omega, int_eq (by omega), hst.drewN _, hR2.out⟩
          case measure => simp [intOf]; omega
        · obtain ⟨m, rfl⟩ : ∃ m, j = m + 1 := ⟨j - 1, by omega⟩
          obtain ⟨b2, off2, hb2, hc2⟩ := texts_at (HPR.out.step (S1.out.trans hst)) m (by omega)
          injection hb2 with hb2
          injection hb2 with hb2 hb3
          subst hb2 hb3
          obtain ⟨q, hq⟩ : ∃ q, ps[m] = q := ⟨_, rfl⟩
          rw [hq] at hc2
          have HQQ := hid hq
          have g1 : (0 : Int) < ((m + 1 : Nat) : Int) := by omega
          have g2 : ((m + 1 : Nat) : Int) - 1 = (m : Int) := by omega
          have g3 : (m : Int) < (ps.length : Int) := by omega
          clear hq hj0
          by_cases hqp : q < p
          · have n1 : ¬ p < q := by grind
            have n2 : ¬ p = q := by grind
            have hR2 : Hid (∀ i (h : i < ps.length), i < m + 1 + 1 → ps[i] ≠ [] ∧ ∀ hi : 0 < i, ps[i - 1]'(by omega) < ps[i]) := by
              intro i h hi
              by_cases him : i < m + 1
              · exact hris.out i h him
              · obtain rfl : i = m + 1 := by omega
                refine ⟨by rw [HP.out]; exact hpe.out, fun hi => ?_⟩
                have e1 : ps[m + 1 - 1]'(by omega) = q := HQQ.out
                rw [e1, HP.out]
                exact hqp
            clear hqp
            go_wp2_with fail
            go_quiet (first | (go_at_call 21; refine Calls.quiet_of_same (cI _)))
            go_wp2_with fail
            go_roundw
            case rel => exact ⟨m + 1 + 1, by omega, int_eq (by omega), hst.drewN _, hR2.out⟩
            case measure => simp [intOf]; omega
          · have hor : (decide (p < q) || decide (p = q)) = true := by
              simp
              grind
            clear hqp
            go_wp2_with fail
            go_quiet (first | (go_at_call 21; refine Calls.quiet_of_same (cI _)))
            go_wp2_with fail
            go_ret
            exact ⟨rfl, (S1.out.trans hst).drewN _⟩
    · obtain rfl : j = ps.length := by omega
      have HRS : Hid (Rise [] ps) := rise_fromB ps [] (fun i h => ⟨(hris.out i h h).1, fun _ => .inl rfl, (hris.out i h h).2⟩)
      have S2 := hid (S1.out.trans hst)
      clear hris hst S1
      go_wp2_with fail
      refine (ofB_any ms (fun m hm => (HQ.out m hm).2) (by omega) a c HC.out wr (HMR.out.stepB S2.out)).mono ?_
      rintro e w2 ⟨ho, s2⟩
      have S3 := hid (S2.out.trans s2)
      clear s2
      rcases ho with ⟨hall, rfl⟩ | ⟨hall, p, rfl, hb2⟩
      · clear hall
        go_wp2_with fail
        go_ret
        exact ⟨rfl, S3.out⟩
      have HG0 : Hid (GoodM ms) := List.all_eq_true.1 hall
      have hgr := putsM_all ms HG0.out [] (fun _ h => by simp at h) List.Pairwise.nil
      have hUl := putsM_len ms []
      obtain ⟨U, hU⟩ : ∃ U, putsM ms [] = U := ⟨_, rfl⟩
      rw [hU] at hgr hb2 hUl
      have HGU := hid hgr.1
      have HRU := hid hgr.2
      have hUl2 : U.length ≤ 40 := by simp at hUl; omega
      have HSU := hid (good_small hgr.1 (by omega))
      have B2 := hid hb2
      clear hall hgr hb2 hUl hU
      have cE := ofB_any [] (fun _ h => by simp at h) (by simp) none 0 (fun _ => rfl) w2 (.inl rfl)
      rw [List.length_nil] at cE
      go_wp2_with fail
      refine cE.mono ?_
      rintro e w3 ⟨ho, s3⟩
      rcases ho with ⟨hall, _⟩ | ⟨_, p9, rfl, hb9⟩
      · exact absurd hall (by simp)
      have B9 : Hid (BuffAt w3 p9 []) := hb9
      have S4 := hid (S3.out.trans s3)
      have B3 := hid (B2.out.step s3)
      clear s3 hb9 cE B2 S3
      go_wp2_with fail
      refine (loadsB_any p U HSU.out HRU.out HGU.out ps (by omega) b d w3 B3.out (HPR.out.step S4.out)).mono ?_
      rintro e w4 ⟨⟨gl, rfl, hol⟩, s4⟩
      have hrow := (owns_rowIn2 hol).1
      have HROW := hid hrow
      have S5 := hid (S4.out.trans s4)
      have B4 := hid (B3.out.step s4)
      have B94 := hid (B9.out.step s4)
      clear s4 hol hrow B3 B9 S4
      go_wp2_with fail
      refine (heaviestB_any p U HSU.out HRU.out HGU.out ps (by omega) b d w4 B4.out (HPR.out.step S5.out)).mono ?_
      rintro e w5 ⟨rfl, s5⟩
      have T5 := hid s5
      have S6 := hid (S5.out.trans s5)
      clear s5 S5
      have cC := cut_any ⟨[], []⟩ ps (by omega) b d w5 (HPR.out.step S6.out)
      have er : (Rg.mk [] []).val = .agg #[.string (str []), .string (str [])] := rfl
      rw [er] at cC
      clear er
      go_wp2_with fail
      refine cC.mono ?_
      rintro e w6 ⟨a6, c6, rfl, hc6, hrs, s6⟩
      have T6 := hid (T5.out.trans s6)
      have S7 := hid (S6.out.trans s6)
      have HRG := hid hrs
      have HAT := hid (loadsM_at2 ps U)
      have HLL := hid (loadsM_len ps U)
      have HRL := hid (cut_length ⟨[], []⟩ ps)
      have HON := hid (parts_once ps HRS.out U HGU.out)
      have HLN := hid (left_none ps HRS.out U HGU.out)
      have HSM := hid (loads_sum ps HRS.out U HGU.out)
      have HJN := hid (joined ps HRS.out U HGU.out HRU.out)
      have HWZ : Hid (wtM U = 0 ↔ U.length = 0) := ⟨fun h => by rw [wtM_zero h]; rfl, fun h => by rw [List.eq_nil_of_length_eq_zero h]; rfl⟩
      obtain ⟨rs, hrse⟩ : ∃ rs, (Rg.mk [] []).cut ps = rs := ⟨_, rfl⟩
      rw [hrse] at HRG HAT HRL HON HLN HJN
      obtain ⟨ls, hls⟩ : ∃ ls, loadsM ps U = ls := ⟨_, rfl⟩
      rw [hls] at HAT HLL HSM HROW ⊢
      obtain ⟨n, hn⟩ : ∃ n, ps.length + 1 = n := ⟨_, rfl⟩
      rw [hn] at hc6 HLL HRL ⊢
      have hnn : n ≤ 21 := by omega
      have hbf := best_facts ls n HLL.out
      obtain ⟨Z, hZ⟩ : ∃ Z, bestZ ls n = Z := ⟨_, rfl⟩
      rw [hZ] at hbf ⊢
      obtain ⟨hz1, hz2, hz3⟩ := hbf
      obtain ⟨LU, hLU⟩ : ∃ LU, U.length = LU := ⟨_, rfl⟩
      have hZn : ¬ (n : Int) ≤ Z := by omega
      have hzb : decide (Z < 0) = ((LU : Int) == 0) := by
        have h1 := HSM.out
        have h2 := HWZ.out
        rw [hLU] at h2
        by_cases hl : LU = 0
        · have h3 : Z < 0 := hz2.2 (by rw [h1]; exact h2.2 hl)
          subst hl
          simp [h3]
        · have h3 : ¬ Z < 0 := fun h => hl (h2.1 (by rw [← h1]; exact hz2.1 h))
          have h4 : ¬ (LU : Int) = 0 := by omega
          have h5 : ((LU : Int) == 0) = false := by rw [beq_eq_false_iff_ne]; exact h4
          rw [h5, decide_eq_false h3]
      have HZ3 := hid hz3
      have B6 := hid (B4.out.step T6.out)
      have B96 := hid (B94.out.step T6.out)
      have cLen := lenB_any p U w6 B6.out
      rw [hLU] at cLen
      have HROW6 := hid (HROW.out.step T6.out (fun x => x))
      have hlen6 : (ls.map (fun n : Nat => (n : Int))).length = n := by rw [List.length_map]; exact HLL.out
      clear hrse hls hn hZ hz1 hz2 hz3 hLU HWZ cC HRS hrs s6 B4 B94 HROW
      go_wp2_with fail
      refine cLen.mono ?_
      rintro e w6' ⟨rfl, rfl⟩
      go_wp2_with fail
      go_loopw [15, 8, 9, 10, 11] (fun i v8 v9 v10 v11 wr => ∃ (j q8 q9 s : Nat), j ≤ n ∧ i = .int .i64 j ∧ v8 = .pointer (some ⟨q8, 0, none⟩) ∧ v9 = .pointer (some ⟨q9, 0, none⟩) ∧ v10 = .int .i64 0 ∧ v11 = .int .i64 s ∧ s ≤ 2000003000000 ∧ Hid (s = (ls.take j).sum) ∧ Hid (BuffAt wr q8 (leftM (rs.take j) U)) ∧ Hid (BuffAt wr q9 (joinM (rs.take j) U)) ∧ Hid (Step noF w6 wr)) (fun i _ _ _ _ _ => n - (intOf i).toNat)
      case atStart => exact ⟨0, p, p9, 0, Nat.zero_le _, rfl, rfl, rfl, rfl, rfl, by omega, (by show (0 : Nat) = _; simp), B6.out, B96.out, Step.refl _ _⟩
      case round =>
        obtain ⟨j, q8, q9, s, hj, rfl, rfl, rfl, rfl, rfl, hs, HSJ, H8, H9, HS⟩ := hrel
        by_cases hjn : j < n
        · have hji : (j : Int) < (n : Int) := by omega
          have hjr : j < rs.length := by rw [HRL.out]; exact hjn
          have hjl : j < ls.length := by rw [HLL.out]; exact hjn
          obtain ⟨g, off, rfl, y0, y1⟩ := (HRG.out.step HS.out).at j hjr
          have HLF := hid (leftM_good (rs.take j) U HGU.out HRU.out)
          have HJG := hid (joinM_good (rs.take j) U HGU.out)
          have hjlen := joinM_len (rs.take j) U
          have htklen : (rs.take j).length ≤ 21 := by rw [List.length_take]; omega
          have hjl2 : Hid ((joinM (rs.take j) U).length ≤ 1000) := by
            show _ ≤ _
            have : (rs.take j).length * U.length ≤ 21 * 40 := Nat.mul_le_mul htklen hUl2
            omega
          have HTL := hid (take_left (rs.take j) rs[j] U (fun m hm hh q hq => once_apart (by rw [HON.out m hm]; exact Nat.le_refl _) j hjr hh q hq))
          have HLT := hid (leftM_take rs U j hjr)
          have HJT := hid (joinM_take rs U j hjr)
          have HST := hid (sum_take ls j hjl)
          have HSB := hid (sum_part ls (j + 1))
          have HAJ := hid (HAT.out j rs[j] (List.getElem?_eq_getElem hjr))
          obtain ⟨R, hRe⟩ : ∃ R, rs[j] = R := ⟨_, rfl⟩
          rw [hRe] at y0 y1 HTL HLT HJT HAJ
          have hUlen : (leftM (rs.take j) U).length ≤ 1000000 := by have := HLF.out.2.2; omega
          have cT := takeB_any q8 (leftM (rs.take j) U) hUlen HLF.out.2.1 HLF.out.1 R wr H8.out
          rw [HTL.out] at cT
          clear hRe hjlen htklen
          go_wp2_with fail
          refine cT.mono ?_
          rintro e w7 ⟨v, rfl, hov, s7⟩
          obtain ⟨ta, tc, rfl, _, htn, htm⟩ := owns_msgs hov
          have HTN := hid htn.1
          have HTM := hid htm
          have V7 := hid s7
          have y0' := s7.after y0
          have y1' := s7.after y1
          clear hov htn htm s7 y0 y1 cT
          go_wp2_with fail
          refine (withoutB_any q8 (leftM (rs.take j) U) hUlen HLF.out.2.1 HLF.out.1 R w7 (H8.out.step V7.out)).mono ?_
          rintro e w8 ⟨q8', rfl, hb8, s8⟩
          rw [← HLT.out] at hb8
          have H8' := hid hb8
          have V8 := hid (V7.out.trans s8)
          have HTM8 := hid (HTM.out.stepB s8)
          clear hb8 s8 y0' y1'
          have HGT := hid (takeM_good R U HGU.out)
          have htl := takeM_len R U
          have cW := withB_any q9 (joinM (rs.take j) U) HJG.out.2 HJG.out.1 (takeM R U) (fun m hm => Mg.val_max (HGT.out m hm)) (by have := hjl2.out; omega) ta tc HTN.out w8 (H9.out.step V8.out) HTM8.out
          obtain ⟨TL, hTL⟩ : ∃ TL, (takeM R U).length = TL := ⟨_, rfl⟩
          rw [hTL] at cW ⊢
          clear hTL htl
          go_wp2_with fail
          refine cW.mono ?_
          rintro e w9 ⟨ho, s9⟩
          rcases ho with ⟨hall, _⟩ | ⟨_, q9', rfl, hb9⟩
          · exact absurd hall (by rw [List.all_eq_true.2 HGT.out]; simp)
          rw [← HJT.out] at hb9
          have H9' := hid hb9
          have V9 := hid (V8.out.trans s9)
          have H89 := hid (H8'.out.step s9)
          clear hb9 s9 cW HJT HLT HTL H8' V8 V7 HTM HTM8
          have c0 := (HROW6.out.cell j (by rw [intsB_len, hlen6]; exact hjn))
          have e0 : (intsOf (ls.map (fun n : Nat => (n : Int))))[j]'(by rw [intsB_len, hlen6]; exact hjn) = .int .i64 (ls[j] : Int) := by simp [intsOf]
          rw [e0] at c0
          have c1 := (HS.out.trans V9.out).after c0
          clear c0 e0
          have HQJ := hid (HZ3.out)
          obtain ⟨x, hxe⟩ : ∃ x, ls[j] = x := ⟨_, rfl⟩
          have HXE := hid hxe
          have HST2 := HST.out
          rw [hxe] at c1 HST2
          have HST3 := hid HST2
          have hsx : s + x ≤ 2000003000000 := by
            have a1 := HSJ.out
            have a2 := HSB.out
            have a3 := HSM.out
            have a4 := wtM_le HSU.out
            omega
          clear hxe HST2
          by_cases hz0 : 0 ≤ Z
          · obtain ⟨bi, hbi⟩ : ∃ bi : Nat, Z = (bi : Int) := ⟨Z.toNat, by omega⟩
            obtain ⟨hb1, hb2⟩ := HQJ.out bi hbi
            have hle := hb2 j hjn
            rw [getD_lt _ hjl, HXE.out] at hle
            have hbl : bi < ls.length := by rw [HLL.out]; exact hb1
            have c2 := (HROW6.out.cell bi (by rw [intsB_len, hlen6]; exact hb1))
            have e2 : (intsOf (ls.map (fun n : Nat => (n : Int))))[bi]'(by rw [intsB_len, hlen6]; exact hb1) = .int .i64 (ls[bi] : Int) := by simp [intsOf]
            rw [e2] at c2
            have c3 := (HS.out.trans V9.out).after c2
            rw [getD_lt _ hbl] at hle
            obtain ⟨y, hye⟩ : ∃ y, ls[bi] = y := ⟨_, rfl⟩
            rw [hye] at c3 hle
            have hb1z : Z < (n : Int) := by omega
            have hzt : Z.toNat = bi := by omega
            have hgt : ¬ (y : Int) < (x : Int) := by omega
            have hgd : decide ((y : Int) < (x : Int)) = false := decide_eq_false hgt
            have hz0d : decide (0 ≤ Z) = true := decide_eq_true hz0
            clear c2 e2 hye hb2 hle hbi
            go_wp2_with fail
            go_quiet (fail)
            go_wp2_with fail
            go_roundw
            case rel =>
              refine ⟨j + 1, q8', q9', s + x, by omega, int_eq (by omega), rfl, rfl, rfl, int_eq (by omega), hsx, ?_, H89.out, H9'.out, (HS.out.trans V9.out).drewN _⟩
              show s + x = _
              rw [HST3.out, HSJ.out]
            case measure => simp [intOf]; omega
          · have hzd : decide (0 ≤ Z) = false := decide_eq_false hz0
            go_wp2_with fail
            go_quiet (fail)
            go_wp2_with fail
            go_roundw
            case rel =>
              refine ⟨j + 1, q8', q9', s + x, by omega, int_eq (by omega), rfl, rfl, rfl, int_eq (by omega), hsx, ?_, H89.out, H9'.out, (HS.out.trans V9.out).drewN _⟩
              show s + x = _
              rw [HST3.out, HSJ.out]
            case measure => simp [intOf]; omega
        · obtain rfl : j = n := by omega
          have e1 : rs.take j = rs := List.take_of_length_le (by rw [HRL.out]; exact Nat.le_refl _)
          have e2 : ls.take j = ls := List.take_of_length_le (by rw [HLL.out]; exact Nat.le_refl _)
          have K8 : Hid (BuffAt wr q8 []) := by have := H8.out; rw [e1, HLN.out] at this; exact this
          have K9 : Hid (BuffAt wr q9 U) := by
            have := H9.out
            rw [e1] at this
            have h2 : joinM rs U = U := HJN.out
            rw [h2] at this
            exact this
          have HSE : Hid (s = wtM U) := by show _ = _; rw [HSJ.out, e2, HSM.out]
          have cL := lenB_any q8 [] wr K8.out
          rw [List.length_nil] at cL
          have cW := weightB_any q8 [] ⟨by simp, by simp⟩ wr K8.out
          have cS := fun w' (hs : Step noF wr w') => sameBf_any q9 p U U ⟨by omega, by omega⟩ w' (K9.out.step hs) ((B6.out.step HS.out).step hs)
          rw [(sameM_iff U U).2 rfl] at cS
          have cX := fun w' (hs : Step noF wr w') => weightB_any p U HSU.out w' ((B6.out.step HS.out).step hs)
          rw [← HSE.out] at cX
          have ew : wtM ([] : List Mg) = 0 := rfl
          rw [ew] at cW
          clear e1 e2 ew H8 H9
          go_wp2_with fail
          refine cL.mono ?_
          rintro e w7 ⟨rfl, rfl⟩
          go_wp2_with fail
          refine cW.mono ?_
          rintro e w7 ⟨rfl, s7⟩
          have V7 := hid s7
          clear s7
          go_wp2_with fail
          refine (cS w7 V7.out).mono ?_
          rintro e w8 ⟨rfl, s8⟩
          have V8 := hid (V7.out.trans s8)
          clear s8
          go_wp2_with fail
          refine (cX w8 V8.out).mono ?_
          rintro e w9 ⟨rfl, s9⟩
          have V9 := hid (V8.out.trans s9)
          clear s9
          go_wp2_with fail
          go_ret
          exact ⟨rfl, S7.out.trans (HS.out.trans V9.out)⟩
end Go.Proofs.Ytipgbpopcamllaa
