/-
  The law LeafExact: Of, With, Within, Find and all readings are the document's.
-/
import Derived.Test.YtclaagihmpghnaaLfLight
import Derived.Test.YtclaagihmpghnaaLfHeavy
import Derived.Test.YtclaagihmpghnaaLfRD
import Derived.Deep.Cut
import Derived.Test.YtclaagihmpghnaaLfExR
import Derived.Test.YtclaagihmpghnaaLfNavE
namespace Go.Proofs.Ytclaagihmpghnaa
open Go.RowKit Go.Sort
set_option linter.unusedVariables false
set_option linter.unusedSimpArgs false
set_option maxRecDepth 20000

/-- A leaf's items, in a row. -/
theorem items_row (p : Nat) (xs : List Rg) (hl : xs.length ≤ 1000000) (w : World) (h : LeafAt w p xs) : Calls Try.prog 14 #[.pointer (some ⟨p, 0, none⟩)] w fun e w' => ∃ a c, e = .returned (.slice a xs.length c) ∧ Hid (RgsAt w' a xs) ∧ Hid (Step noF w w') := by
  refine (items_any p xs hl w h).mono ?_
  rintro e w' ⟨v, rfl, o, s⟩
  obtain ⟨a, c, rfl, _, _, r⟩ := owns_rgs o
  exact ⟨a, c, rfl, r, s⟩
theorem refWithin_row (xs : List Rg) (hl : xs.length ≤ 1000000) (r : Rg) (a : Option Addr) (c : Nat) (w : World) (h : RgsAt w a xs) :
    Calls Try.prog 19 #[.slice a xs.length c, .agg #[.string (str r.lo), .string (str r.hi)]] w fun e w' => ∃ a' c', e = .returned (.slice a' (withinL r xs).length c') ∧ Hid (RgsAt w' a' (withinL r xs)) ∧ Hid (Step noF w w') := by
  refine (refWithin_any xs hl r a c w h).mono ?_
  rintro e w' ⟨v, rfl, o, s⟩
  obtain ⟨a', c', rfl, _, _, r'⟩ := o.row
  exact ⟨a', c', rfl, r', s⟩
theorem refSame_yes (xs : List Rg) (hl : xs.length ≤ 1000000) (a1 a2 : Option Addr) (c1 c2 : Nat) (w : World) (h1 : RgsAt w a1 xs) (h2 : RgsAt w a2 xs) :
    Calls Try.prog 13 #[.slice a1 xs.length c1, .slice a2 xs.length c2] w fun e w' => e = .returned (.bool true) ∧ Hid (Step noF w w') := by
  refine (refSame_any xs xs hl hl a1 a2 c1 c2 w h1 h2).mono ?_
  rintro e w' ⟨rfl, s⟩
  exact ⟨by rw [(eqB_iff _ _).2 rfl], s⟩
theorem low_take (N : List Rg) (j : Nat) (hj : j < N.length) : lowL (N.take (j + 1)) = if j = 0 then N[j].lo else lowL (N.take j) := by
  cases N with
  | nil => simp at hj
  | cons x N =>
    cases j with
    | zero => simp [lowL]
    | succ j => simp [lowL]

set_option maxHeartbeats 8000000 in
theorem leafExact_any (xs : List Rg) (hx : xs.length ≤ maxLen) (hq : ∀ x ∈ xs, x.lo.length ≤ maxLen ∧ x.hi.length ≤ maxLen) (ms : List Mg) (hm : ms.length ≤ maxLen) (hmq : ∀ m ∈ ms, m.key.length ≤ maxLen ∧ m.val.length ≤ maxLen) (k : List UInt8) (hk : k.length ≤ maxLen) (r : Rg) (hrl : r.lo.length ≤ maxLen) (hrh : r.hi.length ≤ maxLen)
    (a : Option Addr) (c : Nat) (hc : a = none → c = 0) (b : Option Addr) (d : Nat) (hd : b = none → d = 0) (w : World) (h : RgsAt w a xs) (hr : MsgsAt w noF b ms) :
    Calls Try.prog 3 #[.slice a xs.length c, .slice b ms.length d, .string (str k), .agg #[.string (str r.lo), .string (str r.hi)]] w fun e w' => e = .returned (.bool true) ∧ Step noF w w' := by
  have hE := same_str
  have hz := str_size
  have h0 := nil_str
  unfold maxLen at hk hrl hrh
  have HR := hid h
  have HC := hid hc
  have HX := hid hx
  have HQ := hid hq
  have HMR := hid hr
  have HD := hid hd
  have HM := hid hm
  have HMQ := hid hmq
  clear h hc hx hq hr hd hm hmq
  go_enter Try.func3, Try.ntmps3
  go_wp2_with fail
  refine (awake_any _).mono ?_
  rintro e w1 ⟨rfl, s1⟩
  have b0 := s1.after (two_new w (.string (str r.lo)) (.string (str r.hi)) 25).1
  have b1 := s1.after (two_new w (.string (str r.lo)) (.string (str r.hi)) 25).2
  have S1 : Hid (Step noF w w1) := ((Step.refl noF w).alloc _).trans s1
  clear s1
  go_wp2_with fail
  refine (great_any xs HX.out HQ.out a c w1 (HR.out.step S1.out)).mono ?_
  rintro e w1' ⟨hg, rfl⟩
  rcases hg with rfl | ⟨rfl, h60, h512⟩
  · go_wp2_with fail
    go_ret
    exact ⟨rfl, S1.out⟩
  · clear h512
    go_wp2_with fail
    refine (heavy_any ms HM.out HMQ.out b d w1 (HMR.out.step S1.out (fun _ h => h))).mono ?_
    rintro e w1' ⟨hg, rfl⟩
    rcases hg with rfl | ⟨rfl, h40, hm512⟩
    · go_wp2_with fail
      go_ret
      exact ⟨rfl, S1.out⟩
    · clear hm512
      by_cases g1 : 512 < k.length
      · have gz1 : (512 : Int) < (k.length : Int) := by omega
        go_wp2_with fail
        go_ret
        exact ⟨rfl, S1.out⟩
      by_cases g2 : 512 < r.lo.length
      · have gz1 : ¬ (512 : Int) < (k.length : Int) := by omega
        have gz2 : (512 : Int) < (r.lo.length : Int) := by omega
        go_wp2_with fail
        go_ret
        exact ⟨rfl, S1.out⟩
      by_cases g3 : 512 < r.hi.length
      · have gz1 : ¬ (512 : Int) < (k.length : Int) := by omega
        have gz2 : ¬ (512 : Int) < (r.lo.length : Int) := by omega
        have gz3 : (512 : Int) < (r.hi.length : Int) := by omega
        go_wp2_with fail
        go_ret
        exact ⟨rfl, S1.out⟩
      have gz1 : ¬ (512 : Int) < (k.length : Int) := by omega
      have gz2 : ¬ (512 : Int) < (r.lo.length : Int) := by omega
      have gz3 : ¬ (512 : Int) < (r.hi.length : Int) := by omega
      go_wp2_with fail
      refine (leafOf_any xs (by omega) a c w1 (HR.out.step S1.out) HC.out).mono ?_
      clear gz1 gz2 gz3 g1 g2 g3
      rintro e w2 ⟨s2, hof⟩
      have cO := refOf_any xs (by omega) HQ.out a c w2 (HR.out.step (S1.out.trans s2))
      have S12 := hid s2
      have S2 := hid (S1.out.trans s2)
      clear s2
      rcases hof with ⟨hne, rfl⟩ | ⟨hE0, p, rfl, _, l2⟩
      · obtain ⟨E, hEE⟩ : ∃ E, ofE xs = E := ⟨_, rfl⟩
        have HEE := hid hEE
        rw [hEE] at hne ⊢
        have hnz : (E == 0) = false := by rw [beq_eq_false_iff_ne]; exact hne
        clear hEE
        go_wp2_with fail
        refine cO.mono ?_
        rintro e w3 ⟨hof, s3⟩
        rcases hof with ⟨_, rfl⟩ | ⟨hz0, _⟩
        · rw [HEE.out]
          have S3 := hid (S2.out.trans s3)
          clear s3 cO
          go_wp2_with fail
          go_ret
          exact ⟨rfl, S3.out⟩
        · exact absurd (HEE.out.symm.trans hz0) hne
      · obtain ⟨hR, hok, hlen⟩ := ofE_zero hE0
        obtain ⟨S, hS⟩ : ∃ S, sortL xs = S := ⟨_, rfl⟩
        have HS := hid hS
        rw [hS] at hR hok hlen l2
        have HRI := hid hR
        have HOK := hid hok
        have L2 := hid l2
        have hS60 : S.length ≤ 60 := by omega
        have hSm : Small S := ⟨by omega, fun x hx => by have := ok_len hok x hx; omega⟩
        have HSm := hid hSm
        have HE0 := hid hE0
        clear hR hok l2 hS hE0 hlen hSm
        go_wp2_with fail
        refine cO.mono ?_
        rintro e w3 ⟨hof, s3⟩
        rcases hof with ⟨hne, _⟩ | ⟨_, v, rfl, o3⟩
        · exact absurd HE0.out hne
        rw [HS.out] at o3
        obtain ⟨ua, uc, rfl, ucap, unil, ur⟩ := o3.row
        have UR := hid ur
        have UN := hid unil.1
        have L3 := hid (L2.out.step s3)
        have S3 := hid (S2.out.trans s3)
        have S13 := hid (S12.out.trans s3)
        clear cO s3 o3 ur unil ucap
        go_wp2_with fail
        refine (items_row p S (by omega) w3 L3.out).mono ?_
        rintro e w4 ⟨a4, c4, rfl, r4, t4⟩
        go_wp2_with fail
        refine (refSame_yes S (by omega) a4 ua c4 uc w4 r4.out (UR.out.step t4.out)).mono ?_
        rintro e w5 ⟨rfl, t5⟩
        have T5 := hid (t4.out.trans t5.out)
        clear r4 t4 t5
        go_wp2_with fail
        refine (len_any p S w5 (L3.out.step T5.out)).mono ?_
        rintro e w5' ⟨rfl, rfl⟩
        go_wp2_with fail
        have cW1 := weight_anyL p S HSm.out w5 (L3.out.step T5.out)
        have cW2 := fun w' (hs : Step noF w3 w') => refWeight_any S (by omega) HSm.out.2 ua uc w' (UR.out.step hs)
        obtain ⟨W, hW⟩ : ∃ W, wtL S = W := ⟨_, rfl⟩
        rw [hW] at cW1 cW2
        clear hW
        refine cW1.mono ?_
        rintro e w6 ⟨rfl, t6⟩
        have T6 := hid (T5.out.trans t6)
        clear t6 cW1
        go_wp2_with fail
        refine (cW2 w6 T6.out).mono ?_
        rintro e w7 ⟨rfl, t7⟩
        have T7 := hid (T6.out.trans t7)
        have b0' := (S13.out.trans T7.out).after b0
        have b1' := (S13.out.trans T7.out).after b1
        clear t7 cW2
        go_wp2_with fail
        refine (within_any p S (by omega) r w7 (L3.out.step T7.out)).mono ?_
        rintro e w8 ⟨q, rfl, _, l8, t8⟩
        have L8 := hid l8
        have T8 := hid (T7.out.trans t8)
        have d0 := t8.after b0'
        have d1 := t8.after b1'
        clear t8 l8 b0' b1' b0 b1
        obtain ⟨X, hX⟩ : ∃ X, withinL r S = X := ⟨_, rfl⟩
        have hXl : X.length ≤ 1000000 := by rw [← hX]; have := within_len r S; omega
        have cR : ∀ w', Step noF w8 w' → Calls Try.prog 19 #[.slice ua S.length uc, .agg #[.string (str r.lo), .string (str r.hi)]] w' fun e w'' => ∃ a' c', e = .returned (.slice a' X.length c') ∧ Hid (RgsAt w'' a' X) ∧ Hid (Step noF w' w'') := fun w' hs => by
          rw [← hX]
          exact refWithin_row S (by omega) r ua uc w' (UR.out.step (T8.out.trans hs))
        rw [hX] at L8
        have cI := fun w' (hs : Step noF w8 w') => items_row q X hXl w' (L8.out.step hs)
        have cS := fun a1 a2 c1 c2 w' h1 h2 => refSame_yes X hXl a1 a2 c1 c2 w' h1 h2
        clear hX
        go_upto_region 14 with fail
        go_cut [106] from 92 (fun s106 wx => s106 = .bool false ∧ Hid (Step noF w8 wx))
        case first =>
          change Code.wp _ (Code.region 14 ((Try.f3.body.bind (regionOps 14)).getD #[]) true) _ _ _
          refine lexr_go q w.heap.size S.length uc ua r.lo r.hi X _ w8 rfl rfl rfl rfl (fun w' hs => ⟨hs.after d0, hs.after d1, ?_, ?_, ?_⟩) ?_
          · refine (cI w' hs).mono ?_
            rintro e w'' ⟨a9, c9, rfl, r9, t9⟩
            exact ⟨_, rfl, t9.out, a9, c9, rfl, r9.out⟩
          · refine (cR w' hs).mono ?_
            rintro e w'' ⟨a9, c9, rfl, r9, t9⟩
            exact ⟨_, rfl, t9.out, a9, c9, rfl, r9.out⟩
          · intro a1 k1 a2 k2 h1 h2
            refine (cS a1 a2 k1 k2 w' h1 h2).mono ?_
            rintro e w'' ⟨rfl, t9⟩
            exact ⟨rfl, t9.out⟩
          · intro aa w' hs hd hz hfr h106
            obtain ⟨g, rfl, hg⟩ := meet_LE aa _ lexrDl hd rfl hz hfr
            have h106' : g 106 = .bool false := (hg 106).trans h106
            clear hg h106 hfr hd hz
            go_wp2_with fail
            go_meet
            exact ⟨h106', hs⟩
        case rest =>
        obtain ⟨rfl, U8⟩ := hcut
        have T9 := hid (T8.out.trans U8.out)
        clear cI cR cS hXl L8 d0 d1 U8 T8
        go_wp2_with fail
        refine (with_any p S HRI.out HOK.out (by omega) ms (fun m hm => (HMQ.out m hm).2) (by omega) b d HD.out wc (L3.out.step T9.out) (HMR.out.step (S3.out.trans T9.out) (fun _ h => h))).mono ?_
        rintro e wd ⟨hw, td⟩
        have TD := hid (T9.out.trans td)
        have cV := refWith_any S HRI.out HOK.out (by omega) ms (by omega) ua uc UN.out b d wd (UR.out.step TD.out) (HMR.out.step (S3.out.trans TD.out) (fun _ h => h))
        clear td
        rcases hw with ⟨hall, rfl⟩ | ⟨hall, q2, rfl, _, l2⟩
        · have HALL := hid hall
          clear hall
          go_wp2_with fail
          refine cV.mono ?_
          rintro e we ⟨hv, te⟩
          rcases hv with ⟨_, rfl⟩ | ⟨h1, _⟩
          · have TE := hid (TD.out.trans te)
            clear te cV
            go_wp2_with fail
            go_ret
            exact ⟨rfl, S3.out.trans TE.out⟩
          · exact absurd h1 (by rw [HALL.out]; simp)
        · have HALL := hid hall
          have HIS : Hid (∀ m ∈ ms, m.is = true) := List.all_eq_true.1 hall
          have HNR := hid (withL_rising ms S HRI.out)
          have HNO := hid (withL_ok ms HIS.out S HOK.out)
          have hnl := withL_len ms S
          obtain ⟨N, hN⟩ : ∃ N, withL ms S = N := ⟨_, rfl⟩
          have HN := hid hN
          rw [hN] at HNR HNO hnl l2
          have hNl : N.length ≤ 1000000 := by omega
          have LN := hid l2
          have HNS : Hid (Small N) := ⟨hNl, fun x hx => by have := ok_len HNO.out x hx; omega⟩
          clear hall hN hnl l2 HNO
          go_wp2_with fail
          refine cV.mono ?_
          rintro e we ⟨hv, te⟩
          rcases hv with ⟨h1, _⟩ | ⟨_, na, nc, rfl, _, nr⟩
          · exact absurd HALL.out (by rw [h1]; simp)
          rw [HN.out] at nr ⊢
          have NR := hid nr
          have LE := hid (LN.out.step te)
          have TE := hid (TD.out.trans te)
          clear te cV nr
          go_wp2_with fail
          refine (items_row q2 N hNl we LE.out).mono ?_
          rintro e w4 ⟨a4, c4, rfl, r4, t4⟩
          go_wp2_with fail
          refine (refSame_yes N hNl a4 na c4 nc w4 r4.out (NR.out.step t4.out)).mono ?_
          rintro e w5 ⟨rfl, t5⟩
          have T5 := hid (t4.out.trans t5.out)
          clear r4 t4 t5
          go_wp2_with fail
          refine (items_row p S (by omega) w5 (L3.out.step (TE.out.trans T5.out))).mono ?_
          rintro e w6 ⟨a6, c6, rfl, r6, t6⟩
          go_wp2_with fail
          refine (refSame_yes S (by omega) a6 ua c6 uc w6 r6.out (UR.out.step ((TE.out.trans T5.out).trans t6.out))).mono ?_
          rintro e w7 ⟨rfl, t7⟩
          have T7 := hid ((T5.out.trans t6.out).trans t7.out)
          clear r6 t6 t7
          go_wp2_with fail
          have cW1 := weight_anyL q2 N HNS.out w7 (LE.out.step T7.out)
          have cW2 := fun w' (hs : Step noF we w') => refWeight_any N hNl HNS.out.2 na nc w' (NR.out.step hs)
          obtain ⟨W, hW⟩ : ∃ W, wtL N = W := ⟨_, rfl⟩
          rw [hW] at cW1 cW2
          clear hW
          refine cW1.mono ?_
          rintro e w8 ⟨rfl, t8⟩
          have T8 := hid (T7.out.trans t8)
          clear t8 cW1
          go_wp2_with fail
          refine (cW2 w8 T8.out).mono ?_
          rintro e w9 ⟨rfl, t9⟩
          have T9 := hid (T8.out.trans t9)
          clear t9 cW2
          go_wp2_with fail
          go_loopw [21, 18, 19, 20] (fun i lo va ha wr => ∃ (j : Nat) (x y : List UInt8) (z : Bool), j ≤ N.length ∧ i = .int .i64 j ∧ lo = .string (str x) ∧ va = .string (str y) ∧ ha = .bool z ∧ Hid (x = lowL (N.take j) ∧ y = (findL k (N.take j)).getD [] ∧ z = (findL k (N.take j)).isSome) ∧ Hid (Step noF we wr)) (fun i _ _ _ _ => N.length - (intOf i).toNat)
          case atStart => exact ⟨0, [], [], false, Nat.zero_le _, rfl, rfl, rfl, rfl, ⟨rfl, rfl, rfl⟩, T9⟩
          case round =>
            obtain ⟨j, x, y, z, hj, rfl, rfl, rfl, rfl, HI, ST⟩ := hrel
            by_cases hjl : j < N.length
            · have hjz : (j : Int) < (N.length : Int) := by omega
              obtain ⟨g, off, rfl, c0, c1⟩ := (NR.out.step ST.out).at j hjl
              have HL := hid (low_take N j hjl)
              have HH : Hid (N[j].lo = k → findL k (N.take (j + 1)) = some N[j].hi) := fun e => by
                have := (rest_hit N HNR.out j hjl).1
                rw [e] at this
                exact this
              have HMI : Hid (N[j].lo ≠ k → findL k (N.take (j + 1)) = findL k (N.take j)) := fun e => (rest_miss k N j hjl e).1
              obtain ⟨⟨nx, ny⟩, hnm⟩ : ∃ m, N[j] = m := ⟨_, rfl⟩
              rw [hnm] at c0 c1 HL HH HMI
              clear hnm
              try simp only at c0 c1 HL HH HMI
              by_cases hj0 : j = 0
              · subst hj0
                have HX1 : Hid (nx = lowL (N.take (0 + 1))) := by show _ = _; rw [HL.out, if_pos rfl]
                have hjz0 : (0 : Int) < (N.length : Int) := by omega
                rw [Nat.zero_mul, Nat.add_zero] at c0 c1
                by_cases hk2 : nx = k
                · subst hk2
                  have HF := hid (HH.out rfl)
                  go_wp2_with fail
                  go_roundw
                  case rel => exact ⟨0 + 1, nx, ny, true, by omega, int_eq (by omega), rfl, rfl, rfl, ⟨HX1.out, by rw [HF.out]; rfl, by rw [HF.out]; rfl⟩, ST⟩
                  case measure => simp [intOf]; omega
                · have hkd : decide (nx = k) = false := decide_eq_false hk2
                  have HF := hid (HMI.out hk2)
                  go_wp2_with fail
                  go_roundw
                  case rel => exact ⟨0 + 1, nx, y, z, by omega, int_eq (by omega), rfl, rfl, rfl, ⟨HX1.out, by rw [HF.out]; exact HI.out.2.1, by rw [HF.out]; exact HI.out.2.2⟩, ST⟩
                  case measure => simp [intOf]; omega
              · have hjb : ((j : Int) == 0) = false := by rw [beq_eq_false_iff_ne]; omega
                have HX1 : Hid (x = lowL (N.take (j + 1))) := by show _ = _; rw [HL.out, if_neg hj0]; exact HI.out.1
                by_cases hk2 : nx = k
                · subst hk2
                  have HF := hid (HH.out rfl)
                  go_wp2_with fail
                  go_roundw
                  case rel => exact ⟨j + 1, x, ny, true, by omega, int_eq (by omega), rfl, rfl, rfl, ⟨HX1.out, by rw [HF.out]; rfl, by rw [HF.out]; rfl⟩, ST⟩
                  case measure => simp [intOf]; omega
                · have hkd : decide (nx = k) = false := decide_eq_false hk2
                  have HF := hid (HMI.out hk2)
                  go_wp2_with fail
                  go_roundw
                  case rel => exact ⟨j + 1, x, y, z, by omega, int_eq (by omega), rfl, rfl, rfl, ⟨HX1.out, by rw [HF.out]; exact HI.out.2.1, by rw [HF.out]; exact HI.out.2.2⟩, ST⟩
                  case measure => simp [intOf]; omega
            · obtain rfl : j = N.length := by omega
              rw [List.take_of_length_le (Nat.le_refl _)] at HI
              have cF : Calls Try.prog 22 #[.pointer (some ⟨q2, 0, none⟩), .string (str k)] wr fun e w' => e = .returned (.tuple #[.string (str y), .bool z]) ∧ Step noF wr w' := by
                have := find_any q2 N hNl HNR.out k wr (LE.out.step ST.out)
                unfold findV at this
                rw [← HI.out.2.1, ← HI.out.2.2] at this
                exact this
              go_wp2_with fail
              refine cF.mono ?_
              rintro e w4 ⟨rfl, t4⟩
              have T4 := hid (ST.out.trans t4)
              have cL : Calls Try.prog 23 #[.pointer (some ⟨q2, 0, none⟩)] w4 fun e w' => e = .returned (.string (str x)) ∧ w4 = w' := by
                rw [HI.out.1]
                exact low_any q2 N w4 (LE.out.step T4.out)
              clear t4 cF
              go_wp2_with fail
              refine cL.mono ?_
              rintro e w5 ⟨rfl, rfl⟩
              have cS := same_any p q2 S N ⟨by omega, hNl⟩ w4 (L3.out.step (TE.out.trans T4.out)) (LE.out.step T4.out)
              have cQ := fun w' (hs : Step noF we w') => refSame_any S N (by omega) hNl ua na uc nc w' (UR.out.step (TE.out.trans hs)) (NR.out.step hs)
              obtain ⟨D, hD⟩ : ∃ D, sameB S N = D := ⟨_, rfl⟩
              have hD2 : eqB S N = D := hD
              rw [hD] at cS
              rw [hD2] at cQ
              clear hD hD2 cL
              go_wp2_with fail
              refine cS.mono ?_
              rintro e w6 ⟨rfl, t6⟩
              have T6 := hid (T4.out.trans t6)
              clear t6 cS
              go_wp2_with fail
              refine (cQ w6 T6.out).mono ?_
              rintro e w7 ⟨rfl, t7⟩
              have T7 := hid (T6.out.trans t7)
              clear t7 cQ
              go_wp2_with fail
              go_ret
              refine ⟨?_, S3.out.trans (TE.out.trans T7.out)⟩
              cases D <;> rfl
end Go.Proofs.Ytclaagihmpghnaa
