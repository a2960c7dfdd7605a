/-
  The document's Stamp (of whatever it is asked) and Read.
-/
import Derived.Test.YthdcmobnookhdaaDoorSlabS
namespace Go.Proofs.YthdcmobnookhdaaDoor
open Go.RowKit
set_option linter.unusedVariables false

set_option maxHeartbeats 1000000 in
theorem refStamp_any (e q : Int) (s : List UInt8) (hs : s.length ≤ 9223372036854775807) (w : World) :
    Calls Tryd.prog 13 #[.int .i64 e, .int .i64 q, .string (str s)] w fun r w' => r = .returned (.tuple #[.string (str (stmS e q s)), .bool (stmB e q s)]) ∧ Step noF w w' := by
  by_cases hB : stmB e q s = true
  · have h2 := hB
    rw [stmB, Bool.and_eq_true, decide_eq_true_eq] at h2
    rw [stmS, if_pos hB, hB]
    have hc2 := h2.2
    simp only [canS, decide_eq_true_eq] at hc2
    obtain ⟨e, rfl⟩ := Int.eq_ofNat_of_zero_le (show 0 ≤ e by omega)
    obtain ⟨q, rfl⟩ := Int.eq_ofNat_of_zero_le (show 0 ≤ q by omega)
    exact refStamp_good e q s h2.1 h2.2 w
  · have HB : Hid (stmS e q s = [] ∧ stmB e q s = false) := by
      have : stmB e q s = false := by simpa using hB
      exact ⟨by rw [stmS, this]; rfl, this⟩
    rw [HB.out.1, HB.out.2]
    have hfc : (frB 224 s && canS e q) = false := by rw [← stmB_fr]; exact HB.out.2
    clear hB
    cases hfr : frB 224 s
    · have HF := hid hfr
      clear hfr hfc
      go_enter Tryd.func13, Tryd.ntmps13
      go_wp2_with fail
      refine (refFrame_call 224 (by omega) (by omega) s hs _ 224 rfl _ rfl _ rfl false HF.out).mono ?_
      rintro r w1 ⟨rfl, s1⟩
      go_wp2_with fail
      go_ret2
      exact ⟨rfl, s1⟩
    · rw [hfr, Bool.true_and] at hfc
      have HF := hid hfr
      simp only [canS, decide_eq_false_iff_not] at hfc
      clear hfr
      by_cases c1 : e < 1
      · clear hfc
        go_enter Tryd.func13, Tryd.ntmps13
        go_wp2_with fail
        refine (refFrame_call 224 (by omega) (by omega) s hs _ 224 rfl _ rfl _ rfl true HF.out).mono ?_
        rintro r w1 ⟨rfl, s1⟩
        go_wp2_with fail
        go_ret2
        exact ⟨rfl, s1⟩
      · by_cases c2 : 2147483647 < e
        · clear hfc
          go_enter Tryd.func13, Tryd.ntmps13
          go_wp2_with fail
          refine (refFrame_call 224 (by omega) (by omega) s hs _ 224 rfl _ rfl _ rfl true HF.out).mono ?_
          rintro r w1 ⟨rfl, s1⟩
          go_wp2_with fail
          go_ret2
          exact ⟨rfl, s1⟩
        · by_cases c3 : q < 0
          · clear hfc
            go_enter Tryd.func13, Tryd.ntmps13
            go_wp2_with fail
            refine (refFrame_call 224 (by omega) (by omega) s hs _ 224 rfl _ rfl _ rfl true HF.out).mono ?_
            rintro r w1 ⟨rfl, s1⟩
            go_wp2_with fail
            go_ret2
            exact ⟨rfl, s1⟩
          · have c4 : 2147483647 < q := by omega
            clear hfc
            go_enter Tryd.func13, Tryd.ntmps13
            go_wp2_with fail
            refine (refFrame_call 224 (by omega) (by omega) s hs _ 224 rfl _ rfl _ rfl true HF.out).mono ?_
            rintro r w1 ⟨rfl, s1⟩
            go_wp2_with fail
            go_ret2
            exact ⟨rfl, s1⟩

set_option maxHeartbeats 1000000 in
theorem refRead_any (b : List UInt8) (hb : b.length = 256) (w : World) :
    Calls Tryd.prog 16 #[.string (str b)] w fun r w' => r = .returned (.tuple #[.int .i64 (rdP b), .int .i64 (rdQ b), .string (str (rdS b)), .int .i64 (rdR b)]) ∧ Step noF w w' := by
  have hsz : (str b).size = 256 := by rw [str_size, hb]
  have HB := hid hb
  clear hb
  have HX : Hid (∀ j, ((str b).extract (64 * j) (64 * j + 8)).toList = hd8 b j ∧ ((str b).extract 0 8).toList = b.take 8) := by
    intro j
    rw [str_extract, str_extract, ByteArray.toList_eq, ByteArray.toList_eq, str_list, str_list, hd8, List.drop_take, show 64 * j + 8 - 64 * j = 8 by omega]
    exact ⟨rfl, rfl⟩
  go_enter Tryd.func16, Tryd.ntmps16
  go_wp2_with fail
  go_loopw [6, 7] (fun t i wr => ∃ j : Nat, j ≤ 4 ∧ i = .int .i64 j ∧ t = .string (str (gat b j)) ∧ Step noF w wr ∧ Hid (∀ i, i < j → hd8 b i = b.take 8)) (fun _ i _ => 4 - (intOf i).toNat)
  case atStart => exact ⟨0, by omega, rfl, rfl, Step.refl _ _, fun i hi => by omega⟩
  case round =>
    obtain ⟨j, hj, rfl, rfl, hst, hall⟩ := hrel
    by_cases hlt : j < 4
    · obtain ⟨A, hA⟩ : ∃ A, 64 * j = A := ⟨_, rfl⟩
      have a1 : (64 : Int) * (j : Int) = (A : Int) := by omega
      have a2 : (A : Int) ≤ 192 := by omega
      obtain ⟨X, hX⟩ : ∃ X, (str b).extract A (A + 8) = X := ⟨_, rfl⟩
      obtain ⟨Y, hY⟩ : ∃ Y, (str b).extract 0 8 = Y := ⟨_, rfl⟩
      have q1 : X.toList = hd8 b j := by rw [← hX, ← hA]; exact (HX.out j).1
      have q2 : Y.toList = b.take 8 := by rw [← hY]; exact (HX.out 0).2
      have HG : Hid (str (gat b j) ++ (str b).extract (A + 8) (A + 64) = str (gat b (j + 1))) := by
        show _ = _
        rw [str_extract, List.drop_take, show A + 64 - (A + 8) = 56 by omega, str_app, gat, pc56, hA]
      have hL : (str (gat b j)).size ≤ 256 := by rw [str_size, gat_length (by rw [HB.out]; omega)]; omega
      have z3 : ((str b).extract (A + 8) (A + 64)).size = 56 := by rw [ByteArray.size_extract, hsz]; omega
      obtain ⟨L, hL2⟩ : ∃ L, str (gat b j) = L := ⟨_, rfl⟩
      rw [hL2] at HG hL ⊢
      clear hA hL2
      by_cases hsame : hd8 b j = b.take 8
      · have hq : (X.toList == Y.toList) = true := by rw [q1, q2, hsame]; simp
        have HQ : Hid (∀ i, i < j + 1 → hd8 b i = b.take 8) := fun i hi => by
          by_cases e : i = j
          · rw [e, hsame]
          · exact hall.out i (by omega)
        clear q1 q2 hsame
        go_wp2_with fail
        have w3 : wrap64 (A : Int) = (A : Int) := by unfold wrap64; omega
        have w1 : wrap64 ((A : Int) + 8) = (A : Int) + 8 := by clear w3; unfold wrap64; omega
        have w4 : IntKind.i64.wrap (A : Int) = (A : Int) := by clear w1 w3; rw [IntKind.wrap_i64]; omega
        have w2 : IntKind.i64.wrap ((A : Int) + 8) = (A : Int) + 8 := by clear w1 w3 w4; rw [IntKind.wrap_i64]; omega
        go_quiet (fail)
        clear w1 w2 w3 w4
        go_wp2_with fail
        go_roundw
        case rel => exact ⟨j + 1, by omega, by go_num, by rw [← HG.out], hst.drewN _, HQ⟩
        case measure => simp [intOf]; omega
      · have hq : (X.toList == Y.toList) = false := by rw [q1, q2]; simpa using hsame
        have HR : Hid (rdP b = 0 ∧ rdQ b = 0 ∧ rdS b = [] ∧ rdR b = 5) := by
          have hs : same b = false := by
            simp only [same, decide_eq_false_iff_not]
            rintro ⟨h1, h2, h3⟩
            match j, hlt, hsame with
            | 0, _, h => exact h (by simp [hd8])
            | 1, _, h => exact h h1
            | 2, _, h => exact h h2
            | 3, _, h => exact h h3
          have h5 : rdR b = 5 := by unfold rdR; rw [hs]; rfl
          exact ⟨by rw [rdP, h5]; rfl, by rw [rdQ, h5]; rfl, by rw [rdS, h5]; rfl, h5⟩
        clear q1 q2 hsame
        go_wp2_with fail
        have w3 : wrap64 (A : Int) = (A : Int) := by unfold wrap64; omega
        have w1 : wrap64 ((A : Int) + 8) = (A : Int) + 8 := by clear w3; unfold wrap64; omega
        have w4 : IntKind.i64.wrap (A : Int) = (A : Int) := by clear w1 w3; rw [IntKind.wrap_i64]; omega
        have w2 : IntKind.i64.wrap ((A : Int) + 8) = (A : Int) + 8 := by clear w1 w3 w4; rw [IntKind.wrap_i64]; omega
        go_quiet (fail)
        clear w1 w2 w3 w4
        go_wp2_with fail
        refine bodyPost_ret (results_tmp4 rfl _ _ _) rfl ?_
        exact ⟨by rw [HR.out.1, HR.out.2.1, HR.out.2.2.1, HR.out.2.2.2]; rfl, hst.drewN _⟩
    · obtain rfl : j = 4 := by omega
      have hs : same b = true := by
        simp only [same, decide_eq_true_eq]
        exact ⟨hall.out 1 (by omega), hall.out 2 (by omega), hall.out 3 (by omega)⟩
      have hR : rdR b = if canS (epo b) (num b) then unfE (gat b 4) else 5 := by rw [rdR, hs, Bool.true_and]
      have l8 : (b.take 8).length = 8 := by rw [List.length_take, HB.out]; omega
      have A1 : Hid (numVal (4 : Nat) (b.take 8) = (epo b : Int) ∧ numL (4 : Nat) (b.take 8) = (b.take 8).drop 4 ∧ numE (4 : Nat) (b.take 8) 0 = 0) := by
        have := num_at 4 (by omega) (b.take 8) 0 (by omega)
        rw [List.take_take] at this; exact this
      have A2 : Hid (numVal (4 : Nat) ((b.take 8).drop 4) = (num b : Int) ∧ numL (4 : Nat) ((b.take 8).drop 4) = ((b.take 8).drop 4).drop 4 ∧ numE (4 : Nat) ((b.take 8).drop 4) 0 = 0) := by
        have := num_at 4 (by omega) ((b.take 8).drop 4) 0 (by rw [List.length_drop]; omega)
        rw [show ((b.take 8).drop 4).take 4 = (b.drop 4).take 4 by rw [List.drop_take, List.take_take]; rfl] at this; exact this
      have L1 : Hid ((b.take 8).length ≤ maxLen) := by show _ ≤ _; rw [l8]; unfold maxLen; omega
      have L2 : Hid (((b.take 8).drop 4).length ≤ maxLen) := by show _ ≤ _; rw [List.length_drop, l8]; unfold maxLen; omega
      have HY : Hid ((str b).extract 0 8 = str (b.take 8)) := by show _ = _; rw [str_extract]; simp
      have HGL : Hid ((gat b 4).length = 224) := gat_length (by rw [HB.out]; omega)
      obtain ⟨e, he⟩ : ∃ e, epo b = e := ⟨_, rfl⟩
      obtain ⟨q, hq⟩ : ∃ q, num b = q := ⟨_, rfl⟩
      have he4 : e < 4294967296 := by rw [← he]; exact take4_lt b
      have hq4 : q < 4294967296 := by rw [← hq]; exact take4_lt _
      have HEQ : Hid (epo b = e ∧ num b = q) := ⟨he, hq⟩
      rw [he] at A1 hR
      rw [hq] at A2 hR
      clear HX hs l8 he hq hall
      go_wp2_with fail
      refine (refInNum_call 4 _ _ 0 _ (refIn_new wr _ _ HY.out) L1.out _ _ _ A1.out.1 A1.out.2.1 A1.out.2.2).mono ?_
      rintro r w1 ⟨rfl, s1, i1⟩
      go_wp2_with fail
      refine (refInNum_call 4 _ _ 0 _ i1 L2.out _ _ _ A2.out.1 A2.out.2.1 A2.out.2.2).mono ?_
      rintro r w2 ⟨rfl, s2, i2⟩
      have t2 : Step noF w w2 := (hst.alloc _).fresh (s1.trans s2) (fun i hi => by have : i = wr.heap.size := hi; have := hst.size; omega)
      clear s1 s2 i1 i2
      by_cases hc : canS e q = true
      · have hc2 := hc
        simp only [canS, decide_eq_true_eq] at hc2
        have c1 : ¬ (e : Int) < 1 := by omega
        have c2 : ¬ (2147483647 : Int) < (e : Int) := by omega
        have c4 : ¬ (2147483647 : Int) < (q : Int) := by omega
        rw [if_pos hc] at hR
        clear hc hc2
        obtain ⟨x, hx⟩ : ∃ x, unfE (gat b 4) = x := ⟨_, rfl⟩
        rw [hx] at hR
        have HX := hid hx
        clear hx
        by_cases h0 : x = 0
        · subst h0
          have HR : Hid (rdP b = e ∧ rdQ b = q ∧ rdS b = unfS (gat b 4) ∧ rdR b = 0) :=
            ⟨by rw [rdP, if_pos hR, HEQ.out.1], by rw [rdQ, if_pos hR, HEQ.out.2], by rw [rdS, if_pos hR], hR⟩
          clear hR
          go_wp2_with fail
          refine (refOpen_any (gat b 4) (by rw [HGL.out]; omega) (by rw [HGL.out]; omega) _).mono ?_
          rintro r w3 ⟨rfl, s3⟩
          rw [HX.out]
          go_wp2_with fail
          refine bodyPost_ret (results_tmp4 rfl _ _ _) rfl ?_
          exact ⟨by rw [HR.out.1, HR.out.2.1, HR.out.2.2.1, HR.out.2.2.2]; rfl, t2.trans s3⟩
        · have HR : Hid (rdP b = 0 ∧ rdQ b = 0 ∧ rdS b = [] ∧ rdR b = x) := by
            have h5 : ¬ rdR b = 0 := by rw [hR]; exact h0
            exact ⟨by rw [rdP, if_neg h5], by rw [rdQ, if_neg h5], by rw [rdS, if_neg h5], hR⟩
          clear hR
          go_wp2_with fail
          refine (refOpen_any (gat b 4) (by rw [HGL.out]; omega) (by rw [HGL.out]; omega) _).mono ?_
          rintro r w3 ⟨rfl, s3⟩
          rw [HX.out]
          go_wp2_with fail
          refine bodyPost_ret (results_tmp4 rfl _ _ _) rfl ?_
          exact ⟨by rw [HR.out.1, HR.out.2.1, HR.out.2.2.1, HR.out.2.2.2]; rfl, t2.trans s3⟩
      · rw [if_neg hc] at hR
        have HR : Hid (rdP b = 0 ∧ rdQ b = 0 ∧ rdS b = [] ∧ rdR b = 5) :=
          ⟨by rw [rdP, hR]; rfl, by rw [rdQ, hR]; rfl, by rw [rdS, hR]; rfl, hR⟩
        have hc2 : ¬ canS e q = true := hc
        simp only [canS, decide_eq_true_eq] at hc2
        clear hR hc
        by_cases c1 : (e : Int) < 1
        · clear hc2
          go_wp2_with fail
          refine bodyPost_ret (results_tmp4 rfl _ _ _) rfl ?_
          exact ⟨by rw [HR.out.1, HR.out.2.1, HR.out.2.2.1, HR.out.2.2.2]; rfl, t2⟩
        · by_cases c2 : (2147483647 : Int) < (e : Int)
          · clear hc2
            go_wp2_with fail
            refine bodyPost_ret (results_tmp4 rfl _ _ _) rfl ?_
            exact ⟨by rw [HR.out.1, HR.out.2.1, HR.out.2.2.1, HR.out.2.2.2]; rfl, t2⟩
          · have c4 : (2147483647 : Int) < (q : Int) := by omega
            clear hc2
            go_wp2_with fail
            refine bodyPost_ret (results_tmp4 rfl _ _ _) rfl ?_
            exact ⟨by rw [HR.out.1, HR.out.2.1, HR.out.2.2.1, HR.out.2.2.2]; rfl, t2⟩
end Go.Proofs.YthdcmobnookhdaaDoor
