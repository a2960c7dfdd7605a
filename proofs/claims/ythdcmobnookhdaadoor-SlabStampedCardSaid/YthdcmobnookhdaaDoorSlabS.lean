/-
  The document's Open, Stamp and Read.
-/
import Derived.Test.YthdcmobnookhdaaDoorSlabR
namespace Go.Proofs.YthdcmobnookhdaaDoor
open Go.RowKit
set_option linter.unusedVariables false

theorem refFrame_call (size : Nat) (h6 : 6 ≤ size) (hz : size ≤ 1000) (s : List UInt8) (hl : s.length ≤ 9223372036854775807) (w : World) (z : Int) (hzz : z = size) (S : ByteArray) (hS : str s = S) (X : ByteArray) (hX : str (frS size s) = X) (b : Bool) (hb : frB size s = b) :
    Calls Tryd.prog 9 #[.int .i64 z, .string S] w fun e w' => e = .returned (.tuple #[.string X, .bool b]) ∧ Step noF w w' := by
  subst hzz hS hX hb
  exact refFrame_any size h6 hz s hl w
theorem refIn_new (w : World) (l : List UInt8) (S : ByteArray) (hS : S = str l) : IsRef (w.alloc (.cells #[.string S, .bool false] 50)) w.heap.size l 0 :=
  ⟨by subst hS; exact block_alloc_new _ _, .inl rfl, fun h => by cases h⟩
theorem refInNum_call (wd : Int) (p : Nat) (l : List UInt8) (e0 : Int) (w : World) (h : IsRef w p l e0) (hl : l.length ≤ maxLen) (r : Int) (l2 : List UInt8) (e2 : Int) (h1 : numVal wd l = r) (h2 : numL wd l = l2) (h3 : numE wd l e0 = e2) :
    Calls Tryd.prog 21 #[.pointer (some ⟨p, 0, none⟩), .int .i64 wd] w fun e w' => e = .returned (.int .i64 r) ∧ Step (oneF p) w w' ∧ IsRef w' p l2 e2 := by
  subst h1 h2 h3
  exact refInNum_any wd p l e0 w h hl

set_option maxHeartbeats 1000000 in
theorem refOpen_any (f : List UInt8) (h6 : 6 ≤ f.length) (hf : f.length ≤ 1000) (w : World) :
    Calls Tryd.prog 11 #[.string (str f)] w fun e w' => e = .returned (.tuple #[.string (str (unfS f)), .int .i64 (unfE f)]) ∧ Step noF w w' := by
  have hsz := str_size f
  obtain ⟨n, hn⟩ : ∃ n, lenF f = n := ⟨_, rfl⟩
  have hnl : n < 65536 := by rw [← hn]; exact lenF_lt f
  have l2 : ((f.drop 4).take 2).length = 2 := by rw [List.length_take, List.length_drop]; omega
  have A2 : Hid (numVal (2 : Nat) ((f.drop 4).take 2) = n ∧ numL (2 : Nat) ((f.drop 4).take 2) = [] ∧ numE (2 : Nat) ((f.drop 4).take 2) 0 = 0) := by
    have := num_at 2 (by omega) ((f.drop 4).take 2) 0 (by omega)
    rw [List.take_of_length_le (i := 2) (l := (f.drop 4).take 2) (by omega), List.drop_of_length_le (i := 2) (l := (f.drop 4).take 2) (by omega), ← lenF, hn] at this
    exact this
  have HX : Hid ((str f).extract 4 6 = str ((f.drop 4).take 2)) := by show _ = _; rw [str_extract, List.drop_take]
  have L2 : Hid (((f.drop 4).take 2).length ≤ maxLen) := by show _ ≤ _; rw [l2]; unfold maxLen; omega
  have k6 : (6 : Int) ≤ (f.length : Int) := by omega
  clear l2
  by_cases hfit : n + 6 ≤ f.length
  · have hfit2 : lenF f + 6 ≤ f.length := by omega
    have hE : unfE f = if f = frm f.length (txtF f) then 0 else 6 := by rw [unfE, if_pos hfit2]
    have HT : Hid ((str f).extract 6 (6 + n) = str (txtF f)) := by show _ = _; rw [str_extract, List.drop_take, txtF, hn, show 6 + n - 6 = n by omega]
    have htl : (txtF f).length + 6 ≤ f.length := by rw [txtF, List.length_take, List.length_drop, hn]; omega
    have HB : Hid (frB f.length (txtF f) = true ∧ frS f.length (txtF f) = frm f.length (txtF f)) := by
      have : frB f.length (txtF f) = true := by simp [frB, htl]
      exact ⟨this, if_pos this⟩
    have k1 : ¬ (f.length : Int) - 6 < (n : Int) := by omega
    have k2 : (6 : Int) + (n : Int) ≤ (f.length : Int) := by omega
    have HTL := hid htl
    clear htl hfit2 hn
    obtain ⟨g, hg⟩ : ∃ g, frm f.length (txtF f) = g := ⟨_, rfl⟩
    rw [hg] at hE HB
    by_cases he : f = g
    · have U : Hid (unfE f = 0 ∧ unfS f = txtF f) := by
        have h0 : unfE f = 0 := by rw [hE, if_pos he]
        exact ⟨h0, by rw [unfS, if_pos h0]⟩
      have H2 : ((str g).toList == (str f).toList) = true := by rw [str_beq]; simp [he]
      clear hE hg he
      go_enter Tryd.func11, Tryd.ntmps11
      go_wp2_with fail
      refine (refInNum_call 2 _ _ 0 _ (refIn_new w _ _ HX.out) L2.out _ _ _ A2.out.1 A2.out.2.1 A2.out.2.2).mono ?_
      rintro e w1 ⟨rfl, s1, _⟩
      have t1 : Step noF w w1 := ((Step.refl noF w).alloc _).fresh s1 (fun i hi => Nat.le_of_eq hi.symm)
      clear s1
      go_wp2_with fail
      refine (refFrame_call f.length h6 hf (txtF f) (by have := HTL.out; omega) _ _ rfl _ HT.out.symm (str g) (by rw [HB.out.2]) true HB.out.1).mono ?_
      rintro e w2 ⟨rfl, s2⟩
      go_wp2_with fail
      go_ret2
      exact ⟨by rw [U.out.1, U.out.2, ← HT.out]; rfl, t1.trans s2⟩
    · have U : Hid (unfE f = 6 ∧ unfS f = []) := by
        have h0 : unfE f = 6 := by rw [hE, if_neg he]
        exact ⟨h0, by rw [unfS, h0]; rfl⟩
      have H2 : ((str g).toList == (str f).toList) = false := by rw [str_beq]; simp; exact fun h => he h.symm
      clear hE hg he
      go_enter Tryd.func11, Tryd.ntmps11
      go_wp2_with fail
      refine (refInNum_call 2 _ _ 0 _ (refIn_new w _ _ HX.out) L2.out _ _ _ A2.out.1 A2.out.2.1 A2.out.2.2).mono ?_
      rintro e w1 ⟨rfl, s1, _⟩
      have t1 : Step noF w w1 := ((Step.refl noF w).alloc _).fresh s1 (fun i hi => Nat.le_of_eq hi.symm)
      clear s1
      go_wp2_with fail
      refine (refFrame_call f.length h6 hf (txtF f) (by have := HTL.out; omega) _ _ rfl _ HT.out.symm (str g) (by rw [HB.out.2]) true HB.out.1).mono ?_
      rintro e w2 ⟨rfl, s2⟩
      go_wp2_with fail
      go_ret2
      exact ⟨by rw [U.out.1, U.out.2]; rfl, t1.trans s2⟩
  · have U : Hid (unfE f = 5 ∧ unfS f = []) := by
      have h0 : unfE f = 5 := by rw [unfE, if_neg (by omega)]
      exact ⟨h0, by rw [unfS, h0]; rfl⟩
    have k1 : (f.length : Int) - 6 < (n : Int) := by omega
    clear hfit hn
    go_enter Tryd.func11, Tryd.ntmps11
    go_wp2_with fail
    refine (refInNum_call 2 _ _ 0 _ (refIn_new w _ _ HX.out) L2.out _ _ _ A2.out.1 A2.out.2.1 A2.out.2.2).mono ?_
    rintro e w1 ⟨rfl, s1, _⟩
    have t1 : Step noF w w1 := ((Step.refl noF w).alloc _).fresh s1 (fun i hi => Nat.le_of_eq hi.symm)
    clear s1
    go_wp2_with fail
    go_ret2
    exact ⟨by rw [U.out.1, U.out.2]; rfl, t1⟩

theorem stmB_fr (e q : Int) (s : List UInt8) : stmB e q s = (frB 224 s && canS e q) := by
  unfold stmB frB
  congr 1
  rw [Bool.eq_iff_iff]; simp

set_option maxHeartbeats 1000000 in
theorem refStamp_good (e q : Nat) (s : List UInt8) (hs : s.length ≤ 218) (hc : canS e q = true) (w : World) :
    Calls Tryd.prog 13 #[.int .i64 e, .int .i64 q, .string (str s)] w fun r w' => r = .returned (.tuple #[.string (str (stp e q s)), .bool true]) ∧ Step noF w w' := by
  simp only [canS, decide_eq_true_eq] at hc
  have c1 : ¬ (e : Int) < 1 := by omega
  have c2 : ¬ (2147483647 : Int) < (e : Int) := by omega
  have c3 : ¬ (q : Int) < 0 := by omega
  have c4 : ¬ (2147483647 : Int) < (q : Int) := by omega
  have he : e < 4294967296 := by omega
  have hq : q < 4294967296 := by omega
  have HB : Hid (frB 224 s = true ∧ frS 224 s = frm 224 s) := by
    have : frB 224 s = true := by simp [frB]; omega
    exact ⟨this, if_pos this⟩
  obtain ⟨f, hf⟩ : ∃ f, frm 224 s = f := ⟨_, rfl⟩
  have HFL : (str f).size = 224 := by rw [str_size, ← hf]; exact frm_length (by omega)
  have HFL2 : Hid (f.length = 224) := by show _ = _; rw [← hf]; exact frm_length (by omega)
  have HST : Hid (stp e q s = secs e q f 4) := by show _ = _; rw [stp, hf]
  rw [hf] at HB
  have HS := hid hs
  have hb4 : (str (be 4 e)).size = 4 := by rw [str_size, be_length]
  have hb5 : (str (be 4 q)).size = 4 := by rw [str_size, be_length]
  clear hf hs hc
  go_enter Tryd.func13, Tryd.ntmps13
  go_wp2_with fail
  refine (refFrame_call 224 (by omega) (by omega) s (by have := HS.out; omega) _ 224 rfl _ rfl (str f) (by rw [HB.out.2]) true HB.out.1).mono ?_
  rintro r w1 ⟨rfl, s1⟩
  go_wp2_with fail
  refine (refNum_call 4 e (by omega) (by omega) (by omega) _ 4 rfl).mono ?_
  rintro r w2 ⟨rfl, s2⟩
  go_wp2_with fail
  refine (refNum_call 4 q (by omega) (by omega) (by omega) _ 4 rfl).mono ?_
  rintro r w3 ⟨rfl, s3⟩
  have t3 := (s1.trans s2).trans s3
  clear s1 s2 s3
  go_wp2_with fail
  go_loop [14, 15] (fun t i => ∃ j : Nat, j ≤ 4 ∧ i = .int .i64 j ∧ t = .string (str (secs e q f j))) (fun _ i => 4 - (intOf i).toNat)
  case atStart => exact ⟨0, by omega, rfl, rfl⟩
  case round =>
    obtain ⟨j, hj, rfl, rfl⟩ := hrel
    by_cases hlt : j < 4
    · obtain ⟨A, hA⟩ : ∃ A, 56 * j = A := ⟨_, rfl⟩
      have HX : Hid (str (secs e q f j) ++ str (be 4 e) ++ str (be 4 q) ++ (str f).extract A (A + 56) = str (secs e q f (j + 1))) := by
        show _ = _
        rw [str_extract, List.drop_take, show A + 56 - A = 56 by omega, str_app, str_app, str_app, secs, sec, hA]
        simp
      have a1 : (56 : Int) * (j : Int) = (A : Int) := by omega
      have a2 : (A : Int) ≤ 168 := by omega
      have hL : (str (secs e q f j)).size ≤ 256 := by rw [str_size, secs_length (by rw [HFL2.out]; omega)]; omega
      obtain ⟨L, hL2⟩ : ∃ L, secs e q f j = L := ⟨_, rfl⟩
      rw [hL2] at HX hL ⊢
      have z1 : (str L ++ str (be 4 e)).size = (str L).size + 4 := by rw [ByteArray.size_append, hb4]
      have z2 : (str L ++ str (be 4 e) ++ str (be 4 q)).size = (str L).size + 8 := by rw [ByteArray.size_append, ByteArray.size_append, hb4, hb5]
      have z3 : ((str f).extract A (A + 56)).size = 56 := by rw [ByteArray.size_extract, HFL]; omega
      clear hA hL2
      go_wp2_with fail
      go_round
      case rel => exact ⟨j + 1, by omega, by go_num, by rw [← HX.out]⟩
      case measure => simp [intOf]; omega
    · obtain rfl : j = 4 := by omega
      go_wp2_with fail
      go_ret2
      exact ⟨by rw [HST.out]; rfl, t3⟩
end Go.Proofs.YthdcmobnookhdaaDoor
