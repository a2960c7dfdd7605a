/-
  What package slab does with stamped blocks: Stamp, Read.
-/
import Derived.Test.YthdcmobnookhdaaDoorSlabB
namespace Go.Proofs.YthdcmobnookhdaaDoor
open Go.RowKit
set_option linter.unusedVariables false

theorem numB2 (e q : Nat) (he : e < 4294967296) (hq : q < 4294967296) : numB (4 : Nat) [(e : Int), (q : Int)] = be 4 e ++ be 4 q ∧ numV (4 : Nat) [(e : Int), (q : Int)] = true := by
  have hv : numV (4 : Nat) [(e : Int), (q : Int)] = true := by
    have h1 := (numB1 4 e (by omega) (by omega)).2
    have h2 := (numB1 4 q (by omega) (by omega)).2
    simp only [numV, List.all_cons, List.all_nil, Bool.and_true, Bool.and_eq_true] at h1 h2 ⊢
    exact ⟨h1.1, h1.2, h2.2⟩
  refine ⟨?_, hv⟩
  rw [numB, if_pos hv, List.flatMap_cons, List.flatMap_cons, List.flatMap_nil, List.append_nil]; rfl

def stmB (e q : Int) (s : List UInt8) : Bool := decide (s.length ≤ 218) && canS e q
def stmE (e q : Int) (s : List UInt8) : Int := if stmB e q s then 0 else 1
def stmS (e q : Int) (s : List UInt8) : List UInt8 := if stmB e q s then stp e.toNat q.toNat s else []

set_option maxHeartbeats 1000000 in
theorem stamp_good (e q : Nat) (s : List UInt8) (hs : s.length ≤ 218) (hc : canS e q = true) (w : World) (ht : Tabs w) :
    Calls Tryd.prog 12 #[.int .i64 e, .int .i64 q, .string (str s)] w fun r w' => r = .returned (.tuple #[.string (str (stp e q s)), .int .i64 0]) ∧ Step noF w w' := by
  have hc2 := hc
  simp only [canS, decide_eq_true_eq] at hc2
  have he : e < 4294967296 := by omega
  have hq : q < 4294967296 := by omega
  have N2 : Hid (numB (4 : Nat) [(e : Int), (q : Int)] = be 4 e ++ be 4 q ∧ numV (4 : Nat) [(e : Int), (q : Int)] = true) := numB2 e q he hq
  have HE : Hid (inI64 [(e : Int), (q : Int)]) := in2 (by omega) (by omega) (by omega) (by omega)
  clear hc2
  have hsz := str_size s
  have hk : ¬ (218 : Int) < (s.length : Int) := by omega
  have HS := hid hs
  have HTB := hid ht
  have HC := hid hc
  obtain ⟨f, hf⟩ : ∃ f, frm 224 s = f := ⟨_, rfl⟩
  have HFL : Hid (f.length = 224) := by show _ = _; rw [← hf]; exact frm_length (by omega)
  have HST : Hid (stp e q s = secs e q f 4) := by show _ = _; rw [stp, hf]
  have HF := hid hf
  clear hf hs ht hc
  go_enter Tryd.func12, Tryd.ntmps12
  go_wp2_with fail
  refine (can_call _ _ _ true HC.out).mono ?_
  rintro r w1 ⟨rfl, rfl⟩
  go_wp2_with fail
  refine (frame_any 224 s (by have := HS.out; omega) (by omega) _ HTB.out).mono ?_
  rintro r w1 ⟨rfl, s1⟩
  rw [HF.out]
  go_wp2_with fail
  refine (of_any f w1).mono ?_
  rintro r w2 ⟨rfl, s2, i2, z2⟩
  have p2 : w1.heap.size < w2.heap.size := by omega
  clear z2
  go_wp2_with fail
  have O0 : Hid (IsOut (w2.alloc (.cells #[.slice none 0 0] 56)) w2.heap.size (oneF w2.heap.size) []) := newOut w2
  have I0 : Hid (IsIn (w2.alloc (.cells #[.slice none 0 0] 56)) w1.heap.size f 0) := i2.alloc _
  have T0 : Hid (Step noF w (w2.alloc (.cells #[.slice none 0 0] 56))) := (s1.trans s2).alloc _
  have p1 := s1.size
  clear i2 s1 s2
  go_loopw [22] (fun i wr => ∃ (j : Nat) (F' : Nat → Prop), j ≤ 4 ∧ i = .int .i64 j ∧ Step noF w wr ∧ IsIn wr w1.heap.size (f.drop (56 * j)) 0 ∧ IsOut wr w2.heap.size F' (secs e q f j) ∧ (∀ k, F' k → w2.heap.size ≤ k)) (fun i _ => 4 - (intOf i).toNat)
  case atStart => exact ⟨0, oneF w2.heap.size, by omega, rfl, T0.out, by simpa using I0.out, O0.out, fun k hk => Nat.le_of_eq hk.symm⟩
  case round =>
    obtain ⟨j, F', hj, rfl, hst, hin, hout, hF'⟩ := hrel
    by_cases hlt : j < 4
    · have R2 : Hid (str (rawV (56 : Nat) (f.drop (56 * j))) = str ((f.drop (56 * j)).take 56) ∧ rawL (56 : Nat) (f.drop (56 * j)) = f.drop (56 * (j + 1)) ∧ rawE (56 : Nat) (f.drop (56 * j)) 0 = 0) := by
        have := raw_at 56 (f.drop (56 * j)) 0 (by rw [List.length_drop, HFL.out]; omega)
        rw [List.drop_drop, show 56 * j + 56 = 56 * (j + 1) by omega] at this; exact this
      have L2 : Hid ((f.drop (56 * j)).length ≤ maxLen) := by show _ ≤ _; rw [List.length_drop, HFL.out]; unfold maxLen; omega
      have LB : Hid ((secs e q f j).length ≤ 256) := by show _ ≤ _; rw [secs_length (by rw [HFL.out]; omega)]; omega
      obtain ⟨P, hP⟩ : ∃ P, (f.drop (56 * j)).take 56 = P := ⟨_, rfl⟩
      have LP : Hid (P.length ≤ 56) := by show _ ≤ _; rw [← hP, List.length_take]; omega
      have HG : Hid (secs e q f j ++ (be 4 e ++ be 4 q) ++ (str P).data.toList = secs e q f (j + 1)) := by show _ = _; rw [str_list, secs, sec, hP, List.append_assoc]
      rw [hP] at R2
      clear hP
      have zo := hout.lt
      have zw := hst.size
      have z2 : w2.heap.size < wr.heap.size := hout.lt _ hout.self
      go_wp2_with fail
      refine (num_call 4 [(e : Int), (q : Int)] 2 rfl HE.out (by simp) _ 2 w2.heap.size F' (secs e q f j) _ (hout.step ((Step.refl noF _).alloc _)) (by have := LB.out; omega) (ints2 _ _ zo _ _ rfl _ _) (secs e q f j ++ (be 4 e ++ be 4 q)) (by rw [← N2.out.1]; rfl) 0 (if_pos N2.out.2)).mono ?_
      rintro r w3 ⟨rfl, F2, s3, o3, f3⟩
      have i3 : IsIn w3 w1.heap.size (f.drop (56 * j)) 0 := (hin.alloc _).mono s3 (fun h => by have := hF' _ h; omega)
      have b2 : ∀ k, F2 k → w2.heap.size ≤ k := fun k hk => by
        rcases f3 k hk with h | h
        · exact hF' k h
        · simp at h; omega
      have t3 : Step noF w w3 := (hst.alloc _).fresh s3 (fun i hi => by have := hF' i hi; omega)
      clear s3 f3 hin hout zo
      go_wp2_with fail
      refine (inRaw_call 56 _ _ 0 _ i3 L2.out _ _ _ R2.out.1 R2.out.2.1 R2.out.2.2).mono ?_
      rintro r w4 ⟨rfl, s4, i4⟩
      have o4 : IsOut w4 w2.heap.size F2 (secs e q f j ++ (be 4 e ++ be 4 q)) := o3.mono s4 (fun k hk h => by have := b2 k hk; have : k = w1.heap.size := h; omega)
      have t4 : Step noF w w4 := t3.fresh s4 (fun i hi => by have : i = w1.heap.size := hi; omega)
      have z4 : w2.heap.size < w4.heap.size := o4.lt _ o4.self
      clear s4 i3 o3 t3
      go_wp2_with fail
      refine (raw_any (str P) w2.heap.size F2 _ w4 o4 (by rw [str_size, List.length_append, List.length_append, be_length, be_length]; have := LB.out; have := LP.out; omega)).mono ?_
      rintro r w5 ⟨rfl, F3, s5, o5, f5⟩
      rw [HG.out] at o5
      have i5 : IsIn w5 w1.heap.size (f.drop (56 * (j + 1))) 0 := i4.mono s5 (fun h => by have := b2 _ h; omega)
      have t5 : Step noF w w5 := t4.fresh s5 (fun i hi => by have := b2 i hi; omega)
      go_wp2_with fail
      go_roundw
      case rel => exact ⟨j + 1, F3, by omega, by go_num, t5, i5, o5, fun k hk => by rcases f5 k hk with x | x; exact b2 k x; omega⟩
      case measure => simp [intOf]; omega
    · obtain rfl : j = 4 := by omega
      go_wp2_with fail
      refine (bytes_any _ F' _ _ hout).mono ?_
      rintro r w3 ⟨rfl, rfl⟩
      go_wp2_with fail
      go_ret2
      exact ⟨by rw [HST.out]; rfl, hst⟩

set_option maxHeartbeats 1000000 in
theorem stamp_any (e q : Int) (s : List UInt8) (hs : s.length ≤ 9223372036854775807) (w : World) (ht : Tabs w) :
    Calls Tryd.prog 12 #[.int .i64 e, .int .i64 q, .string (str s)] w fun r w' => r = .returned (.tuple #[.string (str (stmS e q s)), .int .i64 (stmE e q s)]) ∧ Step noF w w' := by
  have hsz := str_size s
  by_cases h1 : s.length ≤ 218
  · by_cases h2 : canS e q = true
    · have hB : stmB e q s = true := by simp [stmB, h1, h2]
      rw [stmS, stmE, if_pos hB, if_pos hB]
      have hc2 := h2
      simp only [canS, decide_eq_true_eq] at hc2
      obtain ⟨e, rfl⟩ := Int.eq_ofNat_of_zero_le (show 0 ≤ e by omega)
      obtain ⟨q, rfl⟩ := Int.eq_ofNat_of_zero_le (show 0 ≤ q by omega)
      exact stamp_good e q s h1 h2 w ht
    · have hB : stmB e q s = false := by simp [stmB, h2]
      have HB : Hid (stmS e q s = [] ∧ stmE e q s = 1) := by
        constructor
        · rw [stmS, hB]; rfl
        · rw [stmE, hB]; rfl
      have hk : ¬ (218 : Int) < (s.length : Int) := by omega
      have h3 : canS e q = false := by simpa using h2
      clear hB h2
      rw [HB.out.1, HB.out.2]
      go_enter Tryd.func12, Tryd.ntmps12
      go_wp2_with (go_at_call 22; refine (can_call _ _ _ false h3).mono ?_; rintro r w1 ⟨rfl, rfl⟩)
      go_ret2
      exact ⟨rfl, Step.refl _ _⟩
  · have hB : stmB e q s = false := by simp [stmB, h1]
    have HB : Hid (stmS e q s = [] ∧ stmE e q s = 1) := by
      constructor
      · rw [stmS, hB]; rfl
      · rw [stmE, hB]; rfl
    have hk : (218 : Int) < (s.length : Int) := by omega
    clear hB h1
    rw [HB.out.1, HB.out.2]
    go_enter Tryd.func12, Tryd.ntmps12
    go_wp2_with fail
    go_ret2
    exact ⟨rfl, Step.refl _ _⟩

/-! Read -/
def raE (b : List UInt8) : Int := if b.length = 256 then rdP b else 0
def raQ (b : List UInt8) : Int := if b.length = 256 then rdQ b else 0
def raS (b : List UInt8) : List UInt8 := if b.length = 256 then rdS b else []
def raR (b : List UInt8) : Int := if b.length = 256 then rdR b else 1
theorem raAll {b : List UInt8} (h : b.length = 256) : raE b = rdP b ∧ raQ b = rdQ b ∧ raS b = rdS b ∧ raR b = rdR b := ⟨if_pos h, if_pos h, if_pos h, if_pos h⟩

set_option maxHeartbeats 1000000 in
theorem read_any (b : List UInt8) (hl : b.length ≤ 9223372036854775807) (w : World) (ht : Tabs w) :
    Calls Tryd.prog 14 #[.string (str b)] w fun r w' => r = .returned (.tuple #[.int .i64 (raE b), .int .i64 (raQ b), .string (str (raS b)), .int .i64 (raR b)]) ∧ Step noF w w' := by
  have hsz := str_size b
  by_cases hb : b.length = 256
  · obtain ⟨a1, a2, a3, a4⟩ := raAll hb
    rw [a1, a2, a3, a4]
    clear a1 a2 a3 a4
    have HB := hid hb
    rw [hb] at hsz
    clear hb
    cases hst : stB b
    · have HR : Hid (rdP b = 0 ∧ rdQ b = 0 ∧ rdS b = [] ∧ rdR b = 5) := by
        have h5 : rdR b = 5 := by unfold rdR; unfold stB at hst; rw [hst]; rfl
        exact ⟨by rw [rdP, h5]; rfl, by rw [rdQ, h5]; rfl, by rw [rdS, h5]; rfl, h5⟩
      rw [HR.out.1, HR.out.2.1, HR.out.2.2.1, HR.out.2.2.2]
      have HS := hid hst
      clear hst
      go_enter Tryd.func14, Tryd.ntmps14
      go_wp2_with fail
      refine (stampOf_any b HB.out w).mono ?_
      rintro r w1 ⟨rfl, s1⟩
      rw [HS.out]
      go_wp2_with fail
      refine bodyPost_ret (results_tmp4 rfl _ _ _) rfl ?_
      exact ⟨rfl, s1⟩
    · have hsm : same b = true := by unfold stB at hst; simp at hst; exact hst.1
      have hr : rdR b = unfE (gat b 4) := by unfold rdR; unfold stB at hst; rw [hst]; rfl
      have HG : Hid ((gat b 4).length = 224) := gat_length (by rw [HB.out]; omega)
      have HE : Hid (stE b = epo b ∧ stQ b = num b) := ⟨by rw [stE, hsm]; rfl, by rw [stQ, hsm]; rfl⟩
      have HS := hid hst
      by_cases h0 : unfE (gat b 4) = 0
      · have HR : Hid (rdP b = epo b ∧ rdQ b = num b ∧ rdS b = unfS (gat b 4) ∧ rdR b = 0) := by
          have h5 : rdR b = 0 := hr.trans h0
          exact ⟨by rw [rdP, if_pos h5], by rw [rdQ, if_pos h5], by rw [rdS, if_pos h5], h5⟩
        rw [HR.out.1, HR.out.2.1, HR.out.2.2.1, HR.out.2.2.2]
        have H0 := hid h0
        clear hst hsm hr h0
        go_enter Tryd.func14, Tryd.ntmps14
        go_wp2_with fail
        refine (stampOf_any b HB.out w).mono ?_
        rintro r w1 ⟨rfl, s1⟩
        rw [HS.out, HE.out.1, HE.out.2]
        go_wp2_with fail
        refine (gather_any b HB.out _).mono ?_
        rintro r w2 ⟨rfl, s2⟩
        go_wp2_with fail
        refine (unframe_any (gat b 4) (by rw [HG.out]; omega) (by rw [HG.out]; omega) _ (ht.step (s1.trans s2))).mono ?_
        rintro r w3 ⟨rfl, s3⟩
        rw [H0.out]
        go_wp2_with fail
        refine bodyPost_ret (results_tmp4 rfl _ _ _) rfl ?_
        exact ⟨rfl, (s1.trans s2).trans s3⟩
      · have HR : Hid (rdP b = 0 ∧ rdQ b = 0 ∧ rdS b = [] ∧ rdR b = unfE (gat b 4)) := by
          have h5 : ¬ rdR b = 0 := by rw [hr]; exact h0
          exact ⟨by rw [rdP, if_neg h5], by rw [rdQ, if_neg h5], by rw [rdS, if_neg h5], hr⟩
        rw [HR.out.1, HR.out.2.1, HR.out.2.2.1, HR.out.2.2.2]
        clear hst hsm hr
        obtain ⟨x, hx⟩ : ∃ x, unfE (gat b 4) = x := ⟨_, rfl⟩
        rw [hx] at h0
        have HX := hid hx
        rw [hx]
        clear hx
        go_enter Tryd.func14, Tryd.ntmps14
        go_wp2_with fail
        refine (stampOf_any b HB.out w).mono ?_
        rintro r w1 ⟨rfl, s1⟩
        rw [HS.out, HE.out.1, HE.out.2]
        go_wp2_with fail
        refine (gather_any b HB.out _).mono ?_
        rintro r w2 ⟨rfl, s2⟩
        go_wp2_with fail
        refine (unframe_any (gat b 4) (by rw [HG.out]; omega) (by rw [HG.out]; omega) _ (ht.step (s1.trans s2))).mono ?_
        rintro r w3 ⟨rfl, s3⟩
        rw [HX.out]
        go_wp2_with fail
        refine bodyPost_ret (results_tmp4 rfl _ _ _) rfl ?_
        exact ⟨rfl, (s1.trans s2).trans s3⟩
  · have HR : Hid (raE b = 0 ∧ raQ b = 0 ∧ raS b = [] ∧ raR b = 1) := ⟨if_neg hb, if_neg hb, if_neg hb, if_neg hb⟩
    rw [HR.out.1, HR.out.2.1, HR.out.2.2.1, HR.out.2.2.2]
    have h2 : ¬ (b.length : Int) = 256 := by omega
    clear hb
    go_enter Tryd.func14, Tryd.ntmps14
    go_wp2_with fail
    refine bodyPost_ret (results_tmp4 rfl _ _ _) rfl ?_
    exact ⟨rfl, Step.refl _ _⟩
end Go.Proofs.YthdcmobnookhdaaDoor
