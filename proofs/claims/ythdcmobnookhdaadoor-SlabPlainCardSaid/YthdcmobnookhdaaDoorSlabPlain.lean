/-
  The walk of the law SlabPlain.
-/
import Derived.Test.YthdcmobnookhdaaDoorSlabAwake
import Derived.Test.YthdcmobnookhdaaDoorSlabT
namespace Go.Proofs.YthdcmobnookhdaaDoor
open Go.RowKit
set_option linter.unusedVariables false

theorem refOpen_call (f : List UInt8) (S : ByteArray) (hS : str f = S) (h6 : 6 ≤ f.length) (hf : f.length ≤ 1000) (w : World) (X : ByteArray) (e : Int) (h1 : str (unfS f) = X) (h2 : unfE f = e) :
    Calls Tryd.prog 11 #[.string S] w fun r w' => r = .returned (.tuple #[.string X, .int .i64 e]) ∧ Step noF w w' := by
  subst hS h1 h2; exact refOpen_any f h6 hf w

set_option maxHeartbeats 2000000 in
set_option maxRecDepth 100000 in
theorem plain_in (s b : List UInt8) (hs : s.length ≤ 300) (hb : b.length ≤ 300) (w : World) (ht : Tabs w) :
    Calls Tryd.prog 3 #[.string (str s), .string (str b)] w fun e w' => e = .returned (.bool true) ∧ Step noF w w' := by
  have z1 := str_size s
  have z2 := str_size b
  have k1 : ¬ (300 : Int) < (s.length : Int) := by omega
  have k2 : ¬ (300 : Int) < (b.length : Int) := by omega
  have HL : Hid (s.length ≤ 300 ∧ b.length ≤ 300) := ⟨hs, hb⟩
  by_cases h1 : s.length ≤ 250
  · have L1 : Hid (str (layS s) = str (frm 256 s) ∧ layE s = 0) := ⟨by rw [layS, if_pos h1], if_pos h1⟩
    have hB : frB 256 s = true := by simp [frB]; omega
    have L2 : Hid (str (frS 256 s) = str (frm 256 s) ∧ frB 256 s = true) := ⟨by rw [frS, if_pos hB], hB⟩
    clear h1 hB hs hb
    by_cases h2 : b.length = 256
    · have L3 : Hid (str (opS b) = str (unfS b) ∧ opE b = unfE b) := ⟨by rw [opS, if_pos h2], if_pos h2⟩
      obtain ⟨X, hX⟩ : ∃ X, str (unfS b) = X := ⟨_, rfl⟩
      obtain ⟨x, hx⟩ : ∃ x, unfE b = x := ⟨_, rfl⟩
      have L4 : Hid (str (unfS b) = X ∧ unfE b = x) := ⟨hX, hx⟩
      rw [hX, hx] at L3
      clear hX hx
      rw [h2] at z2 k2
      have HB := hid h2
      clear h2
      go_enter Tryd.func3, Tryd.ntmps3
      go_wp2_with (go_at_call 7; refine (awake_any _ ht).mono ?_; rintro e w1 ⟨rfl, s1⟩)
      have t1 := ht.step s1
      refine (lay_call s _ rfl (by have := HL.out; omega) _ t1 _ _ L1.out.1 L1.out.2).mono ?_
      rintro e w2 ⟨rfl, s2⟩
      have a2 := s1.trans s2
      go_wp2_with fail
      refine (refFrame_call 256 (by omega) (by omega) s (by have := HL.out; omega) _ _ rfl _ rfl _ L2.out.1 _ L2.out.2).mono ?_
      rintro e w3 ⟨rfl, s3⟩
      have a3 := a2.trans s3
      have t3 := ht.step a3
      go_wp2_with fail
      refine (open_call b _ rfl (by have := HL.out; omega) _ t3 _ _ L3.out.1 L3.out.2).mono ?_
      rintro e w4 ⟨rfl, s4⟩
      have a4 := a3.trans s4
      go_wp2_with fail
      refine (refOpen_call b _ rfl (by rw [HB.out]; omega) (by rw [HB.out]; omega) _ _ _ L4.out.1 L4.out.2).mono ?_
      rintro e w5 ⟨rfl, s5⟩
      go_wp2_with fail
      go_ret
      exact ⟨rfl, a4.trans s5⟩
    · have L3 : Hid (str (opS b) = ⟨#[]⟩ ∧ opE b = 1) := ⟨by rw [opS, if_neg h2]; rfl, if_neg h2⟩
      have h3 : ¬ (b.length : Int) = 256 := by omega
      clear h2
      go_enter Tryd.func3, Tryd.ntmps3
      go_wp2_with (go_at_call 7; refine (awake_any _ ht).mono ?_; rintro e w1 ⟨rfl, s1⟩)
      have t1 := ht.step s1
      refine (lay_call s _ rfl (by have := HL.out; omega) _ t1 _ _ L1.out.1 L1.out.2).mono ?_
      rintro e w2 ⟨rfl, s2⟩
      have a2 := s1.trans s2
      go_wp2_with fail
      refine (refFrame_call 256 (by omega) (by omega) s (by have := HL.out; omega) _ _ rfl _ rfl _ L2.out.1 _ L2.out.2).mono ?_
      rintro e w3 ⟨rfl, s3⟩
      have a3 := a2.trans s3
      have t3 := ht.step a3
      go_wp2_with fail
      refine (open_call b _ rfl (by have := HL.out; omega) _ t3 _ _ L3.out.1 L3.out.2).mono ?_
      rintro e w4 ⟨rfl, s4⟩
      go_wp2_with fail
      go_ret
      exact ⟨rfl, a3.trans s4⟩
  · have L1 : Hid (str (layS s) = str [] ∧ layE s = 1) := ⟨by rw [layS, if_neg h1], if_neg h1⟩
    have hB : frB 256 s = false := by simp [frB]; omega
    have L2 : Hid (str (frS 256 s) = str [] ∧ frB 256 s = false) := ⟨by rw [frS, hB]; rfl, hB⟩
    clear h1 hB hs hb
    by_cases h2 : b.length = 256
    · have L3 : Hid (str (opS b) = str (unfS b) ∧ opE b = unfE b) := ⟨by rw [opS, if_pos h2], if_pos h2⟩
      obtain ⟨X, hX⟩ : ∃ X, str (unfS b) = X := ⟨_, rfl⟩
      obtain ⟨x, hx⟩ : ∃ x, unfE b = x := ⟨_, rfl⟩
      have L4 : Hid (str (unfS b) = X ∧ unfE b = x) := ⟨hX, hx⟩
      rw [hX, hx] at L3
      clear hX hx
      rw [h2] at z2 k2
      have HB := hid h2
      clear h2
      go_enter Tryd.func3, Tryd.ntmps3
      go_wp2_with (go_at_call 7; refine (awake_any _ ht).mono ?_; rintro e w1 ⟨rfl, s1⟩)
      have t1 := ht.step s1
      refine (lay_call s _ rfl (by have := HL.out; omega) _ t1 _ _ L1.out.1 L1.out.2).mono ?_
      rintro e w2 ⟨rfl, s2⟩
      have a2 := s1.trans s2
      go_wp2_with fail
      refine (refFrame_call 256 (by omega) (by omega) s (by have := HL.out; omega) _ _ rfl _ rfl _ L2.out.1 _ L2.out.2).mono ?_
      rintro e w3 ⟨rfl, s3⟩
      have a3 := a2.trans s3
      have t3 := ht.step a3
      go_wp2_with fail
      refine (open_call b _ rfl (by have := HL.out; omega) _ t3 _ _ L3.out.1 L3.out.2).mono ?_
      rintro e w4 ⟨rfl, s4⟩
      have a4 := a3.trans s4
      go_wp2_with fail
      refine (refOpen_call b _ rfl (by rw [HB.out]; omega) (by rw [HB.out]; omega) _ _ _ L4.out.1 L4.out.2).mono ?_
      rintro e w5 ⟨rfl, s5⟩
      go_wp2_with fail
      go_ret
      exact ⟨rfl, a4.trans s5⟩
    · have L3 : Hid (str (opS b) = ⟨#[]⟩ ∧ opE b = 1) := ⟨by rw [opS, if_neg h2]; rfl, if_neg h2⟩
      have h3 : ¬ (b.length : Int) = 256 := by omega
      clear h2
      go_enter Tryd.func3, Tryd.ntmps3
      go_wp2_with (go_at_call 7; refine (awake_any _ ht).mono ?_; rintro e w1 ⟨rfl, s1⟩)
      have t1 := ht.step s1
      refine (lay_call s _ rfl (by have := HL.out; omega) _ t1 _ _ L1.out.1 L1.out.2).mono ?_
      rintro e w2 ⟨rfl, s2⟩
      have a2 := s1.trans s2
      go_wp2_with fail
      refine (refFrame_call 256 (by omega) (by omega) s (by have := HL.out; omega) _ _ rfl _ rfl _ L2.out.1 _ L2.out.2).mono ?_
      rintro e w3 ⟨rfl, s3⟩
      have a3 := a2.trans s3
      have t3 := ht.step a3
      go_wp2_with fail
      refine (open_call b _ rfl (by have := HL.out; omega) _ t3 _ _ L3.out.1 L3.out.2).mono ?_
      rintro e w4 ⟨rfl, s4⟩
      go_wp2_with fail
      go_ret
      exact ⟨rfl, a3.trans s4⟩

set_option maxHeartbeats 2000000 in
set_option maxRecDepth 100000 in
theorem plain_walk (s b : List UInt8) (hs : s.length ≤ 9223372036854775807) (hb : b.length ≤ 9223372036854775807) (w : World) (ht : Tabs w) :
    Calls Tryd.prog 3 #[.string (str s), .string (str b)] w fun e w' => e = .returned (.bool true) ∧ Step noF w w' := by
  have z1 := str_size s
  have z2 := str_size b
  by_cases h1 : 300 < s.length
  · have k1 : (300 : Int) < (s.length : Int) := by omega
    clear h1
    go_enter Tryd.func3, Tryd.ntmps3
    go_wp2_with (go_at_call 7; refine (awake_any _ ht).mono ?_; rintro e w1 ⟨rfl, s1⟩)
    go_ret
    exact ⟨rfl, s1⟩
  · by_cases h2 : 300 < b.length
    · have k1 : ¬ (300 : Int) < (s.length : Int) := by omega
      have k2 : (300 : Int) < (b.length : Int) := by omega
      clear h1 h2
      go_enter Tryd.func3, Tryd.ntmps3
      go_wp2_with (go_at_call 7; refine (awake_any _ ht).mono ?_; rintro e w1 ⟨rfl, s1⟩)
      go_ret
      exact ⟨rfl, s1⟩
    · exact plain_in s b (by omega) (by omega) w ht
end Go.Proofs.YthdcmobnookhdaaDoor
