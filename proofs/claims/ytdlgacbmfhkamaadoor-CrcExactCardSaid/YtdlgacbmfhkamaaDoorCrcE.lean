/-
  The walk of the law CrcExact.
-/
import Derived.Test.YtdlgacbmfhkamaaDoorCrcAwake
namespace Go.Proofs.YtdlgacbmfhkamaaDoor
open Go.RowKit
set_option linter.unusedVariables false

set_option maxHeartbeats 2000000 in
set_option maxRecDepth 100000 in
theorem exact_walk (a b : ByteArray) (ha : a.size ≤ 9223372036854775807) (hb : b.size ≤ 9223372036854775807) (w : World) (ht : Tabs w) :
    Calls Tryd.prog 3 #[.string a, .string b] w fun e w' => e = .returned (.bool true) ∧ Step noF w w' := by
  by_cases h1 : 4096 < a.size
  · have k1 : (4096 : Int) < (a.size : Int) := by omega
    go_enter Tryd.func3, Tryd.ntmps3
    go_wp2_with (go_at_call 7; refine (awake_any _ ht).mono ?_; rintro e w1 ⟨rfl, s1⟩)
    go_ret
    exact ⟨rfl, s1⟩
  · by_cases h2 : 4096 < b.size
    · have k1 : ¬ (4096 : Int) < (a.size : Int) := by omega
      have k2 : (4096 : Int) < (b.size : Int) := by omega
      go_enter Tryd.func3, Tryd.ntmps3
      go_wp2_with (go_at_call 7; refine (awake_any _ ht).mono ?_; rintro e w1 ⟨rfl, s1⟩)
      go_ret
      exact ⟨rfl, s1⟩
    · have k1 : ¬ (4096 : Int) < (a.size : Int) := by omega
      have k2 : ¬ (4096 : Int) < (b.size : Int) := by omega
      have k3 : a.size + b.size ≤ 9223372036854775807 := by omega
      obtain ⟨c, hc⟩ : ∃ c, a ++ b = c := ⟨_, rfl⟩
      have hcl : c.data.toList = a.data.toList ++ b.data.toList := by rw [← hc]; simp
      have hcs : c.size ≤ 9223372036854775807 := by rw [← hc, ByteArray.size_append]; omega
      obtain ⟨n, hn⟩ : ∃ n, moreN 0 c.data.toList = n := ⟨_, rfl⟩
      have hnl : n < 4294967296 := by rw [← hn]; exact moreN_lt _ _ (by decide)
      obtain ⟨m, hm⟩ : ∃ m, moreN 0 a.data.toList = m := ⟨_, rfl⟩
      have hml : m < 4294967296 := by rw [← hm]; exact moreN_lt _ _ (by decide)
      have z1 : Hid (moreN 0 ([a, b].flatMap (·.data.toList)) = n) := by show _ = _; rw [← hn, hcl]; simp
      have z2 : Hid (moreN 0 ([c].flatMap (·.data.toList)) = n) := by show _ = _; rw [← hn]; simp
      have z3 : Hid (moreN m ([b].flatMap (·.data.toList)) = n) := by show _ = _; rw [← hn, hcl, ← hm, moreN_moreN]; simp
      have HN := hid hn
      have HM := hid hm
      obtain ⟨T, hT⟩ : ∃ T, str (hx 8 n) = T := ⟨_, rfl⟩
      have HTT := hid hT
      have HC := hid hcl
      have HCS := hid hcs
      clear hn hm hT hcl hcs
      go_enter Tryd.func3, Tryd.ntmps3
      go_wp2_with (go_at_call 7; refine (awake_any _ ht).mono ?_; rintro e w1 ⟨rfl, s1⟩)
      refine (refSum_call c HCS.out _ n HN.out).mono ?_
      rintro e w2 ⟨rfl, rfl⟩
      have t1 := ht.step s1
      go_wp2_with fail
      refine (sum_call [a, b] 2 rfl (by simp) (by simp; omega) _ 2 _ (t1.step ((Step.refl _ _).alloc _)) (strs2 _ _ _ rfl _ _) n z1.out).mono ?_
      rintro e w2 ⟨rfl, s2⟩
      have a2 := (s1.alloc _).trans s2
      have t2 := ht.step a2
      go_wp2_with fail
      refine (sum_call [c] 1 rfl (by simp) (by simp; exact HCS.out) _ 1 _ (t2.step ((Step.refl _ _).alloc _)) (strs1 _ _ _ rfl _) n z2.out).mono ?_
      rintro e w3 ⟨rfl, s3⟩
      have a3 := (a2.alloc _).trans s3
      have t3 := ht.step a3
      go_wp2_with fail
      refine (refSum_call a ha _ m HM.out).mono ?_
      rintro e w4 ⟨rfl, rfl⟩
      go_wp2_with fail
      refine (more_call m hml [b] 1 rfl (by simp) (by simp; omega) _ 1 _ (t3.step ((Step.refl _ _).alloc _)) (strs1 _ _ _ rfl _) n z3.out).mono ?_
      rintro e w4 ⟨rfl, s4⟩
      have a4 := (a3.alloc _).trans s4
      go_wp2_with fail
      refine (text_call n hnl _ T HTT.out).mono ?_
      rintro e w5 ⟨rfl, s5⟩
      go_wp2_with fail
      refine (refText_call n hnl _ T HTT.out).mono ?_
      rintro e w6 ⟨rfl, rfl⟩
      go_wp2_with fail
      go_ret
      exact ⟨rfl, a4.trans s5⟩
end Go.Proofs.YtdlgacbmfhkamaaDoor
