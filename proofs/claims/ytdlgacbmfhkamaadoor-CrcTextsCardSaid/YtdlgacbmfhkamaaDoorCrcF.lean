/-
  The walk of the law CrcTexts.
-/
import Derived.Test.YtdlgacbmfhkamaaDoorCrcAwake
namespace Go.Proofs.YtdlgacbmfhkamaaDoor
open Go.RowKit
set_option linter.unusedVariables false

set_option maxHeartbeats 2000000 in
set_option maxRecDepth 100000 in
theorem texts_walk (n : Nat) (hn : n < 4294967296) (s : ByteArray) (hs : s.size ≤ 9223372036854775807) (w : World) (ht : Tabs w) :
    Calls Tryd.prog 4 #[.int .u32 n, .string s] w fun e w' => e = .returned (.bool true) ∧ Step noF w w' := by
  by_cases h1 : 100 < s.size
  · have k1 : (100 : Int) < (s.size : Int) := by omega
    go_enter Tryd.func4, Tryd.ntmps4
    go_wp2_with (go_at_call 7; refine (awake_any _ ht).mono ?_; rintro e w1 ⟨rfl, s1⟩)
    go_ret
    exact ⟨rfl, s1⟩
  · have k1 : ¬ (100 : Int) < (s.size : Int) := by omega
    have HB := hid (parse8_hx n hn)
    obtain ⟨T, hT⟩ : ∃ T, str (hx 8 n) = T := ⟨_, rfl⟩
    have P1 : Hid ((parse8 T.data.toList).getD 0 = n) := by show _ = _; rw [← hT, str_list, HB.out]; rfl
    have P2 : Hid ((parse8 T.data.toList).isSome = true) := by show _ = _; rw [← hT, str_list, HB.out]; rfl
    have hTs : Hid (T.size ≤ 9223372036854775807) := by show _ ≤ _; rw [← hT, str_size, hx_length]; decide
    have HT := hid hT
    clear hT HB
    cases hp : parse8 s.data.toList with
    | some y =>
      obtain ⟨hy, hyl⟩ := parse8_some _ _ hp
      have Q1 : Hid ((parse8 s.data.toList).getD 0 = y) := by show _ = _; rw [hp]; rfl
      have Q2 : Hid ((parse8 s.data.toList).isSome = true) := by show _ = _; rw [hp]; rfl
      have HS : Hid (str (hx 8 y) = s) := by show _ = _; rw [hy]; exact (str_of s).symm
      clear hp hy
      go_enter Tryd.func4, Tryd.ntmps4
      go_wp2_with (go_at_call 7; refine (awake_any _ ht).mono ?_; rintro e w1 ⟨rfl, s1⟩)
      refine (text_call n hn _ T HT.out).mono ?_
      rintro e w2 ⟨rfl, s2⟩
      go_wp2_with fail
      refine (parse_call T hTs.out _ n true P1.out P2.out).mono ?_
      rintro e w3 ⟨rfl, rfl⟩
      go_wp2_with fail
      refine (parse_call s hs _ y true Q1.out Q2.out).mono ?_
      rintro e w3 ⟨rfl, rfl⟩
      go_wp2_with fail
      refine (text_call n hn _ T HT.out).mono ?_
      rintro e w3 ⟨rfl, s3⟩
      go_wp2_with fail
      refine (refText_call n hn _ T HT.out).mono ?_
      rintro e w4 ⟨rfl, rfl⟩
      go_wp2_with fail
      refine (refText_call y hyl _ s HS.out).mono ?_
      rintro e w4 ⟨rfl, rfl⟩
      go_wp2_with fail
      go_ret
      exact ⟨rfl, (s1.trans s2).trans s3⟩
    | none =>
      have Q1 : Hid ((parse8 s.data.toList).getD 0 = 0) := by show _ = _; rw [hp]; rfl
      have Q2 : Hid ((parse8 s.data.toList).isSome = false) := by show _ = _; rw [hp]; rfl
      have HS : Hid (isHex s.data.toList = false) := by show _ = _; rw [← parse8_isSome, hp]; rfl
      clear hp
      go_enter Tryd.func4, Tryd.ntmps4
      go_wp2_with (go_at_call 7; refine (awake_any _ ht).mono ?_; rintro e w1 ⟨rfl, s1⟩)
      refine (text_call n hn _ T HT.out).mono ?_
      rintro e w2 ⟨rfl, s2⟩
      go_wp2_with fail
      refine (parse_call T hTs.out _ n true P1.out P2.out).mono ?_
      rintro e w3 ⟨rfl, rfl⟩
      go_wp2_with fail
      refine (parse_call s hs _ 0 false Q1.out Q2.out).mono ?_
      rintro e w3 ⟨rfl, rfl⟩
      go_wp2_with fail
      refine (text_call n hn _ T HT.out).mono ?_
      rintro e w3 ⟨rfl, s3⟩
      go_wp2_with fail
      refine (refText_call n hn _ T HT.out).mono ?_
      rintro e w4 ⟨rfl, rfl⟩
      go_wp2_with fail
      refine (digits_call s hs _ false HS.out).mono ?_
      rintro e w4 ⟨rfl, rfl⟩
      go_wp2_with fail
      go_ret
      exact ⟨rfl, (s1.trans s2).trans s3⟩
end Go.Proofs.YtdlgacbmfhkamaaDoor
