/-
  What 'Parse' of package crc does.
-/
import Derived.Test.YtdlgacbmfhkamaaDoorCrcB
namespace Go.Proofs.YtdlgacbmfhkamaaDoor
open Go.RowKit
set_option linter.unusedVariables false

set_option maxHeartbeats 1000000 in
set_option maxRecDepth 100000 in
theorem parse_any (s : ByteArray) (hs : s.size ≤ 9223372036854775807) (w : World) :
    Calls Tryd.prog 13 #[.string s] w fun e w' => e = .returned (.tuple #[.int .u32 (((parse8 s.data.toList).getD 0 : Nat) : Int), .bool (parse8 s.data.toList).isSome]) ∧ w = w' := by
  by_cases h8 : s.size = 8
  · have HP : Hid (parse8 s.data.toList = parseL 0 s.data.toList) := by show _ = _; unfold parse8; rw [if_pos (by rw [list_len]; exact h8)]
    go_enter Tryd.func13, Tryd.ntmps13
    go_wp2
    go_loopw [4, 13] (fun x i wr => ∃ j acc : Nat, j ≤ 8 ∧ i = .int .i64 j ∧ x = .int .u32 (acc : Int) ∧ acc < 16 ^ j ∧ parse8 s.data.toList = parseL acc (s.data.toList.drop j) ∧ wr = w) (fun _ i _ => 8 - (intOf i).toNat)
    case atStart => exact ⟨0, 0, by omega, rfl, rfl, by simp, by rw [List.drop_zero]; exact HP.out, rfl⟩
    case round =>
      obtain ⟨j, acc, hj, rfl, rfl, hacc, hp, rfl⟩ := hrel
      by_cases hlt : j < 8
      · have hjs : j < s.size := by omega
        have hb : s[j].toNat < 256 := s[j].toNat_lt
        have HQ : Hid (parse8 s.data.toList = (dv s[j].toNat).bind fun d => parseL (acc * 16 + d) (s.data.toList.drop (j + 1))) := by
          show _ = _
          rw [hp, List.drop_eq_getElem_cons (by rw [list_len]; exact hjs), parseL]
          rfl
        have hacc8 : acc * 16 < 4294967296 := by
          have : 16 ^ j ≤ 16 ^ 7 := Nat.pow_le_pow_right (by decide) (by omega)
          omega
        have hp1 : Hid (acc * 16 < 16 ^ (j + 1) - 15) := by
          show _ < _
          rw [Nat.pow_succ]; omega
        clear hp HP hacc
        have HD := digit_any s[j].toNat hb
        cases hd : dv s[j].toNat with
        | none =>
          have HN : Hid (parse8 s.data.toList = none) := by show _ = _; rw [HQ.out, hd]; rfl
          rw [hd] at HD
          clear hd
          go_wp2_with (go_at_call 17; refine (HD _).mono ?_; rintro e w1 ⟨rfl, rfl⟩)
          go_ret2
          exact ⟨ret_ub (by rw [HN.out]; rfl) (by rw [HN.out]; rfl), rfl⟩
        | some d =>
          have hd16 : d < 16 := (hexd_dv _ _ hd).2
          have HN : Hid (parse8 s.data.toList = parseL (acc * 16 + d) (s.data.toList.drop (j + 1))) := by show _ = _; rw [HQ.out, hd]; rfl
          rw [hd] at HD
          obtain ⟨q, hq⟩ : ∃ q, acc * 16 + d = q := ⟨_, rfl⟩
          obtain ⟨p, hp⟩ : ∃ p, acc * 16 = p := ⟨_, rfl⟩
          have e1 : bits .or .u32 (p : Int) (d : Int) = (q : Int) := by
            rw [← hq, ← hp, ← nat_join 4 (acc * 16) d (by omega) (by omega)]
            exact u32_or_nat (acc * 16) d hacc8 (by omega)
          have e2 : (acc : Int) * 16 % 4294967296 = (p : Int) := by omega
          have e3 : IntKind.u32.wrap ((acc : Int) * 16) = (p : Int) := by rw [IntKind.wrap_u32', e2]
          rw [hq] at HN
          have hql : Hid (q < 16 ^ (j + 1)) := by show _ < _; have := hp1.out; omega
          clear hd hq hp hb hp1 hacc8
          have HD' := hid HD
          clear HD
          go_wp2_with (go_at_call 17; refine (HD'.out _).mono ?_; rintro e w1 ⟨rfl, rfl⟩)
          go_roundw
          case rel => exact ⟨j + 1, q, by omega, by go_num, rfl, hql.out, HN.out, by first | trivial | rfl⟩
          case measure => simp [intOf]; omega
      · obtain rfl : j = 8 := by omega
        have HN : Hid (parse8 s.data.toList = some acc) := by
          show _ = _
          rw [hp, List.drop_of_length_le (by rw [list_len]; omega)]
          rfl
        clear hp HP
        go_wp2
        go_ret2
        exact ⟨ret_ub (by rw [HN.out]; rfl) (by rw [HN.out]; rfl), rfl⟩
  · have HN : Hid (parse8 s.data.toList = none) := by show _ = _; unfold parse8; rw [if_neg (by rw [list_len]; exact h8)]
    have h8i : ((s.size : Int) != 8) = true := by simp; omega
    go_enter Tryd.func13, Tryd.ntmps13
    go_wp2
    go_ret2
    exact ⟨ret_ub (by rw [HN.out]; rfl) (by rw [HN.out]; rfl), rfl⟩

theorem parse_call (s : ByteArray) (hs : s.size ≤ 9223372036854775807) (w : World) (y : Nat) (b : Bool) (h1 : (parse8 s.data.toList).getD 0 = y) (h2 : (parse8 s.data.toList).isSome = b) :
    Calls Tryd.prog 13 #[.string s] w fun e w' => e = .returned (.tuple #[.int .u32 (y : Int), .bool b]) ∧ w = w' := by
  subst h1 h2
  exact parse_any s hs w
end Go.Proofs.YtdlgacbmfhkamaaDoor
