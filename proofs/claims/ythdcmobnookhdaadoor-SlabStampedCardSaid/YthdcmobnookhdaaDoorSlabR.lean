/-
  The document's frames and stamped blocks.
-/
import Derived.Test.YthdcmobnookhdaaDoorSlabC
import Derived.Test.YthdcmobnookhdaaDoorPenG
import Derived.Test.YthdcmobnookhdaaDoorCrcD
namespace Go.Proofs.YthdcmobnookhdaaDoor
open Go.RowKit
set_option linter.unusedVariables false

theorem refNum_call (k n : Nat) (hk : k = 1 ∨ k = 2 ∨ k = 4 ∨ k = 8) (hn : n < 256 ^ k) (hm : n ≤ 9223372036854775807) (w : World) (wd : Int) (hw : wd = k) :
    Calls Tryd.prog 18 #[.int .i64 wd, .int .i64 n] w fun e w' => e = .returned (.tuple #[.string (str (be k n)), .bool true]) ∧ Step noF w w' := by
  subst hw
  have h : fitB k n = true := by
    simp only [fitB, decide_eq_true_eq]
    refine ⟨by omega, ?_⟩
    have : ((256 ^ k : Nat) : Int) = (256 : Int) ^ k := Int.natCast_pow 256 k
    omega
  have := refNum_in k hk n hm w
  rw [h] at this
  exact this

theorem zs_snoc (n : Nat) : zs n ++ [0] = zs (n + 1) := by unfold zs; rw [List.replicate_succ']

def frB (size : Nat) (s : List UInt8) : Bool := decide (s.length + 6 ≤ size)
def frS (size : Nat) (s : List UInt8) : List UInt8 := if frB size s then frm size s else []

set_option maxHeartbeats 1000000 in
theorem refFrame_any (size : Nat) (h6 : 6 ≤ size) (hz : size ≤ 1000) (s : List UInt8) (hl : s.length ≤ 9223372036854775807) (w : World) :
    Calls Tryd.prog 9 #[.int .i64 size, .string (str s)] w fun e w' => e = .returned (.tuple #[.string (str (frS size s)), .bool (frB size s)]) ∧ Step noF w w' := by
  have hsz := str_size s
  by_cases hs : s.length + 6 ≤ size
  · have HF : Hid (frB size s = true ∧ frS size s = frm size s) := by
      have : frB size s = true := by simp [frB, hs]
      exact ⟨this, if_pos this⟩
    rw [HF.out.1, HF.out.2]
    obtain ⟨S, hS⟩ : ∃ S, str s = S := ⟨_, rfl⟩
    have hlist : Hid (S.data.toList = s) := by show _ = _; rw [← hS]; exact str_list s
    rw [hS] at hsz ⊢
    obtain ⟨n, hn⟩ : ∃ n, s.length = n := ⟨_, rfl⟩
    rw [hn] at hs hsz hl
    obtain ⟨k, hk⟩ : ∃ k, size - 6 - n = k := ⟨_, rfl⟩
    have hk2 : size = n + k + 6 := by omega
    have HB : Hid (bod size s = be 2 n ++ (s ++ zs k)) := by show _ = _; rw [bod, hn, hk]
    obtain ⟨m, hm⟩ : ∃ m, moreN 0 (bod size s) = m := ⟨_, rfl⟩
    have hml : m < 4294967296 := by rw [← hm]; exact moreN_lt _ _ (by decide)
    have HM : Hid (frm size s = be 4 m ++ bod size s) := by show _ = _; rw [frm, hm]
    have HMM := hid hm
    have HA : Hid (str (be 2 n) ++ S = str (be 2 n ++ s)) := by show _ = _; rw [str_append, hlist.out]
    have hc1 : ¬ (size : Int) - 6 < (n : Int) := by omega
    have HN := hid hn
    have HK := hid hk2
    have hb2 : (str (be 2 n)).size = 2 := by rw [str_size, be_length]
    have hb4 : (str (be 4 m)).size = 4 := by rw [str_size, be_length]
    have hns : n ≤ 1000 := by omega
    have hks : k ≤ 1000 := by omega
    clear hS hn hk hm hk2
    go_enter Tryd.func9, Tryd.ntmps9
    go_wp2_with fail
    refine (refNum_call 2 n (by omega) (by omega) (by omega) _ 2 rfl).mono ?_
    rintro e w1 ⟨rfl, s1⟩
    go_wp2_with fail
    rw [HA.out]
    go_loop [8] (fun t => ∃ j : Nat, j ≤ k ∧ t = .string (str (be 2 n ++ (s ++ zs j)))) (fun t => k + n + 2 - (match t with | .string b => b.size | _ => 0))
    case atStart => exact ⟨0, by omega, by simp [zs]⟩
    case round =>
      obtain ⟨j, hj, rfl⟩ := hrel
      obtain ⟨L, hL⟩ : ∃ L, be 2 n ++ (s ++ zs j) = L := ⟨_, rfl⟩
      have hLl : L.length = n + j + 2 := by rw [← hL]; simp [be_length, zs_length, HN.out]; omega
      have hLs : (str L).size = n + j + 2 := by rw [str_size, hLl]
      rw [hL]
      by_cases hlt : j < k
      · have c2 : ((n : Int) + j + 2) < (size : Int) - 4 := by have := HK.out; omega
        have HX : Hid (str L ++ ⟨#[0]⟩ = str (be 2 n ++ (s ++ zs (j + 1)))) := by
          show _ = _
          rw [str_append, ← hL, ← zs_snoc]; simp
        clear hL
        go_wp2_with fail
        go_round
        case rel => exact ⟨j + 1, by omega, by rw [HX.out]⟩
        case measure => rw [HX.out]; simp [str_size, be_length, zs_length, HN.out, hLl]; omega
      · obtain rfl : j = k := by omega
        have c2 : ¬ ((n : Int) + j + 2) < (size : Int) - 4 := by have := HK.out; omega
        have hLB : L = bod size s := by rw [← hL, HB.out]
        have HS : Hid (moreN 0 (str L).data.toList = m) := by show _ = _; rw [str_list, hLB, HMM.out]
        have HL : Hid (str (be 4 m) ++ str L = str (frm size s)) := by show _ = _; rw [str_app, hLB, HM.out]
        clear hL hLB
        go_wp2_with fail
        refine (refSum_call (str L) (by omega) _ m HS.out).mono ?_
        rintro e w2 ⟨rfl, rfl⟩
        go_wp2_with fail
        refine (refNum_call 4 m (by omega) (by omega) (by omega) _ 4 rfl).mono ?_
        rintro e w2 ⟨rfl, s2⟩
        go_wp2_with fail
        go_ret2
        exact ⟨by rw [← HL.out]; rfl, s1.trans s2⟩
  · have HF : Hid (frB size s = false ∧ frS size s = []) := by
      have : frB size s = false := by simp [frB]; omega
      exact ⟨this, by rw [frS, this]; rfl⟩
    rw [HF.out.1, HF.out.2]
    have hc1 : (size : Int) - 6 < (s.length : Int) := by omega
    clear hs
    go_enter Tryd.func9, Tryd.ntmps9
    go_wp2_with fail
    go_ret2
    exact ⟨rfl, Step.refl _ _⟩
end Go.Proofs.YthdcmobnookhdaaDoor
