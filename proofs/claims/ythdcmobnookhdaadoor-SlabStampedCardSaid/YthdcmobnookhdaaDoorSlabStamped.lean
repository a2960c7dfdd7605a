/-
  The walk of the law SlabStamped.
-/
import Derived.Test.YthdcmobnookhdaaDoorSlabAwake
import Derived.Test.YthdcmobnookhdaaDoorSlabT
namespace Go.Proofs.YthdcmobnookhdaaDoor
open Go.RowKit
set_option linter.unusedVariables false

theorem refStamp_call (e q : Int) (s : List UInt8) (S : ByteArray) (hS : str s = S) (hs : s.length ≤ 9223372036854775807) (w : World) (X : ByteArray) (x : Bool) (h1 : str (stmS e q s) = X) (h2 : stmB e q s = x) :
    Calls Tryd.prog 13 #[.int .i64 e, .int .i64 q, .string S] w fun r w' => r = .returned (.tuple #[.string X, .bool x]) ∧ Step noF w w' := by
  subst hS h1 h2; exact refStamp_any e q s hs w
theorem refRead_call (b : List UInt8) (S : ByteArray) (hS : str b = S) (hs : b.length = 256) (w : World) (e q : Int) (X : ByteArray) (x : Int) (h1 : rdP b = e) (h2 : rdQ b = q) (h3 : str (rdS b) = X) (h4 : rdR b = x) :
    Calls Tryd.prog 16 #[.string S] w fun r w' => r = .returned (.tuple #[.int .i64 e, .int .i64 q, .string X, .int .i64 x]) ∧ Step noF w w' := by
  subst hS h1 h2 h3 h4; exact refRead_any b hs w

/-- Whether all of the first j bytes are 0, and there are 256. -/
def blk (b : List UInt8) (j : Nat) : Bool := decide (b.length = 256) && (b.take j).all (· == 0)
theorem blk_all (b : List UInt8) : blk b b.length = decide (b = zs 256) := by
  unfold blk
  rw [List.take_length, Bool.eq_iff_iff]
  simp only [Bool.and_eq_true, decide_eq_true_eq, List.all_eq_true, beq_iff_eq]
  constructor
  · rintro ⟨h1, h2⟩
    unfold zs
    rw [List.eq_replicate_iff]
    exact ⟨h1, h2⟩
  · rintro rfl
    exact ⟨zs_length _, fun x hx => (List.mem_replicate.1 hx).2⟩
theorem blk_succ (b : List UInt8) (j : Nat) (h : j < b.length) : blk b (j + 1) = (blk b j && (b[j] == 0)) := by
  unfold blk
  rw [List.take_succ_eq_append_getElem h, List.all_append]
  simp [Bool.and_assoc]
theorem str_at (b : List UInt8) (j : Nat) (h : j < b.length) (h2 : j < (str b).size) : (str b)[j] = b[j] := by
  rfl

set_option maxHeartbeats 2000000 in
set_option maxRecDepth 100000 in
theorem stamped_in (e q : Int) (s b : List UInt8) (hs : s.length ≤ 300) (hb : b.length ≤ 300) (w : World) (ht : Tabs w) :
    Calls Tryd.prog 4 #[.int .i64 e, .int .i64 q, .string (str s), .string (str b)] w fun r w' => r = .returned (.bool true) ∧ Step noF w w' := by
  have z1 := str_size s
  have z2 := str_size b
  have k1 : ¬ (300 : Int) < (s.length : Int) := by omega
  have k2 : ¬ (300 : Int) < (b.length : Int) := by omega
  have HL : Hid (s.length ≤ 300 ∧ b.length ≤ 300) := ⟨hs, hb⟩
  obtain ⟨X, hX⟩ : ∃ X, str (stmS e q s) = X := ⟨_, rfl⟩
  obtain ⟨x, y, hx⟩ : ∃ x y, stmB e q s = x ∧ stmE e q s = y ∧ (x = (y == 0)) ∧ (x = true ∨ y = 1) := by
    refine ⟨_, _, rfl, rfl, ?_, ?_⟩
    · unfold stmE; cases stmB e q s <;> rfl
    · unfold stmE; cases stmB e q s <;> simp
  have L1 : Hid (str (stmS e q s) = X ∧ stmE e q s = y) := ⟨hX, hx.2.1⟩
  have L2 : Hid (str (stmS e q s) = X ∧ stmB e q s = x) := ⟨hX, hx.1⟩
  have hxy := hx.2.2
  obtain ⟨E, hE⟩ : ∃ E, raE b = E := ⟨_, rfl⟩
  obtain ⟨Q, hQ⟩ : ∃ Q, raQ b = Q := ⟨_, rfl⟩
  obtain ⟨T, hT⟩ : ∃ T, str (raS b) = T := ⟨_, rfl⟩
  obtain ⟨R, hR⟩ : ∃ R, raR b = R := ⟨_, rfl⟩
  have L3 : Hid (raE b = E ∧ raQ b = Q ∧ str (raS b) = T ∧ raR b = R) := ⟨hE, hQ, hT, hR⟩
  have HA := hid (blk_all b)
  clear hs hb hX hx hE hQ hT hR
  have hy : (x = true ∧ y = 0) ∨ (x = false ∧ y = 1) := by
    obtain ⟨h1, h2⟩ := hxy
    cases x
    · simp at h2; exact .inr ⟨rfl, h2⟩
    · simp at h1; exact .inl ⟨rfl, h1⟩
  clear hxy
  have fin : (b.length = 256 ∧ Hid (rdP b = E ∧ rdQ b = Q ∧ str (rdS b) = T ∧ rdR b = R)) ∨ (¬ (b.length : Int) = 256 ∧ E = 0 ∧ Q = 0 ∧ T = ⟨#[]⟩ ∧ R = 1) := by
    have h := L3.out
    by_cases h2 : b.length = 256
    · obtain ⟨q1, q2, q3, q4⟩ := raAll h2
      rw [q1, q2, q3, q4] at h
      exact .inl ⟨h2, h⟩
    · refine .inr ⟨by omega, ?_, ?_, ?_, ?_⟩
      · rw [← h.1, raE, if_neg h2]
      · rw [← h.2.1, raQ, if_neg h2]
      · rw [← h.2.2.1, raS, if_neg h2]; rfl
      · rw [← h.2.2.2, raR, if_neg h2]
  have FIN := hid fin
  clear fin
  have DB : ((b.length : Int) == 256) = blk b 0 := by
    unfold blk
    rw [Bool.eq_iff_iff]
    simp
    omega
  have HDB := hid DB
  clear DB
  rcases hy with ⟨rfl, rfl⟩ | ⟨rfl, rfl⟩
  all_goals
    go_enter Tryd.func4, Tryd.ntmps4
    go_wp2_with (go_at_call 7; refine (awake_any _ ht).mono ?_; rintro r w1 ⟨rfl, s1⟩)
    have t1 := ht.step s1
    refine (stamp_call e q s _ rfl (by have := HL.out; omega) _ t1 _ _ L1.out.1 L1.out.2).mono ?_
    rintro r w2 ⟨rfl, s2⟩
    have a2 := s1.trans s2
    clear s1 s2 t1
    go_wp2_with fail
    refine (refStamp_call e q s _ rfl (by have := HL.out; omega) _ _ _ L2.out.1 L2.out.2).mono ?_
    rintro r w3 ⟨rfl, s3⟩
    have a3 := a2.trans s3
    have t3 := ht.step a3
    clear a2 s3
    go_wp2_with fail
    go_loop [13, 14] (fun t i => ∃ j : Nat, j ≤ b.length ∧ i = .int .i64 j ∧ t = .bool (blk b j)) (fun _ i => b.length - (intOf i).toNat)
    case atStart => exact ⟨0, Nat.zero_le _, rfl, by rw [HDB.out]⟩
    case round =>
      obtain ⟨j, hj, rfl, rfl⟩ := hrel
      by_cases hlt : j < b.length
      · have hjs : j < (str b).size := by omega
        have hv : (str b)[j] = b[j] := str_at b j hlt hjs
        have hS := blk_succ b j hlt
        have h8 := b[j].toNat_lt
        have hz : ((b[j].toNat : Int) == 0) = (b[j] == 0) := by
          rw [Bool.eq_iff_iff]; simp
          rw [← UInt8.toNat_inj]; simp
        generalize b[j] = v at *
        cases hB : blk b j
        · rw [hB, Bool.false_and] at hS
          have HS := hid hS
          clear hS hz hv
          go_wp2_with fail
          go_round
          case rel => exact ⟨j + 1, by omega, by go_num, by rw [HS.out]⟩
          case measure => simp [intOf]; omega
        · rw [hB, Bool.true_and] at hS
          have HS := hid hS
          have HZ := hid hz
          clear hS hz
          go_wp2_with fail
          go_round
          case rel => exact ⟨j + 1, by omega, by go_num, by rw [HS.out, ← HZ.out]⟩
          case measure => simp [intOf]; omega
      · obtain rfl : j = b.length := by omega
        rw [HA.out]
        obtain ⟨d, hd⟩ : ∃ d, decide (b = zs 256) = d := ⟨_, rfl⟩
        have HD := hid hd
        rw [hd]
        clear hd
        go_wp2_with fail
        refine (read_call b _ rfl (by have := HL.out; omega) _ t3 _ _ _ _ L3.out.1 L3.out.2.1 L3.out.2.2.1 L3.out.2.2.2).mono ?_
        rintro r w4 ⟨rfl, s4⟩
        go_wp2_with fail
        refine (blank_call b _ rfl _ d HD.out).mono ?_
        rintro r w5 ⟨rfl, s5⟩
        have a5 := (a3.trans s4).trans s5
        clear s4 s5 a3
        rcases FIN.out with ⟨h2, HR⟩ | ⟨h2, rfl, rfl, rfl, rfl⟩
        · have k3 : (b.length : Int) = 256 := by omega
          go_wp2_with fail
          refine (refRead_call b _ rfl h2 _ _ _ _ _ HR.out.1 HR.out.2.1 HR.out.2.2.1 HR.out.2.2.2).mono ?_
          rintro r w6 ⟨rfl, s6⟩
          go_wp2_with fail
          go_ret
          exact ⟨rfl, a5.trans s6⟩
        · go_wp2_with fail
          go_ret
          exact ⟨rfl, a5⟩

set_option maxHeartbeats 2000000 in
set_option maxRecDepth 100000 in
theorem stamped_walk (e q : Int) (s b : List UInt8) (hs : s.length ≤ 9223372036854775807) (hb : b.length ≤ 9223372036854775807) (w : World) (ht : Tabs w) :
    Calls Tryd.prog 4 #[.int .i64 e, .int .i64 q, .string (str s), .string (str b)] w fun r w' => r = .returned (.bool true) ∧ Step noF w w' := by
  have z1 := str_size s
  have z2 := str_size b
  by_cases h1 : 300 < s.length
  · have k1 : (300 : Int) < (s.length : Int) := by omega
    clear h1
    go_enter Tryd.func4, Tryd.ntmps4
    go_wp2_with (go_at_call 7; refine (awake_any _ ht).mono ?_; rintro e w1 ⟨rfl, s1⟩)
    go_ret
    exact ⟨rfl, s1⟩
  · by_cases h2 : 300 < b.length
    · have k1 : ¬ (300 : Int) < (s.length : Int) := by omega
      have k2 : (300 : Int) < (b.length : Int) := by omega
      clear h1 h2
      go_enter Tryd.func4, Tryd.ntmps4
      go_wp2_with (go_at_call 7; refine (awake_any _ ht).mono ?_; rintro e w1 ⟨rfl, s1⟩)
      go_ret
      exact ⟨rfl, s1⟩
    · exact stamped_in e q s b (by omega) (by omega) w ht
end Go.Proofs.YthdcmobnookhdaaDoor
