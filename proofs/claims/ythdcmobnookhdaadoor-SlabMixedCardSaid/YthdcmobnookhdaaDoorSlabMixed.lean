/-
  The walk of the law SlabMixed.
-/
import Derived.Test.YthdcmobnookhdaaDoorSlabBack
namespace Go.Proofs.YthdcmobnookhdaaDoor
open Go.RowKit
set_option linter.unusedVariables false

def mixL (c : Nat → List UInt8) : Nat → List UInt8
  | 0 => []
  | j + 1 => mixL c j ++ c j
theorem mixL_four (c : Nat → List UInt8) : mixL c 4 = four c := by simp [mixL, four]
def cntK (k : Nat → Bool) : Nat → Nat
  | 0 => 0
  | j + 1 => cntK k j + (if k j then 1 else 0)
theorem cntK_le (k : Nat → Bool) : ∀ j, cntK k j ≤ j
  | 0 => Nat.le_refl _
  | j + 1 => by have := cntK_le k j; unfold cntK; split <;> omega
theorem cntK_zero (k : Nat → Bool) (h : cntK k 4 = 0) : ∀ i, i < 4 → k i = false := by
  simp only [cntK] at h
  intro i hi
  rcases (show i = 0 ∨ i = 1 ∨ i = 2 ∨ i = 3 by omega) with rfl | rfl | rfl | rfl
  all_goals
    cases hk : k _ with
    | false => rfl
    | true => simp [hk] at h
theorem cntK_four (k : Nat → Bool) (h : cntK k 4 = 4) : ∀ i, i < 4 → k i = true := by
  simp only [cntK] at h
  intro i hi
  have h0 : (if k 0 = true then 1 else 0) ≤ 1 := by split <;> omega
  have h1 : (if k 1 = true then 1 else 0) ≤ 1 := by split <;> omega
  have h2 : (if k 2 = true then 1 else 0) ≤ 1 := by split <;> omega
  have h3 : (if k 3 = true then 1 else 0) ≤ 1 := by split <;> omega
  rcases (show i = 0 ∨ i = 1 ∨ i = 2 ∨ i = 3 by omega) with rfl | rfl | rfl | rfl
  all_goals
    cases hk : k _ with
    | true => rfl
    | false => simp only [hk] at h; simp at h; omega
theorem cntK_mid (k : Nat → Bool) (h0 : cntK k 4 ≠ 0) (h4 : cntK k 4 ≠ 4) : ∃ i j, i < 4 ∧ j < 4 ∧ k i = false ∧ k j = true := by
  simp only [cntK] at h0 h4
  cases a : k 0 <;> cases b : k 1 <;> cases c : k 2 <;> cases d : k 3 <;> simp [a, b, c, d] at h0 h4
  all_goals first
    | exact ⟨0, 1, by omega, by omega, a, b⟩ | exact ⟨0, 2, by omega, by omega, a, c⟩ | exact ⟨0, 3, by omega, by omega, a, d⟩
    | exact ⟨1, 0, by omega, by omega, b, a⟩ | exact ⟨2, 0, by omega, by omega, c, a⟩ | exact ⟨3, 0, by omega, by omega, d, a⟩

/-- What a block of sectors of both is read as. -/
theorem mixed_all {e q e2 q2 : Nat} {s t : List UInt8} (hs : s.length ≤ 218) (ht : t.length ≤ 218) (h1 : canS e q = true) (h2 : canS e2 q2 = true) (hne : q ≠ q2) (k : Nat → Bool) (x : List UInt8) (hx : x = four (fun i => if k i then sct (stp e2 q2 t) i else sct (stp e q s) i)) :
    x.length = 256 ∧ (cntK k 4 = 0 → rdR x = 0 ∧ rdS x = s ∧ rdQ x = q) ∧ (cntK k 4 = 4 → rdR x = 0 ∧ rdS x = t ∧ rdQ x = q2) ∧ (cntK k 4 ≠ 0 → cntK k 4 ≠ 4 → rdR x = 5 ∧ rdS x = []) := by
  subst hx
  have la : (stp e q s).length = 256 := stp_length hs
  have lb : (stp e2 q2 t).length = 256 := stp_length ht
  refine ⟨?_, ?_, ?_, ?_⟩
  · apply four_length
    intro i hi
    show (if k i then _ else _ : List UInt8).length = 64
    split <;> rw [sct, List.length_take, List.length_drop] <;> omega
  · intro h
    have hk := cntK_zero k h
    have e1 : four (fun i => if k i then sct (stp e2 q2 t) i else sct (stp e q s) i) = stp e q s := by
      rw [← four_self _ la]
      unfold four
      simp only [hk 0 (by omega), hk 1 (by omega), hk 2 (by omega), hk 3 (by omega)]
      rw [show sct (sct (stp e q s) 0 ++ sct (stp e q s) 1 ++ sct (stp e q s) 2 ++ sct (stp e q s) 3) = sct (stp e q s) from congrArg sct (four_self _ la)]
      simp
    rw [e1]
    obtain ⟨r1, r2, r3, r4⟩ := read_stp hs h1
    exact ⟨r1, r2, r4⟩
  · intro h
    have hk := cntK_four k h
    have e1 : four (fun i => if k i then sct (stp e2 q2 t) i else sct (stp e q s) i) = stp e2 q2 t := by
      rw [← four_self _ lb]
      unfold four
      simp only [hk 0 (by omega), hk 1 (by omega), hk 2 (by omega), hk 3 (by omega)]
      rw [show sct (sct (stp e2 q2 t) 0 ++ sct (stp e2 q2 t) 1 ++ sct (stp e2 q2 t) 2 ++ sct (stp e2 q2 t) 3) = sct (stp e2 q2 t) from congrArg sct (four_self _ lb)]
      simp
    rw [e1]
    obtain ⟨r1, r2, r3, r4⟩ := read_stp ht h2
    exact ⟨r1, r2, r4⟩
  · intro h0 h4
    obtain ⟨i, j, hi, hj, hki, hkj⟩ := cntK_mid k h0 h4
    have hc1 := h1
    have hc2 := h2
    simp only [canS, decide_eq_true_eq] at hc1 hc2
    have h5 := mixed (e := e) (e2 := e2) hs ht (by omega) (by omega) hne k i j hi hj hki hkj
    exact ⟨h5, by rw [rdS, h5]; rfl⟩

def kOf (k0 k1 k2 k3 : Bool) : Nat → Bool
  | 0 => k0
  | 1 => k1
  | 2 => k2
  | _ => k3

set_option maxHeartbeats 4000000 in
set_option maxRecDepth 100000 in
theorem mixed_on (s t : List UInt8) (n m : Int) (k0 k1 k2 k3 : Bool) (w : World) (ht : Tabs w) (i k r : Nat) (hi : (IntKind.u64.wrap n).tmod 1000 = (i : Int)) (hk : (IntKind.u64.wrap m).tmod 1000 = (k : Int)) (hr : (k : Int).tmod 2 = (r : Int))
    (hil : i < 1000) (hkl : k < 1000) (hrl : r < 2) (a b : List UInt8) (c : Nat → List UInt8) (hc : Hid (∀ j, j < 4 → c j = if kOf k0 k1 k2 k3 j then sct b j else sct a j))
    (LA : Hid (str (stmS (1 + (i : Int)) k s) = str a ∧ stmE (1 + (i : Int)) k s = 0)) (LB : Hid (str (stmS (1 + (i : Int) + r) ((k : Int) + 1) t) = str b ∧ stmE (1 + (i : Int) + r) ((k : Int) + 1) t = 0))
    (HL : Hid (s.length ≤ 218 ∧ t.length ≤ 218 ∧ a.length = 256 ∧ b.length = 256 ∧ (four c).length = 256))
    (HR : Hid ((cntK (kOf k0 k1 k2 k3) 4 = 0 → raR (four c) = 0 ∧ str (raS (four c)) = str s ∧ raQ (four c) = k) ∧ (cntK (kOf k0 k1 k2 k3) 4 = 4 → raR (four c) = 0 ∧ str (raS (four c)) = str t ∧ raQ (four c) = (k : Int) + 1) ∧ (cntK (kOf k0 k1 k2 k3) 4 ≠ 0 → cntK (kOf k0 k1 k2 k3) 4 ≠ 4 → raR (four c) = 5 ∧ str (raS (four c)) = ⟨#[]⟩))) :
    Calls Tryd.prog 6 #[.string (str s), .string (str t), .int .i64 n, .int .i64 m, .agg #[.bool k0, .bool k1, .bool k2, .bool k3]] w fun e w' => e = .returned (.bool true) ∧ Step noF w w' := by
  have z1 := str_size s
  have z2 := str_size t
  have c1 : ¬ (218 : Int) < (s.length : Int) := by have := HL.out; omega
  have c2 : ¬ (218 : Int) < (t.length : Int) := by have := HL.out; omega
  have sa : (str a).size = 256 := by rw [str_size]; exact HL.out.2.2.1
  have sb : (str b).size = 256 := by rw [str_size]; exact HL.out.2.2.2.1
  have hkl2 : (k : Int) < 1000 := by omega
  have hil2 : (i : Int) < 1000 := by omega
  have hrl2 : (r : Int) < 2 := by omega
  have hr2 : (k : Int) % 2 = (r : Int) := by rw [← hr]; exact (Int.tmod_eq_emod_of_nonneg (by omega)).symm
  clear hil hkl hrl
  go_enter Tryd.func6, Tryd.ntmps6
  go_wp2_with fail
  refine (awake_any _ (ht.step ((Step.refl _ _).alloc _))).mono ?_
  rintro e w1 ⟨rfl, s1⟩
  have b0 : (w.alloc (.cells #[.bool k0, .bool k1, .bool k2, .bool k3] 42)).heap[w.heap.size]? = some (.cells #[.bool k0, .bool k1, .bool k2, .bool k3] 42 (0, 0)) := block_alloc_new _ _
  have B1 : Hid (w1.heap[w.heap.size]? = some (.cells #[.bool k0, .bool k1, .bool k2, .bool k3] 42 (0, 0))) := (s1.block _ (lt_of_block b0) (fun h => h)).trans b0
  have a1 := ((Step.refl noF w).alloc _).trans s1
  have t1 := ht.step a1
  clear b0 s1
  go_wp2_with fail
  refine (stamp_call (1 + (i : Int)) k s _ rfl (by have := HL.out; omega) _ t1 _ _ LA.out.1 LA.out.2).mono ?_
  rintro e w2 ⟨rfl, s2⟩
  have a2 := a1.trans s2
  have t2 := ht.step a2
  have B2 : Hid (w2.heap[w.heap.size]? = some (.cells #[.bool k0, .bool k1, .bool k2, .bool k3] 42 (0, 0))) := (s2.block _ (lt_of_block B1.out) (fun h => h)).trans B1.out
  clear B1 s2 t1 a1
  go_wp2_with fail
  refine (stamp_call (1 + (i : Int) + r) ((k : Int) + 1) t _ rfl (by have := HL.out; omega) _ t2 _ _ LB.out.1 LB.out.2).mono ?_
  rintro e w3 ⟨rfl, s3⟩
  have a3 := a2.trans s3
  have t3 := ht.step a3
  have B3 : Hid (w3.heap[w.heap.size]? = some (.cells #[.bool k0, .bool k1, .bool k2, .bool k3] 42 (0, 0))) := (s3.block _ (lt_of_block B2.out) (fun h => h)).trans B2.out
  have HC : Hid (∀ j, j < 4 → w3.cell? ⟨w.heap.size, j, none⟩ = some (.bool (kOf k0 k1 k2 k3 j))) := by
    intro j hj
    rw [cell_of_block B3.out]
    rcases (show j = 0 ∨ j = 1 ∨ j = 2 ∨ j = 3 by omega) with rfl | rfl | rfl | rfl <;> rfl
  clear B2 B3 s3 t2 a2
  go_wp2_with fail
  go_loop [17, 18, 19] (fun x f i => ∃ j : Nat, j ≤ 4 ∧ i = .int .i64 j ∧ f = .int .i64 (cntK (kOf k0 k1 k2 k3) j : Nat) ∧ x = .string (str (mixL c j))) (fun _ _ i => 4 - (intOf i).toNat)
  case atStart => exact ⟨0, by omega, rfl, rfl, rfl⟩
  case round =>
    obtain ⟨j, hj, rfl, rfl, rfl⟩ := hrel
    by_cases hlt : j < 4
    · obtain ⟨A, hA⟩ : ∃ A, 64 * j = A := ⟨_, rfl⟩
      have e1 : (64 : Int) * (j : Int) = (A : Int) := by omega
      have e2 : (A : Int) ≤ 192 := by omega
      have hcell := HC.out j hlt
      have hL : (str (mixL c j)).size ≤ 256 := by
        rw [str_size]
        have hl4 := HL.out
        have : ∀ j, j ≤ 4 → (mixL c j).length = 64 * j := by
          intro j
          induction j with
          | zero => intro _; rfl
          | succ j ih =>
            intro hj
            rw [mixL, List.length_append, ih (by omega), hc.out j (by omega)]
            split <;> rw [sct, List.length_take, List.length_drop] <;> omega
        rw [this j hj]; omega
      have hmix : mixL c (j + 1) = mixL c j ++ c j := rfl
      have hcj := hc.out j hlt
      obtain ⟨L, hL2⟩ : ∃ L, mixL c j = L := ⟨_, rfl⟩
      obtain ⟨N, hN⟩ : ∃ N, cntK (kOf k0 k1 k2 k3) j = N := ⟨_, rfl⟩
      have hN4 : (N : Int) ≤ 4 := by rw [← hN]; have := cntK_le (kOf k0 k1 k2 k3) j; omega
      have hN1 : cntK (kOf k0 k1 k2 k3) (j + 1) = N + (if kOf k0 k1 k2 k3 j then 1 else 0) := by rw [cntK, hN]
      rw [hL2] at hmix hL ⊢
      rw [hN]
      cases hkj : kOf k0 k1 k2 k3 j
      · rw [hkj] at hcell hcj hN1
        have HM : Hid (str L ++ (str a).extract A (A + 64) = str (mixL c (j + 1))) := by
          show _ = _
          rw [hmix, hcj, str_extract, List.drop_take, show A + 64 - A = 64 by omega, str_app, ← hA]
          rfl
        have HN : Hid (cntK (kOf k0 k1 k2 k3) (j + 1) = N) := by show _ = _; simpa using hN1
        have z3 : ((str a).extract A (A + 64)).size = 64 := by rw [ByteArray.size_extract, sa]; omega
        clear hmix hcj hN1 hL2 hN hA hkj
        go_wp2_with fail
        go_round
        case rel => exact ⟨j + 1, by omega, by go_num, by rw [HN.out], by rw [← HM.out]⟩
        case measure => simp [intOf]; omega
      · rw [hkj] at hcell hcj hN1
        have HM : Hid (str L ++ (str b).extract A (A + 64) = str (mixL c (j + 1))) := by
          show _ = _
          rw [hmix, hcj, str_extract, List.drop_take, show A + 64 - A = 64 by omega, str_app, ← hA]
          rfl
        have HN : Hid (((cntK (kOf k0 k1 k2 k3) (j + 1) : Nat) : Int) = (N : Int) + 1) := by show _ = _; rw [hN1]; rfl
        have z3 : ((str b).extract A (A + 64)).size = 64 := by rw [ByteArray.size_extract, sb]; omega
        clear hmix hcj hN1 hL2 hN hA hkj
        go_wp2_with fail
        go_round
        case rel => exact ⟨j + 1, by omega, by go_num, by rw [HN.out], by rw [← HM.out]⟩
        case measure => simp [intOf]; omega
    · obtain rfl : j = 4 := by omega
      rw [mixL_four]
      obtain ⟨N, hN⟩ : ∃ N, cntK (kOf k0 k1 k2 k3) 4 = N := ⟨_, rfl⟩
      have hN4 : (N : Int) ≤ 4 := by rw [← hN]; have := cntK_le (kOf k0 k1 k2 k3) 4; omega
      rw [hN] at HR ⊢
      have HL4 : Hid ((four c).length = 256) := HL.out.2.2.2.2
      obtain ⟨x, hx⟩ : ∃ x, four c = x := ⟨_, rfl⟩
      rw [hx] at HR HL4 ⊢
      clear hc hN hx HC
      by_cases h0 : N = 0
      · subst h0
        obtain ⟨r1, r2, r3⟩ := HR.out.1 rfl
        have H1 : Hid (raR x = 0 ∧ str (raS x) = str s ∧ raQ x = k) := ⟨r1, r2, r3⟩
        clear r1 r2 r3 HR
        go_wp2_with fail
        refine (read_call x _ rfl (by have := HL4.out; omega) _ t3 _ _ _ _ rfl H1.out.2.2 H1.out.2.1 H1.out.1).mono ?_
        rintro e w4 ⟨rfl, s4⟩
        go_wp2_with fail
        go_ret
        exact ⟨rfl, a3.trans s4⟩
      · by_cases h4 : N = 4
        · subst h4
          obtain ⟨r1, r2, r3⟩ := HR.out.2.1 rfl
          have H1 : Hid (raR x = 0 ∧ str (raS x) = str t ∧ raQ x = (k : Int) + 1) := ⟨r1, r2, r3⟩
          clear r1 r2 r3 HR h0
          go_wp2_with fail
          refine (read_call x _ rfl (by have := HL4.out; omega) _ t3 _ _ _ _ rfl H1.out.2.2 H1.out.2.1 H1.out.1).mono ?_
          rintro e w4 ⟨rfl, s4⟩
          go_wp2_with fail
          go_ret
          exact ⟨rfl, a3.trans s4⟩
        · obtain ⟨r1, r2⟩ := HR.out.2.2 h0 h4
          have H1 : Hid (raR x = 5 ∧ str (raS x) = ⟨#[]⟩) := ⟨r1, r2⟩
          have n0 : ¬ (N : Int) = 0 := by omega
          have n4 : ¬ (N : Int) = 4 := by omega
          clear r1 r2 HR h0 h4
          go_wp2_with fail
          refine (read_call x _ rfl (by have := HL4.out; omega) _ t3 _ _ _ _ rfl rfl H1.out.2 H1.out.1).mono ?_
          rintro e w4 ⟨rfl, s4⟩
          go_wp2_with fail
          go_ret
          exact ⟨rfl, a3.trans s4⟩

theorem mixed_in (s t : List UInt8) (hs : s.length ≤ 218) (ht0 : t.length ≤ 218) (n m : Int) (k0 k1 k2 k3 : Bool) (w : World) (ht : Tabs w) :
    Calls Tryd.prog 6 #[.string (str s), .string (str t), .int .i64 n, .int .i64 m, .agg #[.bool k0, .bool k1, .bool k2, .bool k3]] w fun e w' => e = .returned (.bool true) ∧ Step noF w w' := by
  obtain ⟨i, hi, hil⟩ := mod_at n 1000 (by omega) (by omega)
  obtain ⟨k, hk, hkl⟩ := mod_at m 1000 (by omega) (by omega)
  obtain ⟨r, hr⟩ : ∃ r, k % 2 = r := ⟨_, rfl⟩
  have hrl : r < 2 := by omega
  have hr2 : (k : Int).tmod 2 = (r : Int) := by rw [Int.tmod_eq_emod_of_nonneg (by omega)]; omega
  have c1 : canS ((1 + i : Nat) : Int) (k : Int) = true := by simp only [canS, decide_eq_true_eq]; omega
  have c2 : canS ((1 + i + r : Nat) : Int) ((k + 1 : Nat) : Int) = true := by simp only [canS, decide_eq_true_eq]; omega
  have B : ∀ (x : List UInt8) (p q : Int) (p' q' : Nat), x.length ≤ 218 → canS p' q' = true → p = p' → q = q' → stmS p q x = stp p' q' x ∧ stmE p q x = 0 := by
    intro x p q p' q' hx hc hp hq
    subst hp hq
    have hB : stmB p' q' x = true := by rw [stmB, hc]; simp [hx]
    refine ⟨?_, by rw [stmE, if_pos hB]⟩
    rw [stmS, if_pos hB]
    rfl
  have A1 := B s (1 + (i : Int)) k (1 + i) k hs c1 (by omega) rfl
  have A2 := B t (1 + (i : Int) + r) ((k : Int) + 1) (1 + i + r) (k + 1) ht0 c2 (by omega) (by omega)
  obtain ⟨x1, x2, x3, x4⟩ := mixed_all hs ht0 c1 c2 (by omega) (kOf k0 k1 k2 k3) _ rfl
  obtain ⟨u1, u2, u3, u4⟩ := raAll x1
  refine mixed_on s t n m k0 k1 k2 k3 w ht i k r hi hk hr2 hil hkl hrl (stp (1 + i) k s) (stp (1 + i + r) (k + 1) t) (fun j => if kOf k0 k1 k2 k3 j then sct (stp (1 + i + r) (k + 1) t) j else sct (stp (1 + i) k s) j) (fun j _ => rfl) ⟨by rw [A1.1], A1.2⟩ ⟨by rw [A2.1], A2.2⟩
    ⟨hs, ht0, stp_length hs, stp_length ht0, x1⟩ ⟨fun h => ?_, fun h => ?_, fun h h2 => ?_⟩
  · obtain ⟨y1, y2, y3⟩ := x2 h
    exact ⟨u4.trans y1, by rw [u3, y2], u2.trans y3⟩
  · obtain ⟨y1, y2, y3⟩ := x3 h
    exact ⟨u4.trans y1, by rw [u3, y2], by rw [u2, y3]; omega⟩
  · obtain ⟨y1, y2⟩ := x4 h h2
    exact ⟨u4.trans y1, by rw [u3, y2]; rfl⟩

set_option maxHeartbeats 2000000 in
set_option maxRecDepth 100000 in
theorem mixed_walk (s t : List UInt8) (hs : s.length ≤ 9223372036854775807) (ht0 : t.length ≤ 9223372036854775807) (n m : Int) (k0 k1 k2 k3 : Bool) (w : World) (ht : Tabs w) :
    Calls Tryd.prog 6 #[.string (str s), .string (str t), .int .i64 n, .int .i64 m, .agg #[.bool k0, .bool k1, .bool k2, .bool k3]] w fun e w' => e = .returned (.bool true) ∧ Step noF w w' := by
  have z1 := str_size s
  have z2 := str_size t
  by_cases h1 : 218 < s.length
  · have c1 : (218 : Int) < (s.length : Int) := by omega
    clear h1
    go_enter Tryd.func6, Tryd.ntmps6
    go_wp2_with (go_at_call 7; refine (awake_any _ (ht.step ((Step.refl _ _).alloc _))).mono ?_; rintro e w1 ⟨rfl, s1⟩)
    go_ret
    exact ⟨rfl, ((Step.refl noF w).alloc _).trans s1⟩
  · by_cases h2 : 218 < t.length
    · have c1 : ¬ (218 : Int) < (s.length : Int) := by omega
      have c2 : (218 : Int) < (t.length : Int) := by omega
      clear h1 h2
      go_enter Tryd.func6, Tryd.ntmps6
      go_wp2_with (go_at_call 7; refine (awake_any _ (ht.step ((Step.refl _ _).alloc _))).mono ?_; rintro e w1 ⟨rfl, s1⟩)
      go_ret
      exact ⟨rfl, ((Step.refl noF w).alloc _).trans s1⟩
    · exact mixed_in s t (by omega) (by omega) n m k0 k1 k2 k3 w ht
end Go.Proofs.YthdcmobnookhdaaDoor
