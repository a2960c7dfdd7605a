/-
  The walk of the law CrcTurned.
-/
import Derived.Test.YtdlgacbmfhkamaaDoorCrcAwake
import Derived.Test.YtdlgacbmfhkamaaDoorBytes
namespace Go.Proofs.YtdlgacbmfhkamaaDoor
open Go.RowKit
set_option linter.unusedVariables false

theorem four_set (pre post : List Value) (a0 a1 a2 a3 b0 b1 b2 b3 : Value) (n : Nat) (hn : n = pre.length) :
    ((((pre ++ a0 :: a1 :: a2 :: a3 :: post).set n b0).set (n + 1) b1).set (n + 2) b2).set (n + 3) b3 = pre ++ b0 :: b1 :: b2 :: b3 :: post := by
  induction pre generalizing n with
  | nil => subst hn; rfl
  | cons p pre ih =>
    obtain ⟨q, rfl⟩ : ∃ q, n = q + 1 := ⟨n - 1, by simp at hn; omega⟩
    have h := ih q (by simpa using hn)
    simp only [List.cons_append, List.set_cons_succ, Nat.succ_add]
    exact congrArg (List.cons p) h

/-- A text, parted at four bytes. -/
theorem four_split (l : List UInt8) (i : Nat) (h : i + 3 < l.length) : ∃ pre post a0 a1 a2 a3, pre.length = i ∧ l = pre ++ a0 :: a1 :: a2 :: a3 :: post := by
  refine ⟨l.take i, l.drop (i + 4), l[i], l[i + 1], l[i + 2], l[i + 3], by simp; omega, ?_⟩
  conv => lhs; rw [← List.take_append_drop i l]
  rw [List.drop_eq_getElem_cons (by omega), List.drop_eq_getElem_cons (by omega), List.drop_eq_getElem_cons (by omega), List.drop_eq_getElem_cons (by omega)]

theorem cell_pre {w : World} {g : Nat} {A : Array Value} {e : TypeId} {fz : Nat × Nat} (hg : w.heap[g]? = some (.cells A e fz)) {xs ys : List Value} {v : Value} (hA : A.toList = xs ++ v :: ys) (n : Nat) (hn : n = xs.length) : w.cell? ⟨g, n, none⟩ = some v := by
  subst hn
  rw [cell_of_block hg, ← Array.getElem?_toList, hA]
  simp

theorem four_cells {w : World} {g : Nat} {A : Array Value} {e : TypeId} {fz : Nat × Nat} (hg : w.heap[g]? = some (.cells A e fz)) {xs ys : List Value} {v0 v1 v2 v3 : Value} (hA : A.toList = xs ++ v0 :: v1 :: v2 :: v3 :: ys) (n : Nat) (hn : n = xs.length) :
    w.cell? ⟨g, n, none⟩ = some v0 ∧ w.cell? ⟨g, n + 1, none⟩ = some v1 ∧ w.cell? ⟨g, n + 2, none⟩ = some v2 ∧ w.cell? ⟨g, n + 3, none⟩ = some v3 :=
  ⟨cell_pre hg hA n hn, cell_pre hg (xs := xs ++ [v0]) (ys := v2 :: v3 :: ys) (by rw [hA]; simp) (n + 1) (by simp [hn]), cell_pre hg (xs := xs ++ [v0, v1]) (ys := v3 :: ys) (by rw [hA]; simp) (n + 2) (by simp [hn]), cell_pre hg (xs := xs ++ [v0, v1, v2]) (ys := ys) (by rw [hA]; simp) (n + 3) (by simp [hn])⟩

theorem byte_of (n : Nat) (h : n < 256) : ∃ b : UInt8, b.toNat = n := ⟨UInt8.ofNat n, by simp [UInt8.toNat_ofNat']; omega⟩

set_option maxHeartbeats 4000000 in
set_option maxRecDepth 100000 in
theorem turned_on (s : ByteArray) (m : Nat) (hm : m < 4294967296) (h1 : s.size ≤ 1024) (h2 : 4 ≤ s.size) (h3 : ¬ m = 0) (z : Int) (w : World) (ht : Tabs w) :
    Calls Tryd.prog 6 #[.string s, .int .i64 z, .int .u32 m] w fun e w' => e = .returned (.bool true) ∧ Step noF w w' := by
  have k1 : ¬ (1024 : Int) < (s.size : Int) := by omega
  have k2 : ¬ (s.size : Int) < 4 := by omega
  have k3 : ((m : Int) == 0) = false := by simp; omega
  obtain ⟨i, hi, hil⟩ : ∃ i : Nat, wrap64 ((IntKind.u64.wrap z).tmod ((s.size : Int) - 3)) = (i : Int) ∧ i + 3 < s.size := by
    have h0 := wrap_u64_nonneg z
    have e : (IntKind.u64.wrap z).tmod ((s.size : Int) - 3) = (IntKind.u64.wrap z) % ((s.size : Int) - 3) := Int.tmod_eq_emod_of_nonneg h0
    have l0 := Int.emod_nonneg (IntKind.u64.wrap z) (b := (s.size : Int) - 3) (by omega)
    have l1 := Int.emod_lt_of_pos (IntKind.u64.wrap z) (b := (s.size : Int) - 3) (by omega)
    refine ⟨((IntKind.u64.wrap z) % ((s.size : Int) - 3)).toNat, ?_, by omega⟩
    rw [e]
    unfold wrap64
    omega
  obtain ⟨pre, post, a0, a1, a2, a3, hpre, hl⟩ := four_split s.data.toList i (by rw [list_len]; exact hil)
  have ml : ∀ k, m / 256 ^ k % 256 < 256 := fun k => Nat.mod_lt _ (by decide)
  obtain ⟨b0, hb0⟩ := byte_of (a0.toNat ^^^ m % 256) (Nat.xor_lt_two_pow (n := 8) a0.toNat_lt (Nat.mod_lt _ (by decide)))
  obtain ⟨b1, hb1⟩ := byte_of (a1.toNat ^^^ m / 256 % 256) (Nat.xor_lt_two_pow (n := 8) a1.toNat_lt (Nat.mod_lt _ (by decide)))
  obtain ⟨b2, hb2⟩ := byte_of (a2.toNat ^^^ m / 65536 % 256) (Nat.xor_lt_two_pow (n := 8) a2.toNat_lt (Nat.mod_lt _ (by decide)))
  obtain ⟨b3, hb3⟩ := byte_of (a3.toNat ^^^ m / 16777216 % 256) (Nat.xor_lt_two_pow (n := 8) a3.toNat_lt (Nat.mod_lt _ (by decide)))
  have x0 : bits .xor .u8 (a0.toNat : Int) ((m : Int) % 256) = (b0.toNat : Int) := by
    rw [show (m : Int) % 256 = ((m % 256 : Nat) : Int) by omega, u8_xor_nat _ _ a0.toNat_lt (Nat.mod_lt _ (by decide)), hb0]
  have x1 : bits .xor .u8 (a1.toNat : Int) ((m : Int) / 256 % 256) = (b1.toNat : Int) := by
    rw [show (m : Int) / 256 % 256 = ((m / 256 % 256 : Nat) : Int) by omega, u8_xor_nat _ _ a1.toNat_lt (Nat.mod_lt _ (by decide)), hb1]
  have x2 : bits .xor .u8 (a2.toNat : Int) ((m : Int) / 65536 % 256) = (b2.toNat : Int) := by
    rw [show (m : Int) / 65536 % 256 = ((m / 65536 % 256 : Nat) : Int) by omega, u8_xor_nat _ _ a2.toNat_lt (Nat.mod_lt _ (by decide)), hb2]
  have x3 : bits .xor .u8 (a3.toNat : Int) ((m : Int) / 16777216) = (b3.toNat : Int) := by
    rw [show (m : Int) / 16777216 = ((m / 16777216 % 256 : Nat) : Int) by omega, u8_xor_nat _ _ a3.toNat_lt (Nat.mod_lt _ (by decide)), hb3]
  obtain ⟨X, hX⟩ : ∃ X, str (pre ++ b0 :: b1 :: b2 :: b3 :: post) = X := ⟨_, rfl⟩
  obtain ⟨z1, hz1⟩ : ∃ z1, moreN 0 ([X].flatMap (·.data.toList)) = z1 := ⟨_, rfl⟩
  obtain ⟨z2, hz2⟩ : ∃ z2, moreN 0 ([s].flatMap (·.data.toList)) = z2 := ⟨_, rfl⟩
  have hne : ((z1 : Int) != (z2 : Int)) = true := by
    have h := turned_ne 0 (by decide) pre post a0 a1 a2 a3 b0 b1 b2 b3 (m % 256) (m / 256 % 256) (m / 65536 % 256) (m / 16777216 % 256) (Nat.mod_lt _ (by decide)) (Nat.mod_lt _ (by decide)) (Nat.mod_lt _ (by decide)) (Nat.mod_lt _ (by decide)) (by omega) hb0 hb1 hb2 hb3
    have e1 : z1 = moreN 0 (pre ++ b0 :: b1 :: b2 :: b3 :: post) := by rw [← hz1, ← hX]; simp [str_list]
    have e2 : z2 = moreN 0 (pre ++ a0 :: a1 :: a2 :: a3 :: post) := by rw [← hz2, ← hl]; simp
    rw [← e1, ← e2] at h
    simp
    omega
  have Z1 := hid hz1
  have Z2 := hid hz2
  have HX := hid hX
  have HXs : Hid (X.size = s.size) := by
    show _ = _
    rw [← hX, str_size, ← list_len s, hl]
    simp
  have HL := hid hl
  have HP := hid hpre
  clear hz1 hz2 hX hl hpre hb0 hb1 hb2 hb3 ml
  go_enter Tryd.func6, Tryd.ntmps6
  go_wp2_with fail
  refine (awake_any _ ht).mono ?_
  rintro e w1 ⟨rfl, s1⟩
  obtain ⟨cap, A, fz, wc, rest, hcv, sc, hblk, hA, hfz⟩ := conv_bytes (P := Tryd.prog) 9 35 5 Tryd.underlying9 Tryd.underlying35 Tryd.underlying5 s w1
  obtain ⟨g, hg⟩ : ∃ g, w1.heap.size = g := ⟨_, rfl⟩
  have HG := hid hg
  rw [hg] at hcv hblk hfz
  have hA2 : A.toList = cellsOf pre ++ Value.int .u8 a0.toNat :: Value.int .u8 a1.toNat :: Value.int .u8 a2.toNat :: Value.int .u8 a3.toNat :: (cellsOf post ++ rest) := by
    rw [hA, HL.out]; simp [cellsOf]
  have lp : (cellsOf pre).length = i := by rw [cellsOf_length]; exact HP.out
  obtain ⟨c0, c1, c2, c3⟩ := four_cells hblk hA2 i lp.symm
  have f0 := hfz i (by omega)
  have f1 := hfz (i + 1) (by omega)
  have f2 := hfz (i + 2) (by omega)
  have f3 := hfz (i + 3) (by omega)
  have hb4 := block_setCell (block_setCell (block_setCell (block_setCell hblk i (.int .u8 b0.toNat)) (i + 1) (.int .u8 b1.toNat)) (i + 2) (.int .u8 b2.toNat)) (i + 3) (.int .u8 b3.toNat)
  have hs := run_string_pre (P := Tryd.prog) _ 35 9 5 5 fz Tryd.underlying35 Tryd.underlying5 Tryd.underlying9 g cap s.size _ (pre ++ b0 :: b1 :: b2 :: b3 :: post) rest hb4
    (by
      rw [Array.toList_setIfInBounds, Array.toList_setIfInBounds, Array.toList_setIfInBounds, Array.toList_setIfInBounds, hA2, four_set _ _ _ _ _ _ _ _ _ _ i lp.symm]
      simp [cellsOf])
    (by rw [← HXs.out, ← HX.out, str_size])
  rw [HX.out] at hs
  have i1 : (i : Int) + 1 < (s.size : Int) := by omega
  have i2 : (i : Int) + 2 < (s.size : Int) := by omega
  have i3 : (i : Int) + 3 < (s.size : Int) := by omega
  have i0 : (i : Int) < (s.size : Int) := by omega
  have SC := hid sc
  have HB4 := hid hb4
  clear hblk hA hfz hA2 lp hb4 sc hg
  go_wp2_with fail
  have st : ∀ (v0 v1 v2 v3 : Value), Step noF w ((((wc.setCell ⟨g, i, none⟩ v0).setCell ⟨g, i + 1, none⟩ v1).setCell ⟨g, i + 2, none⟩ v2).setCell ⟨g, i + 3, none⟩ v3) := fun v0 v1 v2 v3 => by
    have hq : w.heap.size ≤ g := by rw [← HG.out]; exact s1.size
    exact ((((s1.trans SC.out).setCell (p := ⟨g, i, none⟩) (.inr hq) v0).setCell (p := ⟨g, i + 1, none⟩) (.inr hq) v1).setCell (p := ⟨g, i + 2, none⟩) (.inr hq) v2).setCell (p := ⟨g, i + 3, none⟩) (.inr hq) v3
  have tt := fun v0 v1 v2 v3 => ht.step (st v0 v1 v2 v3)
  refine (sum_call [X] 1 rfl (by simp) (by simp; rw [HXs.out]; omega) _ 1 _ ((tt _ _ _ _).step ((Step.refl _ _).alloc _)) (strs1 _ _ _ (by simp) _) z1 Z1.out).mono ?_
  rintro e w2 ⟨rfl, s2⟩
  have a2 := ((st _ _ _ _).alloc _).trans s2
  have t2 := ht.step a2
  go_wp2_with fail
  refine (sum_call [s] 1 rfl (by simp) (by simp; omega) _ 1 _ (t2.step ((Step.refl _ _).alloc _)) (strs1 _ _ _ rfl _) z2 Z2.out).mono ?_
  rintro e w3 ⟨rfl, s3⟩
  have a3 := (a2.alloc _).trans s3
  go_wp2_with fail
  go_ret
  exact ⟨rfl, a3⟩

set_option maxHeartbeats 2000000 in
set_option maxRecDepth 100000 in
theorem turned_walk (s : ByteArray) (hs : s.size ≤ 9223372036854775807) (z : Int) (m : Nat) (hm : m < 4294967296) (w : World) (ht : Tabs w) :
    Calls Tryd.prog 6 #[.string s, .int .i64 z, .int .u32 m] w fun e w' => e = .returned (.bool true) ∧ Step noF w w' := by
  by_cases h1 : 1024 < s.size
  · have k1 : (1024 : Int) < (s.size : Int) := by omega
    go_enter Tryd.func6, Tryd.ntmps6
    go_wp2_with (go_at_call 7; refine (awake_any _ ht).mono ?_; rintro e w1 ⟨rfl, s1⟩)
    go_ret
    exact ⟨rfl, s1⟩
  · have k1 : ¬ (1024 : Int) < (s.size : Int) := by omega
    by_cases h2 : s.size < 4
    · have k2 : (s.size : Int) < 4 := by omega
      go_enter Tryd.func6, Tryd.ntmps6
      go_wp2_with (go_at_call 7; refine (awake_any _ ht).mono ?_; rintro e w1 ⟨rfl, s1⟩)
      go_ret
      exact ⟨rfl, s1⟩
    · have k2 : ¬ (s.size : Int) < 4 := by omega
      by_cases h3 : m = 0
      · subst h3
        go_enter Tryd.func6, Tryd.ntmps6
        go_wp2_with (go_at_call 7; refine (awake_any _ ht).mono ?_; rintro e w1 ⟨rfl, s1⟩)
        go_ret
        exact ⟨rfl, s1⟩
      · exact turned_on s m hm (by omega) (by omega) h3 z w ht
end Go.Proofs.YtdlgacbmfhkamaaDoor
