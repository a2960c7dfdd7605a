/-
  The walk of the law CrcParts.
-/
import Derived.Test.YtdlgacbmfhkamaaDoorCrcAwake
import Derived.Test.YtdlgacbmfhkamaaDoorCrcDraw
namespace Go.Proofs.YtdlgacbmfhkamaaDoor
open Go.RowKit
set_option linter.unusedVariables false

theorem mod_place (z : Int) (n : Nat) (hn : n ≤ 2000) : ∃ i : Nat, wrap64 ((IntKind.u64.wrap z).tmod ((n : Int) + 1)) = (i : Int) ∧ i ≤ n := by
  have h0 := wrap_u64_nonneg z
  have e : (IntKind.u64.wrap z).tmod ((n : Int) + 1) = (IntKind.u64.wrap z) % ((n : Int) + 1) := Int.tmod_eq_emod_of_nonneg h0
  have l0 := Int.emod_nonneg (IntKind.u64.wrap z) (b := (n : Int) + 1) (by omega)
  have l1 := Int.emod_lt_of_pos (IntKind.u64.wrap z) (b := (n : Int) + 1) (by omega)
  refine ⟨((IntKind.u64.wrap z) % ((n : Int) + 1)).toNat, ?_, by omega⟩
  rw [e]
  unfold wrap64
  omega

theorem parts_split (s : ByteArray) (i j : Nat) (h : i ≤ j) (h2 : j ≤ s.size) : (s.extract 0 i).data.toList ++ ((s.extract i j).data.toList ++ (s.extract j s.size).data.toList) = s.data.toList := by
  rw [str_of s, str_extract, str_extract, str_extract, str_list, str_list, str_list, str_list, str_size]
  rw [← list_len] at h2
  generalize s.data.toList = l at *
  rw [List.drop_zero, List.take_length]
  have e1 : l.take i ++ (l.take j).drop i = l.take j := by
    conv => rhs; rw [← List.take_append_drop i (l.take j), List.take_take, Nat.min_eq_left h]
  rw [← List.append_assoc, e1, List.take_append_drop]

set_option maxHeartbeats 4000000 in
set_option maxRecDepth 100000 in
theorem parts_on (s : ByteArray) (h1 : s.size ≤ 1024) (za zb : Int) (w : World) (ht : Tabs w) :
    Calls Tryd.prog 5 #[.string s, .int .i64 za, .int .i64 zb] w fun e w' => e = .returned (.bool true) ∧ Step noF w w' := by
  have k1 : ¬ (1024 : Int) < (s.size : Int) := by omega
  obtain ⟨i, hi, hil⟩ := mod_place za s.size (by omega)
  obtain ⟨d, hd, hdl⟩ := mod_place zb (s.size - i) (by omega)
  have e0 : (((s.size - i : Nat) : Int) + 1) = (s.size : Int) - (i : Int) + 1 := by omega
  rw [e0] at hd
  clear e0
  obtain ⟨n, hn⟩ : ∃ n, moreN 0 ([s].flatMap (·.data.toList)) = n := ⟨_, rfl⟩
  have hnl : n < 4294967296 := by rw [← hn]; exact moreN_lt _ _ (by decide)
  have HN := hid hn
  clear hn
  go_enter Tryd.func5, Tryd.ntmps5
  go_wp2_with fail
  refine (awake_any _ ht).mono ?_
  rintro e w1 ⟨rfl, s1⟩
  go_wp2_with fail
  refine (sum_call [s] 1 rfl (by simp) (by simp; omega) _ 1 _ ((ht.step s1).step ((Step.refl _ _).alloc _)) (strs1 _ _ _ rfl _) n HN.out).mono ?_
  rintro e w2 ⟨rfl, s2⟩
  have a2 := (s1.alloc _).trans s2
  have t2 := ht.step a2
  clear hd s1 s2
  go_wp2_with fail
  obtain ⟨j, hj⟩ : ∃ j, i + d = j := ⟨_, rfl⟩
  have ej : (i : Int) + (d : Int) = (j : Int) := by omega
  simp only [ej]
  have b1 : (0 : Int) ≤ (i : Int) := by omega
  have b2 : (i : Int) ≤ (j : Int) := by omega
  have b3 : (j : Int) ≤ (s.size : Int) := by omega
  have b4 : (i : Int) ≤ (s.size : Int) := by omega
  have b5 : i ≤ j := by omega
  have b6 : j ≤ s.size := by omega
  have b7 : i ≤ s.size := by omega
  have split := parts_split s i j b5 b6
  obtain ⟨A, hA⟩ : ∃ A, s.extract 0 i = A := ⟨_, rfl⟩
  obtain ⟨B, hB⟩ : ∃ B, s.extract i j = B := ⟨_, rfl⟩
  obtain ⟨C, hC⟩ : ∃ C, s.extract j s.size = C := ⟨_, rfl⟩
  rw [hA, hB, hC] at split
  obtain ⟨p, hp⟩ : ∃ p, moreN 0 ([A].flatMap (·.data.toList)) = p := ⟨_, rfl⟩
  obtain ⟨q, hq⟩ : ∃ q, moreN p ([B].flatMap (·.data.toList)) = q := ⟨_, rfl⟩
  have hpl : p < 4294967296 := by rw [← hp]; exact moreN_lt _ _ (by decide)
  have hql : q < 4294967296 := by rw [← hq]; exact moreN_lt _ _ hpl
  have Z1 : Hid (moreN 0 ([A, B, C].flatMap (·.data.toList)) = n) := by show _ = _; rw [← HN.out]; simp [split]
  have Z2 : Hid (moreN p ([B, C].flatMap (·.data.toList)) = n) := by show _ = _; rw [← HN.out, ← hp, moreN_moreN]; simp [split]
  have Z3 : Hid (moreN q ([C].flatMap (·.data.toList)) = n) := by show _ = _; rw [← HN.out, ← hq, ← hp, moreN_moreN, moreN_moreN]; simp [split]
  have Z4 : Hid (moreN n ([].flatMap (fun t : ByteArray => t.data.toList)) = n) := moreN_nil n
  have HP := hid hp
  have HQ := hid hq
  have SA : Hid (A.size ≤ 9223372036854775807) := by show _ ≤ _; rw [← hA, ByteArray.size_extract]; omega
  have SB : Hid (B.size ≤ 9223372036854775807) := by show _ ≤ _; rw [← hB, ByteArray.size_extract]; omega
  have SC : Hid (C.size ≤ 9223372036854775807) := by show _ ≤ _; rw [← hC, ByteArray.size_extract]; omega
  have L1 : ∀ wx, (Instr.slice 9 (.string s) none (some (.int .i64 i)) none).run Tryd.prog wx = .ok (.string A) wx := fun wx => by
    rw [run_slice_string_to_if (P := Tryd.prog) wx 9 s .i64 i Tryd.underlying9, if_pos ⟨b1, b4⟩, Int.toNat_natCast, hA]
  have L2 : ∀ wx, (Instr.slice 9 (.string s) (some (.int .i64 i)) (some (.int .i64 j)) none).run Tryd.prog wx = .ok (.string B) wx := fun wx => by
    rw [run_slice_string (P := Tryd.prog) wx 9 s .i64 .i64 i j Tryd.underlying9 b1 b2 b3, Int.toNat_natCast, Int.toNat_natCast, hB]
  have L3 : ∀ wx, (Instr.slice 9 (.string s) (some (.int .i64 j)) none none).run Tryd.prog wx = .ok (.string C) wx := fun wx => by
    rw [run_slice_string_from_if (P := Tryd.prog) wx 9 s .i64 j Tryd.underlying9, if_pos ⟨by omega, b3⟩, Int.toNat_natCast, hC]
  change Code.wp Tryd.prog (Code.region 8 ((Tryd.f5.body.bind (regionOps 8)).getD #[]) true) _ _ _
  refine wp_region_slots noF (partsSp s A B C i j n p q) partsDl (by kernel_rfl) parts_back parts_dl parts_nd parts_lt ?_ ?_
  · intro ix hix a w3 hst hoth hat
    exact parts_step s A B C i j n p q L1 L2 L3 SA.out SB.out SC.out hnl hpl hql Z1.out hp hq Z2.out Z3.out ix (by rw [parts_size] at hix; exact hix) a w3 (t2.step hst) ((hoth 0 (by decide)).trans rfl) ((hoth 7 (by decide)).trans (by first | rfl | exact int_eq hi)) ((hoth 8 (by decide)).trans rfl) ((hoth 9 (by decide)).trans rfl) hat
  · intro a w3 hst hdef hoth hall
    have h6 := hall 58 (by rw [parts_size]; decide) (is (.bool true)) (some 6) rfl rfl
    change a.tmps.getD 6 undef = .bool true at h6
    simp only [Exit.then]
    refine ‹∀ (a : Act) (w : World), Code.wp _ Code.ret _ a w → _› a w3 ?_
    refine wp_ret ?_
    change bodyPost Tryd.prog Tryd.f5 _ Exit.ret a w3
    refine bodyPost_ret (v := .bool true) ((results_tmp rfl _ _ _).trans (by rw [h6])) hdef ⟨rfl, a2.trans hst⟩

set_option maxHeartbeats 1000000 in
theorem parts_walk (s : ByteArray) (hs : s.size ≤ 9223372036854775807) (za zb : Int) (w : World) (ht : Tabs w) :
    Calls Tryd.prog 5 #[.string s, .int .i64 za, .int .i64 zb] w fun e w' => e = .returned (.bool true) ∧ Step noF w w' := by
  by_cases h1 : s.size ≤ 1024
  · exact parts_on s h1 za zb w ht
  · have k1 : (1024 : Int) < (s.size : Int) := by omega
    go_enter Tryd.func5, Tryd.ntmps5
    go_wp2_with (go_at_call 7; refine (awake_any _ ht).mono ?_; rintro e w1 ⟨rfl, s1⟩)
    go_ret
    exact ⟨rfl, s1⟩
end Go.Proofs.YtdlgacbmfhkamaaDoor
