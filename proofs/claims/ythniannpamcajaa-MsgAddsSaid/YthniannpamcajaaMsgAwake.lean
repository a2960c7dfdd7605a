/-
  The law's own check: answers that the document fixes by number.
-/
import Derived.Test.YthniannpamcajaaMsgB
import Derived.Test.YthniannpamcajaaMsgAwR
namespace Go.Proofs.Ythniannpamcajaa
open Go.RowKit
set_option linter.unusedVariables false
set_option linter.unusedSimpArgs false

set_option maxHeartbeats 4000000 in
set_option maxRecDepth 100000 in
theorem awake_any (w : World) : Calls Try.prog 9 #[] w fun e w' => e = .returned (.bool true) ∧ Step noF w w' := by
  have n1 : ∀ u, Calls Try.prog 16 #[.string ⟨#[97]⟩, .string ⟨#[0, 0, 0, 0, 0, 0, 0, 5]⟩] u fun e w' => e = .returned (.agg #[.int .i64 1, .string ⟨#[97]⟩, .string ⟨#[0, 0, 0, 0, 0, 0, 0, 5]⟩]) ∧ Step noF u w' := fun u => ofPut_any [97] [0, 0, 0, 0, 0, 0, 0, 5] u
  have n2 : ∀ u, Calls Try.prog 18 #[.string ⟨#[97]⟩, .int .u64 7] u fun e w' => e = .returned (.agg #[.int .i64 3, .string ⟨#[97]⟩, .string ⟨#[0, 0, 0, 0, 0, 0, 0, 7]⟩]) ∧ Step noF u w' := fun u => ofAdd_any [97] 7 (by omega) u
  have n3 : ∀ u, Calls Try.prog 20 #[.agg #[.int .i64 1, .string ⟨#[97]⟩, .string ⟨#[0, 0, 0, 0, 0, 0, 0, 5]⟩], .agg #[.int .i64 3, .string ⟨#[97]⟩, .string ⟨#[0, 0, 0, 0, 0, 0, 0, 7]⟩]] u fun e w' => e = .returned (.tuple #[.agg #[.int .i64 1, .string ⟨#[97]⟩, .string ⟨#[0, 0, 0, 0, 0, 0, 0, 12]⟩], .int .i64 0]) ∧ Step noF u w' := fun u => by
    have h := then_any ⟨1, [97], [0, 0, 0, 0, 0, 0, 0, 5]⟩ ⟨3, [97], [0, 0, 0, 0, 0, 0, 0, 7]⟩ (by decide) (by decide) u
    have e : Mg.thenR ⟨1, [97], [0, 0, 0, 0, 0, 0, 0, 5]⟩ ⟨3, [97], [0, 0, 0, 0, 0, 0, 0, 7]⟩ = .tuple #[.agg #[.int .i64 1, .string ⟨#[97]⟩, .string ⟨#[0, 0, 0, 0, 0, 0, 0, 12]⟩], .int .i64 0] := by kernel_rfl
    rw [e] at h
    exact h
  have n4 : ∀ u, Calls Try.prog 18 #[.string ⟨#[97]⟩, .int .u64 1] u fun e w' => e = .returned (.agg #[.int .i64 3, .string ⟨#[97]⟩, .string ⟨#[0, 0, 0, 0, 0, 0, 0, 1]⟩]) ∧ Step noF u w' := fun u => ofAdd_any [97] 1 (by omega) u
  have n5 : ∀ u, Calls Try.prog 11 #[.agg #[.int .i64 3, .string ⟨#[97]⟩, .string ⟨#[0, 0, 0, 0, 0, 0, 0, 1]⟩], .string ⟨#[0, 0, 0, 0, 0, 0, 0, 5]⟩, .bool true] u fun e w' => e = .returned (.tuple #[.string ⟨#[0, 0, 0, 0, 0, 0, 0, 6]⟩, .bool true]) ∧ Step noF u w' := fun u => by
    have h := apply_any ⟨3, [97], [0, 0, 0, 0, 0, 0, 0, 1]⟩ (by decide) [0, 0, 0, 0, 0, 0, 0, 5] (by decide) true u
    have e : Mg.appR ⟨3, [97], [0, 0, 0, 0, 0, 0, 0, 1]⟩ [0, 0, 0, 0, 0, 0, 0, 5] true = .tuple #[.string ⟨#[0, 0, 0, 0, 0, 0, 0, 6]⟩, .bool true] := by kernel_rfl
    rw [e] at h
    exact h
  have n6 : ∀ u, Calls Try.prog 17 #[.string ⟨#[97]⟩] u fun e w' => e = .returned (.agg #[.int .i64 2, .string ⟨#[97]⟩, .string ⟨#[]⟩]) ∧ Step noF u w' := fun u => ofDel_any [97] u
  have n7 : ∀ u, Calls Try.prog 11 #[.agg #[.int .i64 2, .string ⟨#[97]⟩, .string ⟨#[]⟩], .string ⟨#[0, 0, 0, 0, 0, 0, 0, 5]⟩, .bool true] u fun e w' => e = .returned (.tuple #[.string ⟨#[]⟩, .bool false]) ∧ Step noF u w' := fun u => by
    have h := apply_any ⟨2, [97], []⟩ (by decide) [0, 0, 0, 0, 0, 0, 0, 5] (by decide) true u
    have e : Mg.appR ⟨2, [97], []⟩ [0, 0, 0, 0, 0, 0, 0, 5] true = .tuple #[.string ⟨#[]⟩, .bool false] := by kernel_rfl
    rw [e] at h
    exact h
  have n8 : ∀ u, Calls Try.prog 16 #[.string ⟨#[97]⟩, .string ⟨#[]⟩] u fun e w' => e = .returned (.agg #[.int .i64 1, .string ⟨#[97]⟩, .string ⟨#[]⟩]) ∧ Step noF u w' := fun u => ofPut_any [97] [] u
  have n9 : ∀ u, Calls Try.prog 17 #[.string ⟨#[98]⟩] u fun e w' => e = .returned (.agg #[.int .i64 2, .string ⟨#[98]⟩, .string ⟨#[]⟩]) ∧ Step noF u w' := fun u => ofDel_any [98] u
  have n10 : ∀ u, Calls Try.prog 20 #[.agg #[.int .i64 1, .string ⟨#[97]⟩, .string ⟨#[]⟩], .agg #[.int .i64 2, .string ⟨#[98]⟩, .string ⟨#[]⟩]] u fun e w' => e = .returned (.tuple #[.agg #[.int .i64 0, .string ⟨#[]⟩, .string ⟨#[]⟩], .int .i64 1]) ∧ Step noF u w' := fun u => by
    have h := then_any ⟨1, [97], []⟩ ⟨2, [98], []⟩ (by decide) (by decide) u
    have e : Mg.thenR ⟨1, [97], []⟩ ⟨2, [98], []⟩ = .tuple #[.agg #[.int .i64 0, .string ⟨#[]⟩, .string ⟨#[]⟩], .int .i64 1] := by kernel_rfl
    rw [e] at h
    exact h
  have i1 : ∀ u, Calls Try.prog 13 #[.agg #[.int .i64 1, .string ⟨#[97]⟩, .string ⟨#[0, 0, 0, 0, 0, 0, 0, 12]⟩]] u fun e w' => e = .returned (.bool true) ∧ Step noF u w' := fun u => mis_any ⟨1, [97], [0, 0, 0, 0, 0, 0, 0, 12]⟩ (by decide) u
  have i2 : ∀ u, Calls Try.prog 13 #[.agg #[.int .i64 0, .string ⟨#[]⟩, .string ⟨#[]⟩]] u fun e w' => e = .returned (.bool false) ∧ Step noF u w' := fun u => mis_any ⟨0, [], []⟩ (by decide) u
  have i3 : ∀ u, Calls Try.prog 15 #[.agg #[.int .i64 1, .string ⟨#[97]⟩, .string ⟨#[0, 0, 0, 0, 0, 0, 0, 12]⟩]] u fun e w' => e = .returned (.int .i64 12) ∧ Step noF u w' := fun u => weight_any ⟨1, [97], [0, 0, 0, 0, 0, 0, 0, 12]⟩ (by decide) (by decide) u
  have i4 : ∀ u, Calls Try.prog 16 #[.string ⟨#[97]⟩, .string ⟨#[0, 0, 0, 0, 0, 0, 0, 12]⟩] u fun e w' => e = .returned (.agg #[.int .i64 1, .string ⟨#[97]⟩, .string ⟨#[0, 0, 0, 0, 0, 0, 0, 12]⟩]) ∧ Step noF u w' := fun u => ofPut_any [97] [0, 0, 0, 0, 0, 0, 0, 12] u
  have HI := hid (And.intro i1 (And.intro i2 (And.intro i3 i4)))
  clear i1 i2 i3 i4
  go_enter Try.func9, Try.ntmps9
  go_wp2_with fail
  refine (n1 _).mono ?_
  rintro e w1 ⟨rfl, s1⟩
  go_wp2_with fail
  refine (n2 _).mono ?_
  rintro e w2 ⟨rfl, s2⟩
  go_wp2_with fail
  refine (n3 _).mono ?_
  rintro e w3 ⟨rfl, s3⟩
  have T3 := hid (trip_new w3 23 ⟨1, [97], [0, 0, 0, 0, 0, 0, 0, 12]⟩)
  have S3 := hid (((s1.trans s2).trans s3).alloc (.cells #[.int .i64 1, .string ⟨#[97]⟩, .string ⟨#[0, 0, 0, 0, 0, 0, 0, 12]⟩] 23))
  clear s1 s2 s3
  go_wp2_with fail
  obtain ⟨b, hb⟩ : ∃ b, w3.heap.size = b := ⟨_, rfl⟩
  rw [hb] at T3 ⊢
  refine (n4 _).mono ?_
  rintro e w4 ⟨rfl, s4⟩
  have T4 := hid (T3.out.step s4)
  have S4 := hid (S3.out.trans s4)
  clear s4 hb
  go_wp2_with fail
  refine (n5 _).mono ?_
  rintro e w5 ⟨rfl, s5⟩
  have T5 := hid (T4.out.step s5)
  have S5 := hid (S4.out.trans s5)
  clear s5
  go_wp2_with fail
  refine (n6 _).mono ?_
  rintro e w6 ⟨rfl, s6⟩
  have T6 := hid (T5.out.step s6)
  have S6 := hid (S5.out.trans s6)
  clear s6
  go_wp2_with fail
  refine (n7 _).mono ?_
  rintro e w7 ⟨rfl, s7⟩
  have T7 := hid (T6.out.step s7)
  have S7 := hid (S6.out.trans s7)
  clear s7
  go_wp2_with fail
  refine (n8 _).mono ?_
  rintro e w8 ⟨rfl, s8⟩
  have T8 := hid (T7.out.step s8)
  have S8 := hid (S7.out.trans s8)
  clear s8
  go_wp2_with fail
  refine (n9 _).mono ?_
  rintro e w9 ⟨rfl, s9⟩
  have T9 := hid (T8.out.step s9)
  have S9 := hid (S8.out.trans s9)
  clear s9
  go_wp2_with fail
  refine (n10 _).mono ?_
  rintro e w10 ⟨rfl, s10⟩
  have T10 := hid ((T9.out.step s10).alloc (.cells #[.int .i64 0, .string ⟨#[]⟩, .string ⟨#[]⟩] 23))
  have S10 := hid ((S9.out.trans s10).alloc (.cells #[.int .i64 0, .string ⟨#[]⟩, .string ⟨#[]⟩] 23))
  clear s10
  go_wp2_with fail
  change Code.wp _ (Code.region 6 ((Try.f9.body.bind (regionOps 6)).getD #[]) true) _ _ _
  refine maw_go b (by kernel_rfl) (by kernel_rfl) (by kernel_rfl) _ _ rfl rfl rfl rfl rfl rfl rfl rfl rfl ?_ ?_
  · intro u su
    obtain ⟨c0, c1, c2, _, _, _⟩ := (T10.out.step su).all
    obtain ⟨i1, i2, i3, i4⟩ := HI.out
    exact ⟨c0, c1, c2, i4 u, i1 u, i2 u, i3 u⟩
  intro w11 s11
  have S11 := hid (S10.out.trans s11)
  clear s11
  rw [maw_lit]
  go_wp2_with fail
  go_ret
  exact ⟨rfl, S11.out⟩
end Go.Proofs.Ythniannpamcajaa
