/-
  MsgExact.
-/
import Derived.Test.YthniannpamcajaaMsgAwake
import Derived.Test.YthniannpamcajaaMsgC
import Derived.Test.YthniannpamcajaaMsgXaR
import Derived.Test.YthniannpamcajaaMsgXbR
namespace Go.Proofs.Ythniannpamcajaa
open Go.RowKit
set_option linter.unusedVariables false
set_option linter.unusedSimpArgs false

def Mg.long (m : Mg) : Bool := decide (1024 < m.key.length) || decide (1024 < m.val.length)
theorem long_any (m : Mg) (w : World) : Calls Try.prog 10 #[m.value] w fun e w' => e = .returned (.bool m.long) ∧ Step noF w w' := by
  have hz := str_size
  obtain ⟨k, x, y⟩ := m
  have e0 : (Mg.mk k x y).value = .agg #[.int .i64 k, .string (str x), .string (str y)] := rfl
  have e1 : Hid ((Mg.mk k x y).long = (decide (1024 < x.length) || decide (1024 < y.length))) := rfl
  rw [e0]
  by_cases h1 : 1024 < x.length
  · go_enter Try.func10, Try.ntmps10
    go_wp2_with fail
    go_ret
    exact ⟨ret_bool (by rw [e1.out]; simp [h1]), (Step.refl noF w).alloc _⟩
  · by_cases h2 : 1024 < y.length
    all_goals
      go_enter Try.func10, Try.ntmps10
      go_wp2_with fail
      go_ret
      exact ⟨ret_bool (by rw [e1.out]; simp [h1, h2]; omega), (Step.refl noF w).alloc _⟩

set_option maxHeartbeats 4000000 in
set_option maxRecDepth 100000 in
theorem exact_walk (m : Mg) (n : Nat) (hn : n < 18446744073709551616) (v : List UInt8) (has : Bool) (w : World) :
    Calls Try.prog 3 #[m.value, .int .u64 n, .string (str v), .bool has] w fun e w' => e = .returned (.bool true) ∧ Step noF w w' := by
  have hz := str_size
  have hE := same_str
  obtain ⟨k, x, y⟩ := m
  have cl := long_any ⟨k, x, y⟩
  have e0 : (Mg.mk k x y).value = .agg #[.int .i64 k, .string (str x), .string (str y)] := rfl
  rw [e0] at cl ⊢
  have T1 := hid (trip_new w 23 ⟨k, x, y⟩)
  have S1 := hid ((Step.refl noF w).alloc (.cells #[.int .i64 k, .string (str x), .string (str y)] 23))
  cases h1 : (Mg.mk k x y).long
  · rw [h1] at cl
    have l1 : x.length ≤ 1024 := by simp [Mg.long] at h1; omega
    have l2 : y.length ≤ 1024 := by simp [Mg.long] at h1; omega
    clear h1
    by_cases h2 : 1024 < v.length
    · go_enter Try.func3, Try.ntmps3
      go_wp2_with fail
      refine (awake_any _).mono ?_
      rintro e w1 ⟨rfl, s1⟩
      have T2 := hid (T1.out.step s1)
      have S2 := hid (S1.out.trans s1)
      obtain ⟨c0, c1, c2, _, _, _⟩ := T2.out.all
      clear s1
      go_wp2_with fail
      refine (cl _).mono ?_
      rintro e w2 ⟨rfl, s2⟩
      have S3 := hid (S2.out.trans s2)
      clear s2
      go_wp2_with fail
      go_ret
      exact ⟨rfl, S3.out⟩
    · have b1 : y.length ≤ maxLen := by unfold maxLen; omega
      have b2 : v.length ≤ maxLen := by unfold maxLen; omega
      have cA := apply_any ⟨k, x, y⟩ b1 v b2 has
      have cR := refApply_any ⟨k, x, y⟩ v has
      have k0 := mis_any ⟨k, x, y⟩ b1
      have k1 := refMis_any ⟨k, x, y⟩
      have k2 := weight_any ⟨k, x, y⟩ (by show x.length ≤ _; omega) (by show y.length ≤ _; omega)
      have q0 := ofPut_any x y
      have q1 := ofDel_any x
      have q2 := ofAdd_any x n hn
      have q3 := refValue_any n hn
      unfold Mg.appR at cA cR
      rw [e0] at cA cR k0 k1 k2
      unfold Mg.value at q0 q1 q2
      rw [← nil_str] at q1
      have e3 : ((3 + x.length + y.length : Nat) : Int) = 3 + (x.length : Int) + (y.length : Int) := by omega
      have k2' : ∀ u, Calls Try.prog 15 #[.agg #[.int .i64 k, .string (str x), .string (str y)]] u fun e w' => e = .returned (.int .i64 (3 + (x.length : Int) + (y.length : Int))) ∧ Step noF u w' := fun u => by
        have h := k2 u
        rw [show ((3 + (Mg.mk k x y).key.length + (Mg.mk k x y).val.length : Nat) : Int) = 3 + (x.length : Int) + (y.length : Int) from e3] at h
        exact h
      have HK := hid (And.intro k0 (And.intro k1 (And.intro k2' (And.intro q0 (And.intro q1 (And.intro q2 q3))))))
      obtain ⟨V, hV⟩ : ∃ V, (Mg.mk k x y).appV v has = V := ⟨_, rfl⟩
      obtain ⟨H, hH⟩ : ∃ H, (Mg.mk k x y).appH has = H := ⟨_, rfl⟩
      rw [hV, hH] at cA cR
      clear k0 k1 k2 k2' q0 q1 q2 q3 hV hH e3 e0
      go_enter Try.func3, Try.ntmps3
      go_wp2_with fail
      refine (awake_any _).mono ?_
      rintro e w1 ⟨rfl, s1⟩
      have T2 := hid (T1.out.step s1)
      have S2 := hid (S1.out.trans s1)
      obtain ⟨c0, c1, c2, _, _, _⟩ := T2.out.all
      clear s1 T1 S1
      go_wp2_with fail
      refine (cl _).mono ?_
      rintro e w2 ⟨rfl, s2⟩
      have T3 := hid (T2.out.step s2)
      have S3 := hid (S2.out.trans s2)
      clear s2 c0 c1 c2
      obtain ⟨c0, c1, c2, _, _, _⟩ := T3.out.all
      go_wp2_with fail
      refine (cA _).mono ?_
      rintro e w3 ⟨rfl, s3⟩
      have T4 := hid (T3.out.step s3)
      have S4 := hid (S3.out.trans s3)
      clear s3 c0 c1 c2
      obtain ⟨c0, c1, c2, _, _, _⟩ := T4.out.all
      go_wp2_with fail
      refine (cR _).mono ?_
      rintro e w4 ⟨rfl, s4⟩
      have T5 := hid (T4.out.step s4)
      have S5 := hid (S4.out.trans s4)
      clear s4 c0 c1 c2
      go_wp2_with fail
      change Code.wp _ (Code.region 7 ((Try.f3.body.bind (regionOps 7)).getD #[]) true) _ _ _
      refine mxa_go w.heap.size k x y V H (Mg.mk k x y).is x.length y.length (str_size x) (str_size y) (by omega) (by omega) (by simp [IntKind.wrap, IntKind.bits, IntKind.signed]; omega) (by simp [IntKind.wrap, IntKind.bits, IntKind.signed]; omega) _ w4 rfl rfl rfl rfl rfl rfl ?_ ?_
      · intro u su
        obtain ⟨c0, c1, c2, _, _, _⟩ := (T5.out.step su).all
        obtain ⟨i1, i2, i3, i4⟩ := HK.out
        exact ⟨c0, c1, c2, i1 u, i2 u, i3 u⟩
      intro w5 s5
      have T6 := hid (T5.out.step s5)
      have S6 := hid (S5.out.trans s5)
      clear s5
      rw [mxa_lit]
      go_wp2_with fail
      change Code.wp _ (Code.region 9 ((Try.f3.body.bind (regionOps 9)).getD #[]) true) _ _ _
      refine mxb_go w.heap.size n k x y (be 8 n) same_str _ w5 rfl rfl rfl ?_ ?_
      · intro u su
        obtain ⟨c0, c1, c2, _, _, _⟩ := (T6.out.step su).all
        obtain ⟨i1, i2, i3, i4, i5, i6, i7⟩ := HK.out
        exact ⟨c0, c1, c2, i4 u, i5 u, i6 u, i7 u⟩
      intro w6 s6
      have S7 := hid (S6.out.trans s6)
      clear s6
      rw [mxb_lit]
      go_wp2_with fail
      go_ret
      exact ⟨rfl, S7.out⟩
  · rw [h1] at cl
    go_enter Try.func3, Try.ntmps3
    go_wp2_with fail
    refine (awake_any _).mono ?_
    rintro e w1 ⟨rfl, s1⟩
    have T2 := hid (T1.out.step s1)
    have S2 := hid (S1.out.trans s1)
    obtain ⟨c0, c1, c2, _, _, _⟩ := T2.out.all
    clear s1
    go_wp2_with fail
    refine (cl _).mono ?_
    rintro e w2 ⟨rfl, s2⟩
    have S3 := hid (S2.out.trans s2)
    clear s2
    go_wp2_with fail
    go_ret
    exact ⟨rfl, S3.out⟩
end Go.Proofs.Ythniannpamcajaa
