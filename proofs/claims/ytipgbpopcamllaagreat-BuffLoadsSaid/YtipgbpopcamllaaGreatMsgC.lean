/-
  What the reference of layer 8 does: Is, Sum, Apply.
-/
import Derived.Test.YtipgbpopcamllaaGreatMsgA
namespace Go.Proofs.YtipgbpopcamllaaGreat
open Go.RowKit
set_option linter.unusedVariables false
set_option linter.unusedSimpArgs false

theorem is_cases (k : Int) (x y : List UInt8) : (Mg.mk k x y).is = (!(decide (x.length = 0) || decide (8 < x.length)) && ((decide (k = 1) && decide (y.length ≤ 16) || decide (k = 2) && decide (y.length = 0)) || decide (k = 3) && decide (y.length = 8))) := by
  unfold Mg.is isK isV
  have h := List.length_eq_zero_iff (l := x)
  have h2 := List.length_eq_zero_iff (l := y)
  rw [Bool.eq_iff_iff]
  simp
  grind
set_option maxHeartbeats 1000000 in
theorem refMis_any (m : Mg) (w : World) : Calls Tryz.prog 62 #[m.value] w fun e w' => e = .returned (.bool m.is) ∧ Step noF w w' := by
  have hz := str_size
  obtain ⟨k, x, y⟩ := m
  have e0 : (Mg.mk k x y).value = .agg #[.int .i64 k, .string (str x), .string (str y)] := rfl
  have HC := hid (is_cases k x y)
  rw [e0]
  by_cases h1 : x.length = 0
  · go_enter Tryz.func62, Tryz.ntmps62
    go_wp2_with fail
    go_ret
    exact ⟨ret_bool (by rw [HC.out]; simp [h1]), (Step.refl noF w).alloc _⟩
  · have g1 : ((x.length : Int) == 0) = false := by rw [beq_eq_false_iff_ne]; omega
    by_cases h2 : 8 < x.length
    · go_enter Tryz.func62, Tryz.ntmps62
      go_wp2_with fail
      go_ret
      exact ⟨ret_bool (by rw [HC.out]; simp [h1, h2]), (Step.refl noF w).alloc _⟩
    · by_cases h3 : k = 1
      · subst h3
        by_cases h4 : y.length ≤ 16
        all_goals
          go_enter Tryz.func62, Tryz.ntmps62
          go_wp2_with fail
          go_ret
          exact ⟨ret_bool (by rw [HC.out]; simp [h1, h2, h4]; try omega), (Step.refl noF w).alloc _⟩
      · have g3 : (k == 1) = false := by rw [beq_eq_false_iff_ne]; exact h3
        by_cases h5 : k = 2
        · subst h5
          by_cases h6 : y.length = 0
          · go_enter Tryz.func62, Tryz.ntmps62
            go_wp2_with fail
            go_ret
            exact ⟨ret_bool (by rw [HC.out]; simp [h1, h2, h6]; try omega), (Step.refl noF w).alloc _⟩
          · have g6 : ((y.length : Int) == 0) = false := by rw [beq_eq_false_iff_ne]; omega
            go_enter Tryz.func62, Tryz.ntmps62
            go_wp2_with fail
            go_ret
            exact ⟨ret_bool (by rw [HC.out]; simp [h1, h2, h6]; try omega), (Step.refl noF w).alloc _⟩
        · have g5 : (k == 2) = false := by rw [beq_eq_false_iff_ne]; exact h5
          by_cases h7 : k = 3
          · subst h7
            have g8 : ((y.length : Int) == 8) = decide (y.length = 8) := by rw [Bool.eq_iff_iff]; simp; omega
            go_enter Tryz.func62, Tryz.ntmps62
            go_wp2_with fail
            go_ret
            exact ⟨ret_bool (by rw [HC.out]; simp [h1, h2]; try omega), (Step.refl noF w).alloc _⟩
          · have g7 : (k == 3) = false := by rw [beq_eq_false_iff_ne]; exact h7
            go_enter Tryz.func62, Tryz.ntmps62
            go_wp2_with fail
            go_ret
            exact ⟨ret_bool (by rw [HC.out]; simp [h1, h2, h3, h5, h7]), (Step.refl noF w).alloc _⟩
theorem refSum_any (v a : List UInt8) (w : World) : Calls Tryz.prog 93 #[.string (str v), .string (str a)] w fun e w' => e = .returned (.string (str (sumL v a))) ∧ Step noF w w' := by
  have c1 := refNumber_any v
  have c2 := refNumber_any a
  have l1 := numOf_lt v
  have l2 := numOf_lt a
  have hS : Hid (sumL v a = be 8 ((numOf v + numOf a) % 18446744073709551616)) := rfl
  have c3 := refValue_any ((numOf v + numOf a) % 18446744073709551616) (by omega)
  unfold numV2 at c1 c2
  obtain ⟨x, hx⟩ : ∃ x, numOf v = x := ⟨_, rfl⟩
  obtain ⟨y, hy⟩ : ∃ y, numOf a = y := ⟨_, rfl⟩
  rw [hx] at c1 c3 l1 hS
  rw [hy] at c2 c3 l2 hS
  obtain ⟨z, hz⟩ : ∃ z, (x + y) % 18446744073709551616 = z := ⟨_, rfl⟩
  rw [hz] at c3 hS
  have hz2 : ((x : Int) + (y : Int)) % 18446744073709551616 = (z : Int) := by omega
  have hz3 : IntKind.u64.wrap ((x : Int) + (y : Int)) = (z : Int) := by
    simp [IntKind.wrap, IntKind.bits, IntKind.signed]
    omega
  obtain ⟨p, hp⟩ : ∃ p, decide (v.length = 8) = p := ⟨_, rfl⟩
  obtain ⟨q, hq⟩ : ∃ q, decide (a.length = 8) = q := ⟨_, rfl⟩
  rw [hp] at c1
  rw [hq] at c2
  clear hx hy hz hp hq
  go_enter Tryz.func93, Tryz.ntmps93
  go_wp2_with fail
  refine (c1 _).mono ?_
  rintro e w2 ⟨rfl, rfl⟩
  go_wp2_with fail
  refine (c2 _).mono ?_
  rintro e w3 ⟨rfl, rfl⟩
  go_wp2_with fail
  refine (c3 _).mono ?_
  rintro e w4 ⟨rfl, s4⟩
  go_wp2_with fail
  go_ret
  exact ⟨by rw [hS.out]; rfl, s4⟩
set_option maxHeartbeats 1000000 in
theorem refApply_any (m : Mg) (v : List UInt8) (has : Bool) (w : World) : Calls Tryz.prog 94 #[m.value, .string (str v), .bool has] w fun e w' => e = .returned (m.appR v has) ∧ Step noF w w' := by
  have h0 := nil_str
  have hz := str_size
  obtain ⟨k, x, y⟩ := m
  have c1 := refMis_any ⟨k, x, y⟩
  have c2 := refSum_any v y
  have e0 : (Mg.mk k x y).value = .agg #[.int .i64 k, .string (str x), .string (str y)] := rfl
  rw [e0] at c1 ⊢
  have T1 := hid (trip_new w 40 ⟨k, x, y⟩)
  cases h1 : (Mg.mk k x y).is
  · rw [h1] at c1
    have HR := hid (appR_no h1 v)
    clear h1
    cases has
    all_goals
      go_enter Tryz.func94, Tryz.ntmps94
      go_wp2_with fail
      refine (c1 _).mono ?_
      rintro e w2 ⟨rfl, s2⟩
      go_wp2_with fail
      go_ret2
      exact ⟨by rw [HR.out]; rfl, ((Step.refl noF w).alloc _).trans s2⟩
  · rw [h1] at c1
    have hc := Mg.cases h1
    by_cases h2 : k = 2
    · subst h2
      have HR := hid (appR_del h1 rfl v)
      clear h1 hc
      cases has
      all_goals
        go_enter Tryz.func94, Tryz.ntmps94
        go_wp2_with fail
        refine (c1 _).mono ?_
        rintro e w2 ⟨rfl, s2⟩
        obtain ⟨d0, d1, d2, f0, f1, f2⟩ := (T1.out.step s2).all
        go_wp2_with fail
        go_ret2
        exact ⟨by rw [HR.out]; rfl, ((Step.refl noF w).alloc _).trans s2⟩
    · have g2 : (k == 2) = false := by rw [beq_eq_false_iff_ne]; exact h2
      by_cases h3 : k = 3
      · subst h3
        have hl : y.length = 8 := by rcases hc with h | h | h <;> simp at h; exact h
        cases has
        · have HR := hid (appR_val h1 h2 v false (fun _ => rfl))
          clear h1 hc
          go_enter Tryz.func94, Tryz.ntmps94
          go_wp2_with fail
          refine (c1 _).mono ?_
          rintro e w2 ⟨rfl, s2⟩
          obtain ⟨d0, d1, d2, f0, f1, f2⟩ := (T1.out.step s2).all
          go_wp2_with fail
          go_ret2
          exact ⟨by rw [HR.out]; rfl, ((Step.refl noF w).alloc _).trans s2⟩
        · have HR := hid (appR_add h1 rfl v)
          clear h1 hc
          by_cases h8 : v.length = 8
          · have HM := hid (moreL_eight v y h8 hl)
            go_enter Tryz.func94, Tryz.ntmps94
            go_wp2_with fail
            refine (c1 _).mono ?_
            rintro e w2 ⟨rfl, s2⟩
            obtain ⟨d0, d1, d2, f0, f1, f2⟩ := (T1.out.step s2).all
            go_wp2_with fail
            refine (c2 _).mono ?_
            rintro e w3 ⟨rfl, s3⟩
            go_wp2_with fail
            go_ret2
            exact ⟨by rw [HR.out, HM.out]; rfl, (((Step.refl noF w).alloc _).trans s2).trans s3⟩
          · have HM : Hid (moreL v y = v) := by show _ = _; rw [moreL, if_neg (fun q => h8 q.1)]
            have g8 : ((v.length : Int) == 8) = false := by rw [beq_eq_false_iff_ne]; omega
            go_enter Tryz.func94, Tryz.ntmps94
            go_wp2_with fail
            refine (c1 _).mono ?_
            rintro e w2 ⟨rfl, s2⟩
            obtain ⟨d0, d1, d2, f0, f1, f2⟩ := (T1.out.step s2).all
            go_wp2_with fail
            go_ret2
            exact ⟨by rw [HR.out, HM.out]; rfl, ((Step.refl noF w).alloc _).trans s2⟩
      · have hk1 : k = 1 := by rcases hc with h | h | h <;> simp at h <;> omega
        subst hk1
        have HR := hid (appR_val h1 h2 v has (fun x => absurd x h3))
        clear h1 hc
        go_enter Tryz.func94, Tryz.ntmps94
        go_wp2_with fail
        refine (c1 _).mono ?_
        rintro e w2 ⟨rfl, s2⟩
        obtain ⟨d0, d1, d2, f0, f1, f2⟩ := (T1.out.step s2).all
        go_wp2_with fail
        go_ret2
        exact ⟨by rw [HR.out]; rfl, ((Step.refl noF w).alloc _).trans s2⟩
end Go.Proofs.YtipgbpopcamllaaGreat
