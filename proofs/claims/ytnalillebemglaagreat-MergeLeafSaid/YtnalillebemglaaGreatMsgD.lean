/-
  What the reference of layer 8 does: Is, Sum, Apply.
  What the reference's Then does.
-/
import Derived.Test.YtnalillebemglaaGreatMsgA
import Derived.BigRegion
import Derived.Deep.RegionWith
namespace Go.Proofs.YtnalillebemglaaGreat
open Go.RowKit
set_option linter.unusedVariables false
set_option linter.unusedSimpArgs false

theorem is_cases (k : Int) (x y : List UInt8) : (Mg.mk k x y).is = (!(decide (x.length = 0) || decide (8 < x.length)) && ((decide (k = 1) && decide (y.length ≤ 16) || decide (k = 2) && decide (y.length = 0)) || decide (k = 3) && decide (y.length = 8))) := by
  unfold Mg.is isK isV
  have h := List.length_eq_zero_iff (l := x)
  have h2 := List.length_eq_zero_iff (l := y)
  rw [Bool.eq_iff_iff]
  simp
  grind
set_option maxHeartbeats 1000000 in
theorem refMis_any (m : Mg) (w : World) : Calls Tryz.prog 30 #[m.value] w fun e w' => e = .returned (.bool m.is) ∧ Step noF w w' := by
  have hz := str_size
  obtain ⟨k, x, y⟩ := m
  have e0 : (Mg.mk k x y).value = .agg #[.int .i64 k, .string (str x), .string (str y)] := rfl
  have HC := hid (is_cases k x y)
  rw [e0]
  by_cases h1 : x.length = 0
  · go_enter Tryz.func30, Tryz.ntmps30
    go_wp2_with fail
    go_ret
    exact ⟨ret_bool (by rw [HC.out]; simp [h1]), (Step.refl noF w).alloc _⟩
  · have g1 : ((x.length : Int) == 0) = false := by rw [beq_eq_false_iff_ne]; omega
    by_cases h2 : 8 < x.length
    · go_enter Tryz.func30, Tryz.ntmps30
      go_wp2_with fail
      go_ret
      exact ⟨ret_bool (by rw [HC.out]; simp [h1, h2]), (Step.refl noF w).alloc _⟩
    · by_cases h3 : k = 1
      · subst h3
        by_cases h4 : y.length ≤ 16
        all_goals
          go_enter Tryz.func30, Tryz.ntmps30
          go_wp2_with fail
          go_ret
          exact ⟨ret_bool (by rw [HC.out]; simp [h1, h2, h4]; try omega), (Step.refl noF w).alloc _⟩
      · have g3 : (k == 1) = false := by rw [beq_eq_false_iff_ne]; exact h3
        by_cases h5 : k = 2
        · subst h5
          by_cases h6 : y.length = 0
          · go_enter Tryz.func30, Tryz.ntmps30
            go_wp2_with fail
            go_ret
            exact ⟨ret_bool (by rw [HC.out]; simp [h1, h2, h6]; try omega), (Step.refl noF w).alloc _⟩
          · have g6 : ((y.length : Int) == 0) = false := by rw [beq_eq_false_iff_ne]; omega
            go_enter Tryz.func30, Tryz.ntmps30
            go_wp2_with fail
            go_ret
            exact ⟨ret_bool (by rw [HC.out]; simp [h1, h2, h6]; try omega), (Step.refl noF w).alloc _⟩
        · have g5 : (k == 2) = false := by rw [beq_eq_false_iff_ne]; exact h5
          by_cases h7 : k = 3
          · subst h7
            have g8 : ((y.length : Int) == 8) = decide (y.length = 8) := by rw [Bool.eq_iff_iff]; simp; omega
            go_enter Tryz.func30, Tryz.ntmps30
            go_wp2_with fail
            go_ret
            exact ⟨ret_bool (by rw [HC.out]; simp [h1, h2]; try omega), (Step.refl noF w).alloc _⟩
          · have g7 : (k == 3) = false := by rw [beq_eq_false_iff_ne]; exact h7
            go_enter Tryz.func30, Tryz.ntmps30
            go_wp2_with fail
            go_ret
            exact ⟨ret_bool (by rw [HC.out]; simp [h1, h2, h3, h5, h7]), (Step.refl noF w).alloc _⟩
theorem refSum_any (v a : List UInt8) (w : World) : Calls Tryz.prog 86 #[.string (str v), .string (str a)] w fun e w' => e = .returned (.string (str (sumL v a))) ∧ Step noF w w' := by
  have c1 := refNumber_any v
  have c2 := refNumber_any a
  have l1 := numOf_lt v
  have l2 := numOf_lt a
  have hS : Hid (sumL v a = be 8 ((numOf v + numOf a) % 18446744073709551616)) := rfl
  have c3 := refValue_any ((numOf v + numOf a) % 18446744073709551616) (by omega)
  unfold numV2 at c1 c2
  obtain ⟨x, hx⟩ : ∃ x, numOf v = x := ⟨_, rfl⟩
  obtain ⟨y, hy⟩ : ∃ y, numOf a = y := ⟨_, rfl⟩
  rw [hx] at c1 c3 l1 hS
  rw [hy] at c2 c3 l2 hS
  obtain ⟨z, hz⟩ : ∃ z, (x + y) % 18446744073709551616 = z := ⟨_, rfl⟩
  rw [hz] at c3 hS
  have hz2 : ((x : Int) + (y : Int)) % 18446744073709551616 = (z : Int) := by omega
  have hz3 : IntKind.u64.wrap ((x : Int) + (y : Int)) = (z : Int) := by
    simp [IntKind.wrap, IntKind.bits, IntKind.signed]
    omega
  obtain ⟨p, hp⟩ : ∃ p, decide (v.length = 8) = p := ⟨_, rfl⟩
  obtain ⟨q, hq⟩ : ∃ q, decide (a.length = 8) = q := ⟨_, rfl⟩
  rw [hp] at c1
  rw [hq] at c2
  clear hx hy hz hp hq
  go_enter Tryz.func86, Tryz.ntmps86
  go_wp2_with fail
  refine (c1 _).mono ?_
  rintro e w2 ⟨rfl, rfl⟩
  go_wp2_with fail
  refine (c2 _).mono ?_
  rintro e w3 ⟨rfl, rfl⟩
  go_wp2_with fail
  refine (c3 _).mono ?_
  rintro e w4 ⟨rfl, s4⟩
  go_wp2_with fail
  go_ret
  exact ⟨by rw [hS.out]; rfl, s4⟩
set_option maxHeartbeats 1000000 in
theorem refApply_any (m : Mg) (v : List UInt8) (has : Bool) (w : World) : Calls Tryz.prog 67 #[m.value, .string (str v), .bool has] w fun e w' => e = .returned (m.appR v has) ∧ Step noF w w' := by
  have h0 := nil_str
  have hz := str_size
  obtain ⟨k, x, y⟩ := m
  have c1 := refMis_any ⟨k, x, y⟩
  have c2 := refSum_any v y
  have e0 : (Mg.mk k x y).value = .agg #[.int .i64 k, .string (str x), .string (str y)] := rfl
  rw [e0] at c1 ⊢
  have T1 := hid (trip_new w 37 ⟨k, x, y⟩)
  cases h1 : (Mg.mk k x y).is
  · rw [h1] at c1
    have HR := hid (appR_no h1 v)
    clear h1
    cases has
    all_goals
      go_enter Tryz.func67, Tryz.ntmps67
      go_wp2_with fail
      refine (c1 _).mono ?_
      rintro e w2 ⟨rfl, s2⟩
      go_wp2_with fail
      go_ret2
      exact ⟨by rw [HR.out]; rfl, ((Step.refl noF w).alloc _).trans s2⟩
  · rw [h1] at c1
    have hc := Mg.cases h1
    by_cases h2 : k = 2
    · subst h2
      have HR := hid (appR_del h1 rfl v)
      clear h1 hc
      cases has
      all_goals
        go_enter Tryz.func67, Tryz.ntmps67
        go_wp2_with fail
        refine (c1 _).mono ?_
        rintro e w2 ⟨rfl, s2⟩
        obtain ⟨d0, d1, d2, f0, f1, f2⟩ := (T1.out.step s2).all
        go_wp2_with fail
        go_ret2
        exact ⟨by rw [HR.out]; rfl, ((Step.refl noF w).alloc _).trans s2⟩
    · have g2 : (k == 2) = false := by rw [beq_eq_false_iff_ne]; exact h2
      by_cases h3 : k = 3
      · subst h3
        have hl : y.length = 8 := by rcases hc with h | h | h <;> simp at h; exact h
        cases has
        · have HR := hid (appR_val h1 h2 v false (fun _ => rfl))
          clear h1 hc
          go_enter Tryz.func67, Tryz.ntmps67
          go_wp2_with fail
          refine (c1 _).mono ?_
          rintro e w2 ⟨rfl, s2⟩
          obtain ⟨d0, d1, d2, f0, f1, f2⟩ := (T1.out.step s2).all
          go_wp2_with fail
          go_ret2
          exact ⟨by rw [HR.out]; rfl, ((Step.refl noF w).alloc _).trans s2⟩
        · have HR := hid (appR_add h1 rfl v)
          clear h1 hc
          by_cases h8 : v.length = 8
          · have HM := hid (moreL_eight v y h8 hl)
            go_enter Tryz.func67, Tryz.ntmps67
            go_wp2_with fail
            refine (c1 _).mono ?_
            rintro e w2 ⟨rfl, s2⟩
            obtain ⟨d0, d1, d2, f0, f1, f2⟩ := (T1.out.step s2).all
            go_wp2_with fail
            refine (c2 _).mono ?_
            rintro e w3 ⟨rfl, s3⟩
            go_wp2_with fail
            go_ret2
            exact ⟨by rw [HR.out, HM.out]; rfl, (((Step.refl noF w).alloc _).trans s2).trans s3⟩
          · have HM : Hid (moreL v y = v) := by show _ = _; rw [moreL, if_neg (fun q => h8 q.1)]
            have g8 : ((v.length : Int) == 8) = false := by rw [beq_eq_false_iff_ne]; omega
            go_enter Tryz.func67, Tryz.ntmps67
            go_wp2_with fail
            refine (c1 _).mono ?_
            rintro e w2 ⟨rfl, s2⟩
            obtain ⟨d0, d1, d2, f0, f1, f2⟩ := (T1.out.step s2).all
            go_wp2_with fail
            go_ret2
            exact ⟨by rw [HR.out, HM.out]; rfl, ((Step.refl noF w).alloc _).trans s2⟩
      · have hk1 : k = 1 := by rcases hc with h | h | h <;> simp at h <;> omega
        subst hk1
        have HR := hid (appR_val h1 h2 v has (fun x => absurd x h3))
        clear h1 hc
        go_enter Tryz.func67, Tryz.ntmps67
        go_wp2_with fail
        refine (c1 _).mono ?_
        rintro e w2 ⟨rfl, s2⟩
        obtain ⟨d0, d1, d2, f0, f1, f2⟩ := (T1.out.step s2).all
        go_wp2_with fail
        go_ret2
        exact ⟨by rw [HR.out]; rfl, ((Step.refl noF w).alloc _).trans s2⟩
end Go.Proofs.YtnalillebemglaaGreat
namespace Go.Proofs.YtnalillebemglaaGreat
open Go.RowKit
set_option linter.unusedVariables false
set_option linter.unusedSimpArgs false

/-- What the reference's Then answers. -/
def Mg.thenQ (a b : Mg) : Value := .tuple #[(a.then b).value, .bool (a.both b)]
theorem thenQ_no {a b : Mg} (h : a.both b = false) : a.thenQ b = .tuple #[.agg #[.int .i64 0, .string (str []), .string (str [])], .bool false] := by
  simp [Mg.thenQ, Mg.then, h, Mg.zero, Mg.value]
theorem thenQ_b {a b : Mg} (h : a.both b = true) (h3 : b.kind ≠ 3) : a.thenQ b = .tuple #[.agg #[.int .i64 b.kind, .string (str b.key), .string (str b.val)], .bool true] := by
  simp [Mg.thenQ, Mg.then, h, h3, Mg.value]
theorem thenQ_aa {a b : Mg} (h : a.both b = true) (h3 : b.kind = 3) (h4 : a.kind = 3) : a.thenQ b = .tuple #[.agg #[.int .i64 3, .string (str a.key), .string (str (sumL a.val b.val))], .bool true] := by
  simp [Mg.thenQ, Mg.then, h, h3, h4, Mg.value]
theorem thenQ_da {a b : Mg} (h : a.both b = true) (h3 : b.kind = 3) (h4 : a.kind = 2) : a.thenQ b = .tuple #[.agg #[.int .i64 1, .string (str a.key), .string (str b.val)], .bool true] := by
  simp [Mg.thenQ, Mg.then, h, h3, h4, Mg.value]
theorem thenQ_pa {a b : Mg} (h : a.both b = true) (h3 : b.kind = 3) (h4 : a.kind ≠ 3) (h5 : a.kind ≠ 2) : a.thenQ b = .tuple #[.agg #[.int .i64 1, .string (str a.key), .string (str (moreL a.val b.val))], .bool true] := by
  simp [Mg.thenQ, Mg.then, h, h3, h4, h5, Mg.value]

set_option maxHeartbeats 1000000 in
theorem refThen_no1 (ka kb : Int) (xa ya xb yb : List UInt8) (w : World) (h1 : (Mg.mk ka xa ya).is = false) : Calls Tryz.prog 82 #[(Mg.mk ka xa ya).value, (Mg.mk kb xb yb).value] w fun e w' => e = .returned ((Mg.mk ka xa ya).thenQ ⟨kb, xb, yb⟩) ∧ Step noF w w' := by
  have h0 := nil_str
  have hE := same_str
  have c1 := refMis_any ⟨ka, xa, ya⟩
  have c2 := refMis_any ⟨kb, xb, yb⟩
  have e1 : (Mg.mk ka xa ya).value = .agg #[.int .i64 ka, .string (str xa), .string (str ya)] := rfl
  have e2 : (Mg.mk kb xb yb).value = .agg #[.int .i64 kb, .string (str xb), .string (str yb)] := rfl
  rw [e1] at c1 ⊢
  rw [e2] at c2 ⊢
  obtain ⟨ta, tb, tz, sw⟩ := trip3 w 37 ⟨ka, xa, ya⟩ ⟨kb, xb, yb⟩ ⟨0, [], []⟩
  have TA := hid ta
  have TB := hid tb
  have TZ := hid tz
  have SW := hid sw
  clear ta tb tz sw
  rw [h1] at c1
  have HR := hid (thenQ_no (a := ⟨ka, xa, ya⟩) (b := ⟨kb, xb, yb⟩) (by simp [Mg.both, h1]))
  clear h1
  go_enter Tryz.func82, Tryz.ntmps82
  go_wp2_with fail
  refine (c1 _).mono ?_
  rintro e w2 ⟨rfl, s2⟩
  have TA2 := hid (TA.out.step s2)
  have TB2 := hid (TB.out.step s2)
  have TZ2 := hid (TZ.out.step s2)
  obtain ⟨a0, a1, a2, _, _, _⟩ := TA2.out.all
  obtain ⟨b0, b1, b2, _, _, _⟩ := TB2.out.all
  have S2 := hid (SW.out.trans s2)
  clear s2
  obtain ⟨d0, d1, d2, f0, f1, f2⟩ := TZ2.out.all
  have T9 := hid (TZ2.out.put ⟨0, [], []⟩)
  obtain ⟨x0, x1, x2, _, _, _⟩ := T9.out.all
  go_wp2_with fail
  refine bodyPost_ret (v := .tuple #[.agg #[.int .i64 0, .string (str []), .string (str [])], .bool false]) (by simp [results, Tryz.results82, go_sem, *]) rfl ⟨by rw [HR.out], ?_⟩
  exact S2.out.put3 _ (by omega) _ _ _
set_option maxHeartbeats 1000000 in
theorem refThen_no2 (ka kb : Int) (xa ya xb yb : List UInt8) (w : World) (h1 : (Mg.mk ka xa ya).is = true) (h2 : (Mg.mk kb xb yb).is = false) : Calls Tryz.prog 82 #[(Mg.mk ka xa ya).value, (Mg.mk kb xb yb).value] w fun e w' => e = .returned ((Mg.mk ka xa ya).thenQ ⟨kb, xb, yb⟩) ∧ Step noF w w' := by
  have h0 := nil_str
  have hE := same_str
  have c1 := refMis_any ⟨ka, xa, ya⟩
  have c2 := refMis_any ⟨kb, xb, yb⟩
  have e1 : (Mg.mk ka xa ya).value = .agg #[.int .i64 ka, .string (str xa), .string (str ya)] := rfl
  have e2 : (Mg.mk kb xb yb).value = .agg #[.int .i64 kb, .string (str xb), .string (str yb)] := rfl
  rw [e1] at c1 ⊢
  rw [e2] at c2 ⊢
  obtain ⟨ta, tb, tz, sw⟩ := trip3 w 37 ⟨ka, xa, ya⟩ ⟨kb, xb, yb⟩ ⟨0, [], []⟩
  have TA := hid ta
  have TB := hid tb
  have TZ := hid tz
  have SW := hid sw
  clear ta tb tz sw
  rw [h1] at c1
  rw [h2] at c2
  have HR := hid (thenQ_no (a := ⟨ka, xa, ya⟩) (b := ⟨kb, xb, yb⟩) (by simp [Mg.both, h2]))
  clear h1 h2
  go_enter Tryz.func82, Tryz.ntmps82
  go_wp2_with fail
  refine (c1 _).mono ?_
  rintro e w2 ⟨rfl, s2⟩
  have TA2 := hid (TA.out.step s2)
  have TB2 := hid (TB.out.step s2)
  have TZ2 := hid (TZ.out.step s2)
  obtain ⟨a0, a1, a2, _, _, _⟩ := TA2.out.all
  obtain ⟨b0, b1, b2, _, _, _⟩ := TB2.out.all
  have S2 := hid (SW.out.trans s2)
  clear s2
  go_wp2_with fail
  refine (c2 _).mono ?_
  rintro e w3 ⟨rfl, s3⟩
  have TA3 := hid (TA2.out.step s3)
  have TB3 := hid (TB2.out.step s3)
  have TZ3 := hid (TZ2.out.step s3)
  clear a0 a1 a2 b0 b1 b2
  obtain ⟨a0, a1, a2, _, _, _⟩ := TA3.out.all
  obtain ⟨b0, b1, b2, _, _, _⟩ := TB3.out.all
  have S3 := hid (S2.out.trans s3)
  clear s3
  obtain ⟨d0, d1, d2, f0, f1, f2⟩ := TZ3.out.all
  have T9 := hid (TZ3.out.put ⟨0, [], []⟩)
  obtain ⟨x0, x1, x2, _, _, _⟩ := T9.out.all
  go_wp2_with fail
  refine bodyPost_ret (v := .tuple #[.agg #[.int .i64 0, .string (str []), .string (str [])], .bool false]) (by simp [results, Tryz.results82, go_sem, *]) rfl ⟨by rw [HR.out], ?_⟩
  exact S3.out.put3 _ (by omega) _ _ _
set_option maxHeartbeats 1000000 in
theorem refThen_no3 (ka kb : Int) (xa ya xb yb : List UInt8) (w : World) (h1 : (Mg.mk ka xa ya).is = true) (h2 : (Mg.mk kb xb yb).is = true) (hk : ¬ xa = xb) : Calls Tryz.prog 82 #[(Mg.mk ka xa ya).value, (Mg.mk kb xb yb).value] w fun e w' => e = .returned ((Mg.mk ka xa ya).thenQ ⟨kb, xb, yb⟩) ∧ Step noF w w' := by
  have h0 := nil_str
  have hE := same_str
  have c1 := refMis_any ⟨ka, xa, ya⟩
  have c2 := refMis_any ⟨kb, xb, yb⟩
  have e1 : (Mg.mk ka xa ya).value = .agg #[.int .i64 ka, .string (str xa), .string (str ya)] := rfl
  have e2 : (Mg.mk kb xb yb).value = .agg #[.int .i64 kb, .string (str xb), .string (str yb)] := rfl
  rw [e1] at c1 ⊢
  rw [e2] at c2 ⊢
  obtain ⟨ta, tb, tz, sw⟩ := trip3 w 37 ⟨ka, xa, ya⟩ ⟨kb, xb, yb⟩ ⟨0, [], []⟩
  have TA := hid ta
  have TB := hid tb
  have TZ := hid tz
  have SW := hid sw
  clear ta tb tz sw
  rw [h1] at c1
  rw [h2] at c2
  have HR := hid (thenQ_no (a := ⟨ka, xa, ya⟩) (b := ⟨kb, xb, yb⟩) (by simp [Mg.both, hk]))
  clear h1 h2
  go_enter Tryz.func82, Tryz.ntmps82
  go_wp2_with fail
  refine (c1 _).mono ?_
  rintro e w2 ⟨rfl, s2⟩
  have TA2 := hid (TA.out.step s2)
  have TB2 := hid (TB.out.step s2)
  have TZ2 := hid (TZ.out.step s2)
  obtain ⟨a0, a1, a2, _, _, _⟩ := TA2.out.all
  obtain ⟨b0, b1, b2, _, _, _⟩ := TB2.out.all
  have S2 := hid (SW.out.trans s2)
  clear s2
  go_wp2_with fail
  refine (c2 _).mono ?_
  rintro e w3 ⟨rfl, s3⟩
  have TA3 := hid (TA2.out.step s3)
  have TB3 := hid (TB2.out.step s3)
  have TZ3 := hid (TZ2.out.step s3)
  clear a0 a1 a2 b0 b1 b2
  obtain ⟨a0, a1, a2, _, _, _⟩ := TA3.out.all
  obtain ⟨b0, b1, b2, _, _, _⟩ := TB3.out.all
  have S3 := hid (S2.out.trans s3)
  clear s3
  obtain ⟨d0, d1, d2, f0, f1, f2⟩ := TZ3.out.all
  have T9 := hid (TZ3.out.put ⟨0, [], []⟩)
  obtain ⟨x0, x1, x2, _, _, _⟩ := T9.out.all
  go_wp2_with fail
  refine bodyPost_ret (v := .tuple #[.agg #[.int .i64 0, .string (str []), .string (str [])], .bool false]) (by simp [results, Tryz.results82, go_sem, *]) rfl ⟨by rw [HR.out], ?_⟩
  exact S3.out.put3 _ (by omega) _ _ _
set_option maxHeartbeats 1000000 in
theorem refThen_b (ka kb : Int) (xa ya xb yb : List UInt8) (w : World) (h1 : (Mg.mk ka xa ya).is = true) (h2 : (Mg.mk kb xb yb).is = true) (hk : xa = xb) (h3 : ¬ kb = 3) : Calls Tryz.prog 82 #[(Mg.mk ka xa ya).value, (Mg.mk kb xb yb).value] w fun e w' => e = .returned ((Mg.mk ka xa ya).thenQ ⟨kb, xb, yb⟩) ∧ Step noF w w' := by
  have h0 := nil_str
  have hE := same_str
  have c1 := refMis_any ⟨ka, xa, ya⟩
  have c2 := refMis_any ⟨kb, xb, yb⟩
  have e1 : (Mg.mk ka xa ya).value = .agg #[.int .i64 ka, .string (str xa), .string (str ya)] := rfl
  have e2 : (Mg.mk kb xb yb).value = .agg #[.int .i64 kb, .string (str xb), .string (str yb)] := rfl
  rw [e1] at c1 ⊢
  rw [e2] at c2 ⊢
  obtain ⟨ta, tb, tz, sw⟩ := trip3 w 37 ⟨ka, xa, ya⟩ ⟨kb, xb, yb⟩ ⟨0, [], []⟩
  have TA := hid ta
  have TB := hid tb
  have TZ := hid tz
  have SW := hid sw
  clear ta tb tz sw
  rw [h1] at c1
  rw [h2] at c2
  have hB : (Mg.mk ka xa ya).both ⟨kb, xb, yb⟩ = true := by
    unfold Mg.both
    rw [h1, h2]
    simp [hk]
  have HR := hid (thenQ_b hB h3)
  have g3 : (kb == 3) = false := by rw [beq_eq_false_iff_ne]; exact h3
  clear h1 h2 hB
  subst hk
  go_enter Tryz.func82, Tryz.ntmps82
  go_wp2_with fail
  refine (c1 _).mono ?_
  rintro e w2 ⟨rfl, s2⟩
  have TA2 := hid (TA.out.step s2)
  have TB2 := hid (TB.out.step s2)
  have TZ2 := hid (TZ.out.step s2)
  obtain ⟨a0, a1, a2, _, _, _⟩ := TA2.out.all
  obtain ⟨b0, b1, b2, _, _, _⟩ := TB2.out.all
  have S2 := hid (SW.out.trans s2)
  clear s2
  go_wp2_with fail
  refine (c2 _).mono ?_
  rintro e w3 ⟨rfl, s3⟩
  have TA3 := hid (TA2.out.step s3)
  have TB3 := hid (TB2.out.step s3)
  have TZ3 := hid (TZ2.out.step s3)
  clear a0 a1 a2 b0 b1 b2
  obtain ⟨a0, a1, a2, _, _, _⟩ := TA3.out.all
  obtain ⟨b0, b1, b2, _, _, _⟩ := TB3.out.all
  have S3 := hid (S2.out.trans s3)
  clear s3
  obtain ⟨d0, d1, d2, f0, f1, f2⟩ := TZ3.out.all
  have T9 := hid (TZ3.out.put ⟨kb, xa, yb⟩)
  obtain ⟨x0, x1, x2, _, _, _⟩ := T9.out.all
  go_wp2_with fail
  refine bodyPost_ret (v := .tuple #[.agg #[.int .i64 kb, .string (str xa), .string (str yb)], .bool true]) (by simp [results, Tryz.results82, go_sem, *]) rfl ⟨by rw [HR.out], ?_⟩
  exact S3.out.put3 _ (by omega) _ _ _
set_option maxHeartbeats 1000000 in
theorem refThen_aa (ka kb : Int) (xa ya xb yb : List UInt8) (w : World) (h1 : (Mg.mk ka xa ya).is = true) (h2 : (Mg.mk kb xb yb).is = true) (hk : xa = xb) (h3 : kb = 3) (h4 : ka = 3) : Calls Tryz.prog 82 #[(Mg.mk ka xa ya).value, (Mg.mk kb xb yb).value] w fun e w' => e = .returned ((Mg.mk ka xa ya).thenQ ⟨kb, xb, yb⟩) ∧ Step noF w w' := by
  have h0 := nil_str
  have hE := same_str
  have c1 := refMis_any ⟨ka, xa, ya⟩
  have c2 := refMis_any ⟨kb, xb, yb⟩
  have e1 : (Mg.mk ka xa ya).value = .agg #[.int .i64 ka, .string (str xa), .string (str ya)] := rfl
  have e2 : (Mg.mk kb xb yb).value = .agg #[.int .i64 kb, .string (str xb), .string (str yb)] := rfl
  rw [e1] at c1 ⊢
  rw [e2] at c2 ⊢
  obtain ⟨ta, tb, tz, sw⟩ := trip3 w 37 ⟨ka, xa, ya⟩ ⟨kb, xb, yb⟩ ⟨0, [], []⟩
  have TA := hid ta
  have TB := hid tb
  have TZ := hid tz
  have SW := hid sw
  clear ta tb tz sw
  rw [h1] at c1
  rw [h2] at c2
  have hB : (Mg.mk ka xa ya).both ⟨kb, xb, yb⟩ = true := by
    unfold Mg.both
    rw [h1, h2]
    simp [hk]
  have HR := hid (thenQ_aa hB h3 h4)
  have cS := refSum_any ya yb
  obtain ⟨V, hV⟩ : ∃ V, sumL ya yb = V := ⟨_, rfl⟩
  have HR2 : Hid ((Mg.mk ka xa ya).thenQ ⟨kb, xb, yb⟩ = .tuple #[.agg #[.int .i64 3, .string (str xa), .string (str V)], .bool true]) := by
    rw [← hV]
    exact HR.out
  rw [hV] at cS
  clear HR hV
  have HR := HR2
  clear HR2 h1 h2 hB
  subst hk h3 h4
  go_enter Tryz.func82, Tryz.ntmps82
  go_wp2_with fail
  refine (c1 _).mono ?_
  rintro e w2 ⟨rfl, s2⟩
  have TA2 := hid (TA.out.step s2)
  have TB2 := hid (TB.out.step s2)
  have TZ2 := hid (TZ.out.step s2)
  obtain ⟨a0, a1, a2, _, _, _⟩ := TA2.out.all
  obtain ⟨b0, b1, b2, _, _, _⟩ := TB2.out.all
  have S2 := hid (SW.out.trans s2)
  clear s2
  go_wp2_with fail
  refine (c2 _).mono ?_
  rintro e w3 ⟨rfl, s3⟩
  have TA3 := hid (TA2.out.step s3)
  have TB3 := hid (TB2.out.step s3)
  have TZ3 := hid (TZ2.out.step s3)
  clear a0 a1 a2 b0 b1 b2
  obtain ⟨a0, a1, a2, _, _, _⟩ := TA3.out.all
  obtain ⟨b0, b1, b2, _, _, _⟩ := TB3.out.all
  have S3 := hid (S2.out.trans s3)
  clear s3
  obtain ⟨d0, d1, d2, f0, f1, f2⟩ := TZ3.out.all
  go_wp2_with fail
  go_region_with (go_at_call 86; refine (cS _).mono ?_; rintro e w4 ⟨rfl, s4⟩; have TA4 := hid (TA3.out.step ((Step.refl noF w3).drew.trans s4)); have TZ4 := hid (TZ3.out.step ((Step.refl noF w3).drew.trans s4)); have S4 := hid (S3.out.trans ((Step.refl noF w3).drew.trans s4)); clear s4 a0 a1 a2 b0 b1 b2 d0 d1 d2 f0 f1 f2; obtain ⟨a0, a1, a2, _, _, _⟩ := TA4.out.all; obtain ⟨d0, d1, d2, f0, f1, f2⟩ := TZ4.out.all; have T9 := hid (TZ4.out.put ⟨3, xa, V⟩); obtain ⟨x0, x1, x2, _, _, _⟩ := T9.out.all)
  all_goals
    go_wp2_with fail
    refine bodyPost_ret (v := .tuple #[.agg #[.int .i64 3, .string (str xa), .string (str V)], .bool true]) (by simp [results, Tryz.results82, go_sem, *]) rfl ⟨by rw [HR.out], ?_⟩
    exact S4.out.put3 _ (by omega) _ _ _
set_option maxHeartbeats 1000000 in
theorem refThen_da (ka kb : Int) (xa ya xb yb : List UInt8) (w : World) (h1 : (Mg.mk ka xa ya).is = true) (h2 : (Mg.mk kb xb yb).is = true) (hk : xa = xb) (h3 : kb = 3) (h4 : ¬ ka = 3) (h5 : ka = 2) : Calls Tryz.prog 82 #[(Mg.mk ka xa ya).value, (Mg.mk kb xb yb).value] w fun e w' => e = .returned ((Mg.mk ka xa ya).thenQ ⟨kb, xb, yb⟩) ∧ Step noF w w' := by
  have h0 := nil_str
  have hE := same_str
  have c1 := refMis_any ⟨ka, xa, ya⟩
  have c2 := refMis_any ⟨kb, xb, yb⟩
  have e1 : (Mg.mk ka xa ya).value = .agg #[.int .i64 ka, .string (str xa), .string (str ya)] := rfl
  have e2 : (Mg.mk kb xb yb).value = .agg #[.int .i64 kb, .string (str xb), .string (str yb)] := rfl
  rw [e1] at c1 ⊢
  rw [e2] at c2 ⊢
  obtain ⟨ta, tb, tz, sw⟩ := trip3 w 37 ⟨ka, xa, ya⟩ ⟨kb, xb, yb⟩ ⟨0, [], []⟩
  have TA := hid ta
  have TB := hid tb
  have TZ := hid tz
  have SW := hid sw
  clear ta tb tz sw
  rw [h1] at c1
  rw [h2] at c2
  have hB : (Mg.mk ka xa ya).both ⟨kb, xb, yb⟩ = true := by
    unfold Mg.both
    rw [h1, h2]
    simp [hk]
  have HR := hid (thenQ_da hB h3 h5)
  clear h1 h2 hB
  subst hk h3 h5
  go_enter Tryz.func82, Tryz.ntmps82
  go_wp2_with fail
  refine (c1 _).mono ?_
  rintro e w2 ⟨rfl, s2⟩
  have TA2 := hid (TA.out.step s2)
  have TB2 := hid (TB.out.step s2)
  have TZ2 := hid (TZ.out.step s2)
  obtain ⟨a0, a1, a2, _, _, _⟩ := TA2.out.all
  obtain ⟨b0, b1, b2, _, _, _⟩ := TB2.out.all
  have S2 := hid (SW.out.trans s2)
  clear s2
  go_wp2_with fail
  refine (c2 _).mono ?_
  rintro e w3 ⟨rfl, s3⟩
  have TA3 := hid (TA2.out.step s3)
  have TB3 := hid (TB2.out.step s3)
  have TZ3 := hid (TZ2.out.step s3)
  clear a0 a1 a2 b0 b1 b2
  obtain ⟨a0, a1, a2, _, _, _⟩ := TA3.out.all
  obtain ⟨b0, b1, b2, _, _, _⟩ := TB3.out.all
  have S3 := hid (S2.out.trans s3)
  clear s3
  obtain ⟨d0, d1, d2, f0, f1, f2⟩ := TZ3.out.all
  have T9 := hid (TZ3.out.put ⟨1, xa, yb⟩)
  obtain ⟨x0, x1, x2, _, _, _⟩ := T9.out.all
  go_wp2_with fail
  refine bodyPost_ret (v := .tuple #[.agg #[.int .i64 1, .string (str xa), .string (str yb)], .bool true]) (by simp [results, Tryz.results82, go_sem, *]) rfl ⟨by rw [HR.out], ?_⟩
  exact S3.out.put3 _ (by omega) _ _ _
set_option maxHeartbeats 1000000 in
theorem refThen_pa (ka kb : Int) (xa ya xb yb : List UInt8) (w : World) (h1 : (Mg.mk ka xa ya).is = true) (h2 : (Mg.mk kb xb yb).is = true) (hk : xa = xb) (h3 : kb = 3) (h4 : ¬ ka = 3) (h5 : ¬ ka = 2) : Calls Tryz.prog 82 #[(Mg.mk ka xa ya).value, (Mg.mk kb xb yb).value] w fun e w' => e = .returned ((Mg.mk ka xa ya).thenQ ⟨kb, xb, yb⟩) ∧ Step noF w w' := by
  have h0 := nil_str
  have hE := same_str
  have c1 := refMis_any ⟨ka, xa, ya⟩
  have c2 := refMis_any ⟨kb, xb, yb⟩
  have e1 : (Mg.mk ka xa ya).value = .agg #[.int .i64 ka, .string (str xa), .string (str ya)] := rfl
  have e2 : (Mg.mk kb xb yb).value = .agg #[.int .i64 kb, .string (str xb), .string (str yb)] := rfl
  rw [e1] at c1 ⊢
  rw [e2] at c2 ⊢
  obtain ⟨ta, tb, tz, sw⟩ := trip3 w 37 ⟨ka, xa, ya⟩ ⟨kb, xb, yb⟩ ⟨0, [], []⟩
  have TA := hid ta
  have TB := hid tb
  have TZ := hid tz
  have SW := hid sw
  clear ta tb tz sw
  rw [h1] at c1
  rw [h2] at c2
  have hB : (Mg.mk ka xa ya).both ⟨kb, xb, yb⟩ = true := by
    unfold Mg.both
    rw [h1, h2]
    simp [hk]
  have HR := hid (thenQ_pa hB h3 h4 h5)
  have cA := refApply_any ⟨kb, xb, yb⟩ ya true
  rw [appR_add h2 h3, e2] at cA
  have g5 : (ka == 2) = false := by rw [beq_eq_false_iff_ne]; exact h5
  have g4 : (ka == 3) = false := by rw [beq_eq_false_iff_ne]; exact h4
  obtain ⟨V, hV⟩ : ∃ V, moreL ya yb = V := ⟨_, rfl⟩
  have HR2 : Hid ((Mg.mk ka xa ya).thenQ ⟨kb, xb, yb⟩ = .tuple #[.agg #[.int .i64 1, .string (str xa), .string (str V)], .bool true]) := by
    rw [← hV]
    exact HR.out
  have cA2 : ∀ u, Calls Tryz.prog 67 #[.agg #[.int .i64 kb, .string (str xb), .string (str yb)], .string (str ya), .bool true] u fun e w' => e = .returned (.tuple #[.string (str V), .bool true]) ∧ Step noF u w' := fun u => by rw [← hV]; exact cA u
  clear HR hV cA
  have HR := HR2
  have cA := cA2
  clear HR2 cA2 h1 h2 hB
  subst hk h3
  go_enter Tryz.func82, Tryz.ntmps82
  go_wp2_with fail
  refine (c1 _).mono ?_
  rintro e w2 ⟨rfl, s2⟩
  have TA2 := hid (TA.out.step s2)
  have TB2 := hid (TB.out.step s2)
  have TZ2 := hid (TZ.out.step s2)
  obtain ⟨a0, a1, a2, _, _, _⟩ := TA2.out.all
  obtain ⟨b0, b1, b2, _, _, _⟩ := TB2.out.all
  have S2 := hid (SW.out.trans s2)
  clear s2
  go_wp2_with fail
  refine (c2 _).mono ?_
  rintro e w3 ⟨rfl, s3⟩
  have TA3 := hid (TA2.out.step s3)
  have TB3 := hid (TB2.out.step s3)
  have TZ3 := hid (TZ2.out.step s3)
  clear a0 a1 a2 b0 b1 b2
  obtain ⟨a0, a1, a2, _, _, _⟩ := TA3.out.all
  obtain ⟨b0, b1, b2, _, _, _⟩ := TB3.out.all
  have S3 := hid (S2.out.trans s3)
  clear s3
  go_wp2_with fail
  refine (cA _).mono ?_
  rintro e w4 ⟨rfl, s4⟩
  have TA4 := hid (TA3.out.step s4)
  have TZ4 := hid (TZ3.out.step s4)
  clear a0 a1 a2 b0 b1 b2
  obtain ⟨a0, a1, a2, _, _, _⟩ := TA4.out.all
  have S4 := hid (S3.out.trans s4)
  clear s4
  obtain ⟨d0, d1, d2, f0, f1, f2⟩ := TZ4.out.all
  have T9 := hid (TZ4.out.put ⟨1, xa, V⟩)
  obtain ⟨x0, x1, x2, _, _, _⟩ := T9.out.all
  go_wp2_with fail
  refine bodyPost_ret (v := .tuple #[.agg #[.int .i64 1, .string (str xa), .string (str V)], .bool true]) (by simp [results, Tryz.results82, go_sem, *]) rfl ⟨by rw [HR.out], ?_⟩
  exact S4.out.put3 _ (by omega) _ _ _
theorem refThen_any (a b : Mg) (w : World) : Calls Tryz.prog 82 #[a.value, b.value] w fun e w' => e = .returned (a.thenQ b) ∧ Step noF w w' := by
  obtain ⟨ka, xa, ya⟩ := a
  obtain ⟨kb, xb, yb⟩ := b
  cases h1 : (Mg.mk ka xa ya).is
  · exact refThen_no1 ka kb xa ya xb yb w h1
  · cases h2 : (Mg.mk kb xb yb).is
    · exact refThen_no2 ka kb xa ya xb yb w h1 h2
    · by_cases hk : xa = xb
      · by_cases h3 : kb = 3
        · by_cases h4 : ka = 3
          · exact refThen_aa ka kb xa ya xb yb w h1 h2 hk h3 h4
          · by_cases h5 : ka = 2
            · exact refThen_da ka kb xa ya xb yb w h1 h2 hk h3 h4 h5
            · exact refThen_pa ka kb xa ya xb yb w h1 h2 hk h3 h4 h5
        · exact refThen_b ka kb xa ya xb yb w h1 h2 hk h3
      · exact refThen_no3 ka kb xa ya xb yb w h1 h2 hk
end Go.Proofs.YtnalillebemglaaGreat
