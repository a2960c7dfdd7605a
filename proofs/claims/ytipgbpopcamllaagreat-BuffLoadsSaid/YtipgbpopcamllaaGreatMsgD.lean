/-
  What the reference's Then does.
-/
import Derived.Test.YtipgbpopcamllaaGreatMsgB
import Derived.Test.YtipgbpopcamllaaGreatMsgC
import Derived.BigRegion
import Derived.Deep.RegionWith
namespace Go.Proofs.YtipgbpopcamllaaGreat
open Go.RowKit
set_option linter.unusedVariables false
set_option linter.unusedSimpArgs false

/-- What the reference's Then answers. -/
def Mg.thenQ (a b : Mg) : Value := .tuple #[(a.then b).value, .bool (a.both b)]
theorem thenQ_no {a b : Mg} (h : a.both b = false) : a.thenQ b = .tuple #[.agg #[.int .i64 0, .string (str []), .string (str [])], .bool false] := by
  simp [Mg.thenQ, Mg.then, h, Mg.zero, Mg.value]
theorem thenQ_b {a b : Mg} (h : a.both b = true) (h3 : b.kind ≠ 3) : a.thenQ b = .tuple #[.agg #[.int .i64 b.kind, .string (str b.key), .string (str b.val)], .bool true] := by
  simp [Mg.thenQ, Mg.then, h, h3, Mg.value]
theorem thenQ_aa {a b : Mg} (h : a.both b = true) (h3 : b.kind = 3) (h4 : a.kind = 3) : a.thenQ b = .tuple #[.agg #[.int .i64 3, .string (str a.key), .string (str (sumL a.val b.val))], .bool true] := by
  simp [Mg.thenQ, Mg.then, h, h3, h4, Mg.value]
theorem thenQ_da {a b : Mg} (h : a.both b = true) (h3 : b.kind = 3) (h4 : a.kind = 2) : a.thenQ b = .tuple #[.agg #[.int .i64 1, .string (str a.key), .string (str b.val)], .bool true] := by
  simp [Mg.thenQ, Mg.then, h, h3, h4, Mg.value]
theorem thenQ_pa {a b : Mg} (h : a.both b = true) (h3 : b.kind = 3) (h4 : a.kind ≠ 3) (h5 : a.kind ≠ 2) : a.thenQ b = .tuple #[.agg #[.int .i64 1, .string (str a.key), .string (str (moreL a.val b.val))], .bool true] := by
  simp [Mg.thenQ, Mg.then, h, h3, h4, h5, Mg.value]

set_option maxHeartbeats 1000000 in
theorem refThen_no1 (ka kb : Int) (xa ya xb yb : List UInt8) (w : World) (h1 : (Mg.mk ka xa ya).is = false) : Calls Tryz.prog 63 #[(Mg.mk ka xa ya).value, (Mg.mk kb xb yb).value] w fun e w' => e = .returned ((Mg.mk ka xa ya).thenQ ⟨kb, xb, yb⟩) ∧ Step noF w w' := by
  have h0 := nil_str
  have hE := same_str
  have c1 := refMis_any ⟨ka, xa, ya⟩
  have c2 := refMis_any ⟨kb, xb, yb⟩
  have e1 : (Mg.mk ka xa ya).value = .agg #[.int .i64 ka, .string (str xa), .string (str ya)] := rfl
  have e2 : (Mg.mk kb xb yb).value = .agg #[.int .i64 kb, .string (str xb), .string (str yb)] := rfl
  rw [e1] at c1 ⊢
  rw [e2] at c2 ⊢
  obtain ⟨ta, tb, tz, sw⟩ := trip3 w 40 ⟨ka, xa, ya⟩ ⟨kb, xb, yb⟩ ⟨0, [], []⟩
  have TA := hid ta
  have TB := hid tb
  have TZ := hid tz
  have SW := hid sw
  clear ta tb tz sw
  rw [h1] at c1
  have HR := hid (thenQ_no (a := ⟨ka, xa, ya⟩) (b := ⟨kb, xb, yb⟩) (by simp [Mg.both, h1]))
  clear h1
  go_enter Tryz.func63, Tryz.ntmps63
  go_wp2_with fail
  refine (c1 _).mono ?_
  rintro e w2 ⟨rfl, s2⟩
  have TA2 := hid (TA.out.step s2)
  have TB2 := hid (TB.out.step s2)
  have TZ2 := hid (TZ.out.step s2)
  obtain ⟨a0, a1, a2, _, _, _⟩ := TA2.out.all
  obtain ⟨b0, b1, b2, _, _, _⟩ := TB2.out.all
  have S2 := hid (SW.out.trans s2)
  clear s2
  obtain ⟨d0, d1, d2, f0, f1, f2⟩ := TZ2.out.all
  have T9 := hid (TZ2.out.put ⟨0, [], []⟩)
  obtain ⟨x0, x1, x2, _, _, _⟩ := T9.out.all
  go_wp2_with fail
  refine bodyPost_ret (v := .tuple #[.agg #[.int .i64 0, .string (str []), .string (str [])], .bool false]) (by simp [results, Tryz.results63, go_sem, *]) rfl ⟨by rw [HR.out], ?_⟩
  exact S2.out.put3 _ (by omega) _ _ _
set_option maxHeartbeats 1000000 in
theorem refThen_no2 (ka kb : Int) (xa ya xb yb : List UInt8) (w : World) (h1 : (Mg.mk ka xa ya).is = true) (h2 : (Mg.mk kb xb yb).is = false) : Calls Tryz.prog 63 #[(Mg.mk ka xa ya).value, (Mg.mk kb xb yb).value] w fun e w' => e = .returned ((Mg.mk ka xa ya).thenQ ⟨kb, xb, yb⟩) ∧ Step noF w w' := by
  have h0 := nil_str
  have hE := same_str
  have c1 := refMis_any ⟨ka, xa, ya⟩
  have c2 := refMis_any ⟨kb, xb, yb⟩
  have e1 : (Mg.mk ka xa ya).value = .agg #[.int .i64 ka, .string (str xa), .string (str ya)] := rfl
  have e2 : (Mg.mk kb xb yb).value = .agg #[.int .i64 kb, .string (str xb), .string (str yb)] := rfl
  rw [e1] at c1 ⊢
  rw [e2] at c2 ⊢
  obtain ⟨ta, tb, tz, sw⟩ := trip3 w 40 ⟨ka, xa, ya⟩ ⟨kb, xb, yb⟩ ⟨0, [], []⟩
  have TA := hid ta
  have TB := hid tb
  have TZ := hid tz
  have SW := hid sw
  clear ta tb tz sw
  rw [h1] at c1
  rw [h2] at c2
  have HR := hid (thenQ_no (a := ⟨ka, xa, ya⟩) (b := ⟨kb, xb, yb⟩) (by simp [Mg.both, h2]))
  clear h1 h2
  go_enter Tryz.func63, Tryz.ntmps63
  go_wp2_with fail
  refine (c1 _).mono ?_
  rintro e w2 ⟨rfl, s2⟩
  have TA2 := hid (TA.out.step s2)
  have TB2 := hid (TB.out.step s2)
  have TZ2 := hid (TZ.out.step s2)
  obtain ⟨a0, a1, a2, _, _, _⟩ := TA2.out.all
  obtain ⟨b0, b1, b2, _, _, _⟩ := TB2.out.all
  have S2 := hid (SW.out.trans s2)
  clear s2
  go_wp2_with fail
  refine (c2 _).mono ?_
  rintro e w3 ⟨rfl, s3⟩
  have TA3 := hid (TA2.out.step s3)
  have TB3 := hid (TB2.out.step s3)
  have TZ3 := hid (TZ2.out.step s3)
  clear a0 a1 a2 b0 b1 b2
  obtain ⟨a0, a1, a2, _, _, _⟩ := TA3.out.all
  obtain ⟨b0, b1, b2, _, _, _⟩ := TB3.out.all
  have S3 := hid (S2.out.trans s3)
  clear s3
  obtain ⟨d0, d1, d2, f0, f1, f2⟩ := TZ3.out.all
  have T9 := hid (TZ3.out.put ⟨0, [], []⟩)
  obtain ⟨x0, x1, x2, _, _, _⟩ := T9.out.all
  go_wp2_with fail
  refine bodyPost_ret (v := .tuple #[.agg #[.int .i64 0, .string (str []), .string (str [])], .bool false]) (by simp [results, Tryz.results63, go_sem, *]) rfl ⟨by rw [HR.out], ?_⟩
  exact S3.out.put3 _ (by omega) _ _ _
set_option maxHeartbeats 1000000 in
theorem refThen_no3 (ka kb : Int) (xa ya xb yb : List UInt8) (w : World) (h1 : (Mg.mk ka xa ya).is = true) (h2 : (Mg.mk kb xb yb).is = true) (hk : ¬ xa = xb) : Calls Tryz.prog 63 #[(Mg.mk ka xa ya).value, (Mg.mk kb xb yb).value] w fun e w' => e = .returned ((Mg.mk ka xa ya).thenQ ⟨kb, xb, yb⟩) ∧ Step noF w w' := by
  have h0 := nil_str
  have hE := same_str
  have c1 := refMis_any ⟨ka, xa, ya⟩
  have c2 := refMis_any ⟨kb, xb, yb⟩
  have e1 : (Mg.mk ka xa ya).value = .agg #[.int .i64 ka, .string (str xa), .string (str ya)] := rfl
  have e2 : (Mg.mk kb xb yb).value = .agg #[.int .i64 kb, .string (str xb), .string (str yb)] := rfl
  rw [e1] at c1 ⊢
  rw [e2] at c2 ⊢
  obtain ⟨ta, tb, tz, sw⟩ := trip3 w 40 ⟨ka, xa, ya⟩ ⟨kb, xb, yb⟩ ⟨0, [], []⟩
  have TA := hid ta
  have TB := hid tb
  have TZ := hid tz
  have SW := hid sw
  clear ta tb tz sw
  rw [h1] at c1
  rw [h2] at c2
  have HR := hid (thenQ_no (a := ⟨ka, xa, ya⟩) (b := ⟨kb, xb, yb⟩) (by simp [Mg.both, hk]))
  clear h1 h2
  go_enter Tryz.func63, Tryz.ntmps63
  go_wp2_with fail
  refine (c1 _).mono ?_
  rintro e w2 ⟨rfl, s2⟩
  have TA2 := hid (TA.out.step s2)
  have TB2 := hid (TB.out.step s2)
  have TZ2 := hid (TZ.out.step s2)
  obtain ⟨a0, a1, a2, _, _, _⟩ := TA2.out.all
  obtain ⟨b0, b1, b2, _, _, _⟩ := TB2.out.all
  have S2 := hid (SW.out.trans s2)
  clear s2
  go_wp2_with fail
  refine (c2 _).mono ?_
  rintro e w3 ⟨rfl, s3⟩
  have TA3 := hid (TA2.out.step s3)
  have TB3 := hid (TB2.out.step s3)
  have TZ3 := hid (TZ2.out.step s3)
  clear a0 a1 a2 b0 b1 b2
  obtain ⟨a0, a1, a2, _, _, _⟩ := TA3.out.all
  obtain ⟨b0, b1, b2, _, _, _⟩ := TB3.out.all
  have S3 := hid (S2.out.trans s3)
  clear s3
  obtain ⟨d0, d1, d2, f0, f1, f2⟩ := TZ3.out.all
  have T9 := hid (TZ3.out.put ⟨0, [], []⟩)
  obtain ⟨x0, x1, x2, _, _, _⟩ := T9.out.all
  go_wp2_with fail
  refine bodyPost_ret (v := .tuple #[.agg #[.int .i64 0, .string (str []), .string (str [])], .bool false]) (by simp [results, Tryz.results63, go_sem, *]) rfl ⟨by rw [HR.out], ?_⟩
  exact S3.out.put3 _ (by omega) _ _ _
set_option maxHeartbeats 1000000 in
theorem refThen_b (ka kb : Int) (xa ya xb yb : List UInt8) (w : World) (h1 : (Mg.mk ka xa ya).is = true) (h2 : (Mg.mk kb xb yb).is = true) (hk : xa = xb) (h3 : ¬ kb = 3) : Calls Tryz.prog 63 #[(Mg.mk ka xa ya).value, (Mg.mk kb xb yb).value] w fun e w' => e = .returned ((Mg.mk ka xa ya).thenQ ⟨kb, xb, yb⟩) ∧ Step noF w w' := by
  have h0 := nil_str
  have hE := same_str
  have c1 := refMis_any ⟨ka, xa, ya⟩
  have c2 := refMis_any ⟨kb, xb, yb⟩
  have e1 : (Mg.mk ka xa ya).value = .agg #[.int .i64 ka, .string (str xa), .string (str ya)] := rfl
  have e2 : (Mg.mk kb xb yb).value = .agg #[.int .i64 kb, .string (str xb), .string (str yb)] := rfl
  rw [e1] at c1 ⊢
  rw [e2] at c2 ⊢
  obtain ⟨ta, tb, tz, sw⟩ := trip3 w 40 ⟨ka, xa, ya⟩ ⟨kb, xb, yb⟩ ⟨0, [], []⟩
  have TA := hid ta
  have TB := hid tb
  have TZ := hid tz
  have SW := hid sw
  clear ta tb tz sw
  rw [h1] at c1
  rw [h2] at c2
  have hB : (Mg.mk ka xa ya).both ⟨kb, xb, yb⟩ = true := by
    unfold Mg.both
    rw [h1, h2]
    simp [hk]
  have HR := hid (thenQ_b hB h3)
  have g3 : (kb == 3) = false := by rw [beq_eq_false_iff_ne]; exact h3
  clear h1 h2 hB
  subst hk
  go_enter Tryz.func63, Tryz.ntmps63
  go_wp2_with fail
  refine (c1 _).mono ?_
  rintro e w2 ⟨rfl, s2⟩
  have TA2 := hid (TA.out.step s2)
  have TB2 := hid (TB.out.step s2)
  have TZ2 := hid (TZ.out.step s2)
  obtain ⟨a0, a1, a2, _, _, _⟩ := TA2.out.all
  obtain ⟨b0, b1, b2, _, _, _⟩ := TB2.out.all
  have S2 := hid (SW.out.trans s2)
  clear s2
  go_wp2_with fail
  refine (c2 _).mono ?_
  rintro e w3 ⟨rfl, s3⟩
  have TA3 := hid (TA2.out.step s3)
  have TB3 := hid (TB2.out.step s3)
  have TZ3 := hid (TZ2.out.step s3)
  clear a0 a1 a2 b0 b1 b2
  obtain ⟨a0, a1, a2, _, _, _⟩ := TA3.out.all
  obtain ⟨b0, b1, b2, _, _, _⟩ := TB3.out.all
  have S3 := hid (S2.out.trans s3)
  clear s3
  obtain ⟨d0, d1, d2, f0, f1, f2⟩ := TZ3.out.all
  have T9 := hid (TZ3.out.put ⟨kb, xa, yb⟩)
  obtain ⟨x0, x1, x2, _, _, _⟩ := T9.out.all
  go_wp2_with fail
  refine bodyPost_ret (v := .tuple #[.agg #[.int .i64 kb, .string (str xa), .string (str yb)], .bool true]) (by simp [results, Tryz.results63, go_sem, *]) rfl ⟨by rw [HR.out], ?_⟩
  exact S3.out.put3 _ (by omega) _ _ _
set_option maxHeartbeats 1000000 in
theorem refThen_aa (ka kb : Int) (xa ya xb yb : List UInt8) (w : World) (h1 : (Mg.mk ka xa ya).is = true) (h2 : (Mg.mk kb xb yb).is = true) (hk : xa = xb) (h3 : kb = 3) (h4 : ka = 3) : Calls Tryz.prog 63 #[(Mg.mk ka xa ya).value, (Mg.mk kb xb yb).value] w fun e w' => e = .returned ((Mg.mk ka xa ya).thenQ ⟨kb, xb, yb⟩) ∧ Step noF w w' := by
  have h0 := nil_str
  have hE := same_str
  have c1 := refMis_any ⟨ka, xa, ya⟩
  have c2 := refMis_any ⟨kb, xb, yb⟩
  have e1 : (Mg.mk ka xa ya).value = .agg #[.int .i64 ka, .string (str xa), .string (str ya)] := rfl
  have e2 : (Mg.mk kb xb yb).value = .agg #[.int .i64 kb, .string (str xb), .string (str yb)] := rfl
  rw [e1] at c1 ⊢
  rw [e2] at c2 ⊢
  obtain ⟨ta, tb, tz, sw⟩ := trip3 w 40 ⟨ka, xa, ya⟩ ⟨kb, xb, yb⟩ ⟨0, [], []⟩
  have TA := hid ta
  have TB := hid tb
  have TZ := hid tz
  have SW := hid sw
  clear ta tb tz sw
  rw [h1] at c1
  rw [h2] at c2
  have hB : (Mg.mk ka xa ya).both ⟨kb, xb, yb⟩ = true := by
    unfold Mg.both
    rw [h1, h2]
    simp [hk]
  have HR := hid (thenQ_aa hB h3 h4)
  have cS := refSum_any ya yb
  obtain ⟨V, hV⟩ : ∃ V, sumL ya yb = V := ⟨_, rfl⟩
  have HR2 : Hid ((Mg.mk ka xa ya).thenQ ⟨kb, xb, yb⟩ = .tuple #[.agg #[.int .i64 3, .string (str xa), .string (str V)], .bool true]) := by
    rw [← hV]
    exact HR.out
  rw [hV] at cS
  clear HR hV
  have HR := HR2
  clear HR2 h1 h2 hB
  subst hk h3 h4
  go_enter Tryz.func63, Tryz.ntmps63
  go_wp2_with fail
  refine (c1 _).mono ?_
  rintro e w2 ⟨rfl, s2⟩
  have TA2 := hid (TA.out.step s2)
  have TB2 := hid (TB.out.step s2)
  have TZ2 := hid (TZ.out.step s2)
  obtain ⟨a0, a1, a2, _, _, _⟩ := TA2.out.all
  obtain ⟨b0, b1, b2, _, _, _⟩ := TB2.out.all
  have S2 := hid (SW.out.trans s2)
  clear s2
  go_wp2_with fail
  refine (c2 _).mono ?_
  rintro e w3 ⟨rfl, s3⟩
  have TA3 := hid (TA2.out.step s3)
  have TB3 := hid (TB2.out.step s3)
  have TZ3 := hid (TZ2.out.step s3)
  clear a0 a1 a2 b0 b1 b2
  obtain ⟨a0, a1, a2, _, _, _⟩ := TA3.out.all
  obtain ⟨b0, b1, b2, _, _, _⟩ := TB3.out.all
  have S3 := hid (S2.out.trans s3)
  clear s3
  obtain ⟨d0, d1, d2, f0, f1, f2⟩ := TZ3.out.all
  go_wp2_with fail
  go_region_with (go_at_call 93; refine (cS _).mono ?_; rintro e w4 ⟨rfl, s4⟩; have TA4 := hid (TA3.out.step ((Step.refl noF w3).drew.trans s4)); have TZ4 := hid (TZ3.out.step ((Step.refl noF w3).drew.trans s4)); have S4 := hid (S3.out.trans ((Step.refl noF w3).drew.trans s4)); clear s4 a0 a1 a2 b0 b1 b2 d0 d1 d2 f0 f1 f2; obtain ⟨a0, a1, a2, _, _, _⟩ := TA4.out.all; obtain ⟨d0, d1, d2, f0, f1, f2⟩ := TZ4.out.all; have T9 := hid (TZ4.out.put ⟨3, xa, V⟩); obtain ⟨x0, x1, x2, _, _, _⟩ := T9.out.all)
  all_goals
    go_wp2_with fail
    refine bodyPost_ret (v := .tuple #[.agg #[.int .i64 3, .string (str xa), .string (str V)], .bool true]) (by simp [results, Tryz.results63, go_sem, *]) rfl ⟨by rw [HR.out], ?_⟩
    exact S4.out.put3 _ (by omega) _ _ _
set_option maxHeartbeats 1000000 in
theorem refThen_da (ka kb : Int) (xa ya xb yb : List UInt8) (w : World) (h1 : (Mg.mk ka xa ya).is = true) (h2 : (Mg.mk kb xb yb).is = true) (hk : xa = xb) (h3 : kb = 3) (h4 : ¬ ka = 3) (h5 : ka = 2) : Calls Tryz.prog 63 #[(Mg.mk ka xa ya).value, (Mg.mk kb xb yb).value] w fun e w' => e = .returned ((Mg.mk ka xa ya).thenQ ⟨kb, xb, yb⟩) ∧ Step noF w w' := by
  have h0 := nil_str
  have hE := same_str
  have c1 := refMis_any ⟨ka, xa, ya⟩
  have c2 := refMis_any ⟨kb, xb, yb⟩
  have e1 : (Mg.mk ka xa ya).value = .agg #[.int .i64 ka, .string (str xa), .string (str ya)] := rfl
  have e2 : (Mg.mk kb xb yb).value = .agg #[.int .i64 kb, .string (str xb), .string (str yb)] := rfl
  rw [e1] at c1 ⊢
  rw [e2] at c2 ⊢
  obtain ⟨ta, tb, tz, sw⟩ := trip3 w 40 ⟨ka, xa, ya⟩ ⟨kb, xb, yb⟩ ⟨0, [], []⟩
  have TA := hid ta
  have TB := hid tb
  have TZ := hid tz
  have SW := hid sw
  clear ta tb tz sw
  rw [h1] at c1
  rw [h2] at c2
  have hB : (Mg.mk ka xa ya).both ⟨kb, xb, yb⟩ = true := by
    unfold Mg.both
    rw [h1, h2]
    simp [hk]
  have HR := hid (thenQ_da hB h3 h5)
  clear h1 h2 hB
  subst hk h3 h5
  go_enter Tryz.func63, Tryz.ntmps63
  go_wp2_with fail
  refine (c1 _).mono ?_
  rintro e w2 ⟨rfl, s2⟩
  have TA2 := hid (TA.out.step s2)
  have TB2 := hid (TB.out.step s2)
  have TZ2 := hid (TZ.out.step s2)
  obtain ⟨a0, a1, a2, _, _, _⟩ := TA2.out.all
  obtain ⟨b0, b1, b2, _, _, _⟩ := TB2.out.all
  have S2 := hid (SW.out.trans s2)
  clear s2
  go_wp2_with fail
  refine (c2 _).mono ?_
  rintro e w3 ⟨rfl, s3⟩
  have TA3 := hid (TA2.out.step s3)
  have TB3 := hid (TB2.out.step s3)
  have TZ3 := hid (TZ2.out.step s3)
  clear a0 a1 a2 b0 b1 b2
  obtain ⟨a0, a1, a2, _, _, _⟩ := TA3.out.all
  obtain ⟨b0, b1, b2, _, _, _⟩ := TB3.out.all
  have S3 := hid (S2.out.trans s3)
  clear s3
  obtain ⟨d0, d1, d2, f0, f1, f2⟩ := TZ3.out.all
  have T9 := hid (TZ3.out.put ⟨1, xa, yb⟩)
  obtain ⟨x0, x1, x2, _, _, _⟩ := T9.out.all
  go_wp2_with fail
  refine bodyPost_ret (v := .tuple #[.agg #[.int .i64 1, .string (str xa), .string (str yb)], .bool true]) (by simp [results, Tryz.results63, go_sem, *]) rfl ⟨by rw [HR.out], ?_⟩
  exact S3.out.put3 _ (by omega) _ _ _
set_option maxHeartbeats 1000000 in
theorem refThen_pa (ka kb : Int) (xa ya xb yb : List UInt8) (w : World) (h1 : (Mg.mk ka xa ya).is = true) (h2 : (Mg.mk kb xb yb).is = true) (hk : xa = xb) (h3 : kb = 3) (h4 : ¬ ka = 3) (h5 : ¬ ka = 2) : Calls Tryz.prog 63 #[(Mg.mk ka xa ya).value, (Mg.mk kb xb yb).value] w fun e w' => e = .returned ((Mg.mk ka xa ya).thenQ ⟨kb, xb, yb⟩) ∧ Step noF w w' := by
  have h0 := nil_str
  have hE := same_str
  have c1 := refMis_any ⟨ka, xa, ya⟩
  have c2 := refMis_any ⟨kb, xb, yb⟩
  have e1 : (Mg.mk ka xa ya).value = .agg #[.int .i64 ka, .string (str xa), .string (str ya)] := rfl
  have e2 : (Mg.mk kb xb yb).value = .agg #[.int .i64 kb, .string (str xb), .string (str yb)] := rfl
  rw [e1] at c1 ⊢
  rw [e2] at c2 ⊢
  obtain ⟨ta, tb, tz, sw⟩ := trip3 w 40 ⟨ka, xa, ya⟩ ⟨kb, xb, yb⟩ ⟨0, [], []⟩
  have TA := hid ta
  have TB := hid tb
  have TZ := hid tz
  have SW := hid sw
  clear ta tb tz sw
  rw [h1] at c1
  rw [h2] at c2
  have hB : (Mg.mk ka xa ya).both ⟨kb, xb, yb⟩ = true := by
    unfold Mg.both
    rw [h1, h2]
    simp [hk]
  have HR := hid (thenQ_pa hB h3 h4 h5)
  have cA := refApply_any ⟨kb, xb, yb⟩ ya true
  rw [appR_add h2 h3, e2] at cA
  have g5 : (ka == 2) = false := by rw [beq_eq_false_iff_ne]; exact h5
  have g4 : (ka == 3) = false := by rw [beq_eq_false_iff_ne]; exact h4
  obtain ⟨V, hV⟩ : ∃ V, moreL ya yb = V := ⟨_, rfl⟩
  have HR2 : Hid ((Mg.mk ka xa ya).thenQ ⟨kb, xb, yb⟩ = .tuple #[.agg #[.int .i64 1, .string (str xa), .string (str V)], .bool true]) := by
    rw [← hV]
    exact HR.out
  have cA2 : ∀ u, Calls Tryz.prog 94 #[.agg #[.int .i64 kb, .string (str xb), .string (str yb)], .string (str ya), .bool true] u fun e w' => e = .returned (.tuple #[.string (str V), .bool true]) ∧ Step noF u w' := fun u => by rw [← hV]; exact cA u
  clear HR hV cA
  have HR := HR2
  have cA := cA2
  clear HR2 cA2 h1 h2 hB
  subst hk h3
  go_enter Tryz.func63, Tryz.ntmps63
  go_wp2_with fail
  refine (c1 _).mono ?_
  rintro e w2 ⟨rfl, s2⟩
  have TA2 := hid (TA.out.step s2)
  have TB2 := hid (TB.out.step s2)
  have TZ2 := hid (TZ.out.step s2)
  obtain ⟨a0, a1, a2, _, _, _⟩ := TA2.out.all
  obtain ⟨b0, b1, b2, _, _, _⟩ := TB2.out.all
  have S2 := hid (SW.out.trans s2)
  clear s2
  go_wp2_with fail
  refine (c2 _).mono ?_
  rintro e w3 ⟨rfl, s3⟩
  have TA3 := hid (TA2.out.step s3)
  have TB3 := hid (TB2.out.step s3)
  have TZ3 := hid (TZ2.out.step s3)
  clear a0 a1 a2 b0 b1 b2
  obtain ⟨a0, a1, a2, _, _, _⟩ := TA3.out.all
  obtain ⟨b0, b1, b2, _, _, _⟩ := TB3.out.all
  have S3 := hid (S2.out.trans s3)
  clear s3
  go_wp2_with fail
  refine (cA _).mono ?_
  rintro e w4 ⟨rfl, s4⟩
  have TA4 := hid (TA3.out.step s4)
  have TZ4 := hid (TZ3.out.step s4)
  clear a0 a1 a2 b0 b1 b2
  obtain ⟨a0, a1, a2, _, _, _⟩ := TA4.out.all
  have S4 := hid (S3.out.trans s4)
  clear s4
  obtain ⟨d0, d1, d2, f0, f1, f2⟩ := TZ4.out.all
  have T9 := hid (TZ4.out.put ⟨1, xa, V⟩)
  obtain ⟨x0, x1, x2, _, _, _⟩ := T9.out.all
  go_wp2_with fail
  refine bodyPost_ret (v := .tuple #[.agg #[.int .i64 1, .string (str xa), .string (str V)], .bool true]) (by simp [results, Tryz.results63, go_sem, *]) rfl ⟨by rw [HR.out], ?_⟩
  exact S4.out.put3 _ (by omega) _ _ _
theorem refThen_any (a b : Mg) (w : World) : Calls Tryz.prog 63 #[a.value, b.value] w fun e w' => e = .returned (a.thenQ b) ∧ Step noF w w' := by
  obtain ⟨ka, xa, ya⟩ := a
  obtain ⟨kb, xb, yb⟩ := b
  cases h1 : (Mg.mk ka xa ya).is
  · exact refThen_no1 ka kb xa ya xb yb w h1
  · cases h2 : (Mg.mk kb xb yb).is
    · exact refThen_no2 ka kb xa ya xb yb w h1 h2
    · by_cases hk : xa = xb
      · by_cases h3 : kb = 3
        · by_cases h4 : ka = 3
          · exact refThen_aa ka kb xa ya xb yb w h1 h2 hk h3 h4
          · by_cases h5 : ka = 2
            · exact refThen_da ka kb xa ya xb yb w h1 h2 hk h3 h4 h5
            · exact refThen_pa ka kb xa ya xb yb w h1 h2 hk h3 h4 h5
        · exact refThen_b ka kb xa ya xb yb w h1 h2 hk h3
      · exact refThen_no3 ka kb xa ya xb yb w h1 h2 hk
end Go.Proofs.YtipgbpopcamllaaGreat
