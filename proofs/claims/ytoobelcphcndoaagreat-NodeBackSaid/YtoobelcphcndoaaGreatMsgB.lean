/-
  What Then of package msg does.
-/
import Derived.Test.YtoobelcphcndoaaGreatMsgA
namespace Go.Proofs.YtoobelcphcndoaaGreat
open Go.RowKit
set_option linter.unusedVariables false
set_option linter.unusedSimpArgs false

/-- What Then answers. -/
def Mg.thenR (a b : Mg) : Value := .tuple #[(a.then b).value, .int .i64 (a.thenE b)]
theorem thenR_no {a b : Mg} (h : a.both b = false) : a.thenR b = .tuple #[.agg #[.int .i64 0, .string (str []), .string (str [])], .int .i64 1] := by
  simp [Mg.thenR, Mg.then, Mg.thenE, h, Mg.zero, Mg.value]
theorem thenR_b {a b : Mg} (h : a.both b = true) (h3 : b.kind ≠ 3) : a.thenR b = .tuple #[.agg #[.int .i64 b.kind, .string (str b.key), .string (str b.val)], .int .i64 0] := by
  simp [Mg.thenR, Mg.then, Mg.thenE, h, h3, Mg.value]
theorem thenR_aa {a b : Mg} (h : a.both b = true) (h3 : b.kind = 3) (h4 : a.kind = 3) : a.thenR b = .tuple #[.agg #[.int .i64 3, .string (str a.key), .string (str (sumL a.val b.val))], .int .i64 0] := by
  simp [Mg.thenR, Mg.then, Mg.thenE, h, h3, h4, Mg.value]
theorem thenR_da {a b : Mg} (h : a.both b = true) (h3 : b.kind = 3) (h4 : a.kind = 2) : a.thenR b = .tuple #[.agg #[.int .i64 1, .string (str a.key), .string (str b.val)], .int .i64 0] := by
  simp [Mg.thenR, Mg.then, Mg.thenE, h, h3, h4, Mg.value]
theorem thenR_pa {a b : Mg} (h : a.both b = true) (h3 : b.kind = 3) (h4 : a.kind ≠ 3) (h5 : a.kind ≠ 2) : a.thenR b = .tuple #[.agg #[.int .i64 1, .string (str a.key), .string (str (moreL a.val b.val))], .int .i64 0] := by
  simp [Mg.thenR, Mg.then, Mg.thenE, h, h3, h4, h5, Mg.value]
/-- What an Add makes of another message's value. -/
def addOf (a b : Mg) : List UInt8 := if a.kind = 2 then b.val else moreL a.val b.val
theorem thenR_add {a b : Mg} (h : a.both b = true) (h3 : b.kind = 3) : a.thenR b = .tuple #[.agg #[.int .i64 (if a.kind = 3 then 3 else 1), .string (str a.key), .string (str (addOf a b))], .int .i64 0] := by
  have ha : a.is = true := by simp [Mg.both] at h; exact h.1.1
  have hb : b.is = true := by simp [Mg.both] at h; exact h.1.2
  have ca := Mg.cases ha
  have cb := Mg.cases hb
  have lb : b.val.length = 8 := by grind
  unfold addOf
  rcases ca with ⟨ka, la⟩ | ⟨ka, la⟩ | ⟨ka, la⟩
  · rw [thenR_pa h h3 (by omega) (by omega), if_neg (by omega), if_neg (by omega)]
  · rw [thenR_da h h3 ka, if_neg (by omega), if_pos ka]
  · rw [thenR_aa h h3 ka, if_pos ka, if_neg (by omega), moreL_eight _ _ la lb]
theorem appR_addOf {a b : Mg} (hb : b.is = true) (h3 : b.kind = 3) : b.appR a.val (decide (a.kind ≠ 2)) = .tuple #[.string (str (addOf a b)), .bool true] := by
  unfold addOf
  by_cases h : a.kind = 2
  · rw [if_pos h, appR_val hb (by omega) _ _ (fun _ => by simp [h])]
  · rw [if_neg h]
    have : decide (a.kind ≠ 2) = true := by simp [h]
    rw [this, appR_add hb h3]

set_option maxHeartbeats 1000000 in
theorem then_no1 (ka kb : Int) (xa ya xb yb : List UInt8) (ha : ya.length ≤ maxLen) (hb : yb.length ≤ maxLen) (w : World) (h1 : (Mg.mk ka xa ya).is = false) : Calls Tryz.prog 164 #[(Mg.mk ka xa ya).value, (Mg.mk kb xb yb).value] w fun e w' => e = .returned ((Mg.mk ka xa ya).thenR ⟨kb, xb, yb⟩) ∧ Step noF w w' := by
  have h0 := nil_str
  have hE := same_str
  have c1 := isNot_any ⟨ka, xa, ya⟩ ha
  have c2 := isNot_any ⟨kb, xb, yb⟩ hb
  have e1 : (Mg.mk ka xa ya).value = .agg #[.int .i64 ka, .string (str xa), .string (str ya)] := rfl
  have e2 : (Mg.mk kb xb yb).value = .agg #[.int .i64 kb, .string (str xb), .string (str yb)] := rfl
  rw [e1] at c1 ⊢
  rw [e2] at c2 ⊢
  obtain ⟨ta, tb, tz, sw⟩ := trip3 w 73 ⟨ka, xa, ya⟩ ⟨kb, xb, yb⟩ ⟨0, [], []⟩
  have TA := hid ta
  have TB := hid tb
  have TZ := hid tz
  have SW := hid sw
  clear ta tb tz sw
  have HR := hid (thenR_no (a := ⟨ka, xa, ya⟩) (b := ⟨kb, xb, yb⟩) (by simp [Mg.both, h1]))
  rw [h1] at c1
  clear h1
  go_enter Tryz.func164, Tryz.ntmps164
  go_wp2_with fail
  refine (c1 _).mono ?_
  rintro e w2 ⟨rfl, s2⟩
  obtain ⟨d0, d1, d2, f0, f1, f2⟩ := (TZ.out.step s2).all
  have T3 := hid ((TZ.out.step s2).put ⟨0, [], []⟩)
  obtain ⟨x0, x1, x2, _, _, _⟩ := T3.out.all
  have S := hid (SW.out.trans s2)
  clear s2
  go_wp2_with fail
  refine bodyPost_ret (v := .tuple #[.agg #[.int .i64 0, .string (str []), .string (str [])], .int .i64 1]) (by simp [results, Tryz.results164, go_sem, *]) rfl ⟨by rw [HR.out], ?_⟩
  exact S.out.put3 _ (by omega) _ _ _
set_option maxHeartbeats 1000000 in
theorem then_no2 (ka kb : Int) (xa ya xb yb : List UInt8) (ha : ya.length ≤ maxLen) (hb : yb.length ≤ maxLen) (w : World) (h1 : (Mg.mk ka xa ya).is = true) (h2 : (Mg.mk kb xb yb).is = false) : Calls Tryz.prog 164 #[(Mg.mk ka xa ya).value, (Mg.mk kb xb yb).value] w fun e w' => e = .returned ((Mg.mk ka xa ya).thenR ⟨kb, xb, yb⟩) ∧ Step noF w w' := by
  have h0 := nil_str
  have hE := same_str
  have c1 := isNot_any ⟨ka, xa, ya⟩ ha
  have c2 := isNot_any ⟨kb, xb, yb⟩ hb
  have e1 : (Mg.mk ka xa ya).value = .agg #[.int .i64 ka, .string (str xa), .string (str ya)] := rfl
  have e2 : (Mg.mk kb xb yb).value = .agg #[.int .i64 kb, .string (str xb), .string (str yb)] := rfl
  rw [e1] at c1 ⊢
  rw [e2] at c2 ⊢
  obtain ⟨ta, tb, tz, sw⟩ := trip3 w 73 ⟨ka, xa, ya⟩ ⟨kb, xb, yb⟩ ⟨0, [], []⟩
  have TA := hid ta
  have TB := hid tb
  have TZ := hid tz
  have SW := hid sw
  clear ta tb tz sw
  rw [h1] at c1
  have HR := hid (thenR_no (a := ⟨ka, xa, ya⟩) (b := ⟨kb, xb, yb⟩) (by simp [Mg.both, h2]))
  rw [h2] at c2
  clear h1 h2
  go_enter Tryz.func164, Tryz.ntmps164
  go_wp2_with fail
  refine (c1 _).mono ?_
  rintro e w2 ⟨rfl, s2⟩
  obtain ⟨b0, b1, b2, _, _, _⟩ := (TB.out.step s2).all
  have TZ2 := hid (TZ.out.step s2)
  have S2 := hid (SW.out.trans s2)
  clear s2
  go_wp2_with fail
  refine (c2 _).mono ?_
  rintro e w3 ⟨rfl, s3⟩
  obtain ⟨d0, d1, d2, f0, f1, f2⟩ := (TZ2.out.step s3).all
  have T3 := hid ((TZ2.out.step s3).put ⟨0, [], []⟩)
  obtain ⟨x0, x1, x2, _, _, _⟩ := T3.out.all
  have S := hid (S2.out.trans s3)
  clear s3
  go_wp2_with fail
  refine bodyPost_ret (v := .tuple #[.agg #[.int .i64 0, .string (str []), .string (str [])], .int .i64 1]) (by simp [results, Tryz.results164, go_sem, *]) rfl ⟨by rw [HR.out], ?_⟩
  exact S.out.put3 _ (by omega) _ _ _
set_option maxHeartbeats 1000000 in
theorem then_no3 (ka kb : Int) (xa ya xb yb : List UInt8) (ha : ya.length ≤ maxLen) (hb : yb.length ≤ maxLen) (w : World) (h1 : (Mg.mk ka xa ya).is = true) (h2 : (Mg.mk kb xb yb).is = true) (hk : ¬ xa = xb) : Calls Tryz.prog 164 #[(Mg.mk ka xa ya).value, (Mg.mk kb xb yb).value] w fun e w' => e = .returned ((Mg.mk ka xa ya).thenR ⟨kb, xb, yb⟩) ∧ Step noF w w' := by
  have h0 := nil_str
  have hE := same_str
  have c1 := isNot_any ⟨ka, xa, ya⟩ ha
  have c2 := isNot_any ⟨kb, xb, yb⟩ hb
  have e1 : (Mg.mk ka xa ya).value = .agg #[.int .i64 ka, .string (str xa), .string (str ya)] := rfl
  have e2 : (Mg.mk kb xb yb).value = .agg #[.int .i64 kb, .string (str xb), .string (str yb)] := rfl
  rw [e1] at c1 ⊢
  rw [e2] at c2 ⊢
  obtain ⟨ta, tb, tz, sw⟩ := trip3 w 73 ⟨ka, xa, ya⟩ ⟨kb, xb, yb⟩ ⟨0, [], []⟩
  have TA := hid ta
  have TB := hid tb
  have TZ := hid tz
  have SW := hid sw
  clear ta tb tz sw
  rw [h1] at c1
  rw [h2] at c2
  have HR := hid (thenR_no (a := ⟨ka, xa, ya⟩) (b := ⟨kb, xb, yb⟩) (by simp [Mg.both, hk]))
  clear h1 h2
  go_enter Tryz.func164, Tryz.ntmps164
  go_wp2_with fail
  refine (c1 _).mono ?_
  rintro e w2 ⟨rfl, s2⟩
  have TA2 := hid (TA.out.step s2)
  have TB2 := hid (TB.out.step s2)
  have TZ2 := hid (TZ.out.step s2)
  obtain ⟨a0, a1, a2, _, _, _⟩ := TA2.out.all
  obtain ⟨b0, b1, b2, _, _, _⟩ := TB2.out.all
  have S2 := hid (SW.out.trans s2)
  clear s2
  go_wp2_with fail
  refine (c2 _).mono ?_
  rintro e w3 ⟨rfl, s3⟩
  have TA3 := hid (TA2.out.step s3)
  have TB3 := hid (TB2.out.step s3)
  have TZ3 := hid (TZ2.out.step s3)
  clear a0 a1 a2 b0 b1 b2
  obtain ⟨a0, a1, a2, _, _, _⟩ := TA3.out.all
  obtain ⟨b0, b1, b2, _, _, _⟩ := TB3.out.all
  have S3 := hid (S2.out.trans s3)
  clear s3
  obtain ⟨d0, d1, d2, f0, f1, f2⟩ := TZ3.out.all
  have T9 := hid (TZ3.out.put ⟨0, [], []⟩)
  obtain ⟨x0, x1, x2, _, _, _⟩ := T9.out.all
  go_wp2_with fail
  refine bodyPost_ret (v := .tuple #[.agg #[.int .i64 0, .string (str []), .string (str [])], .int .i64 1]) (by simp [results, Tryz.results164, go_sem, *]) rfl ⟨by rw [HR.out], ?_⟩
  exact S3.out.put3 _ (by omega) _ _ _
set_option maxHeartbeats 1000000 in
theorem then_b (ka kb : Int) (xa ya xb yb : List UInt8) (ha : ya.length ≤ maxLen) (hb : yb.length ≤ maxLen) (w : World) (h1 : (Mg.mk ka xa ya).is = true) (h2 : (Mg.mk kb xb yb).is = true) (hk : xa = xb) (h3 : ¬ kb = 3) : Calls Tryz.prog 164 #[(Mg.mk ka xa ya).value, (Mg.mk kb xb yb).value] w fun e w' => e = .returned ((Mg.mk ka xa ya).thenR ⟨kb, xb, yb⟩) ∧ Step noF w w' := by
  have h0 := nil_str
  have hE := same_str
  have c1 := isNot_any ⟨ka, xa, ya⟩ ha
  have c2 := isNot_any ⟨kb, xb, yb⟩ hb
  have e1 : (Mg.mk ka xa ya).value = .agg #[.int .i64 ka, .string (str xa), .string (str ya)] := rfl
  have e2 : (Mg.mk kb xb yb).value = .agg #[.int .i64 kb, .string (str xb), .string (str yb)] := rfl
  rw [e1] at c1 ⊢
  rw [e2] at c2 ⊢
  obtain ⟨ta, tb, tz, sw⟩ := trip3 w 73 ⟨ka, xa, ya⟩ ⟨kb, xb, yb⟩ ⟨0, [], []⟩
  have TA := hid ta
  have TB := hid tb
  have TZ := hid tz
  have SW := hid sw
  clear ta tb tz sw
  rw [h1] at c1
  rw [h2] at c2
  have hB : (Mg.mk ka xa ya).both ⟨kb, xb, yb⟩ = true := by
    unfold Mg.both
    rw [h1, h2]
    simp [hk]
  have HR := hid (thenR_b hB h3)
  have g3 : (kb == 3) = false := by rw [beq_eq_false_iff_ne]; exact h3
  clear h1 h2 hB
  subst hk
  go_enter Tryz.func164, Tryz.ntmps164
  go_wp2_with fail
  refine (c1 _).mono ?_
  rintro e w2 ⟨rfl, s2⟩
  have TA2 := hid (TA.out.step s2)
  have TB2 := hid (TB.out.step s2)
  have TZ2 := hid (TZ.out.step s2)
  obtain ⟨a0, a1, a2, _, _, _⟩ := TA2.out.all
  obtain ⟨b0, b1, b2, _, _, _⟩ := TB2.out.all
  have S2 := hid (SW.out.trans s2)
  clear s2
  go_wp2_with fail
  refine (c2 _).mono ?_
  rintro e w3 ⟨rfl, s3⟩
  have TA3 := hid (TA2.out.step s3)
  have TB3 := hid (TB2.out.step s3)
  have TZ3 := hid (TZ2.out.step s3)
  clear a0 a1 a2 b0 b1 b2
  obtain ⟨a0, a1, a2, _, _, _⟩ := TA3.out.all
  obtain ⟨b0, b1, b2, _, _, _⟩ := TB3.out.all
  have S3 := hid (S2.out.trans s3)
  clear s3
  obtain ⟨d0, d1, d2, f0, f1, f2⟩ := TZ3.out.all
  have T9 := hid (TZ3.out.put ⟨kb, xa, yb⟩)
  obtain ⟨x0, x1, x2, _, _, _⟩ := T9.out.all
  go_wp2_with fail
  refine bodyPost_ret (v := .tuple #[.agg #[.int .i64 kb, .string (str xa), .string (str yb)], .int .i64 0]) (by simp [results, Tryz.results164, go_sem, *]) rfl ⟨by rw [HR.out], ?_⟩
  exact S3.out.put3 _ (by omega) _ _ _
set_option maxHeartbeats 1000000 in
theorem then_aa (ka kb : Int) (xa ya xb yb : List UInt8) (ha : ya.length ≤ maxLen) (hb : yb.length ≤ maxLen) (w : World) (h1 : (Mg.mk ka xa ya).is = true) (h2 : (Mg.mk kb xb yb).is = true) (hk : xa = xb) (h3 : kb = 3) (h4 : ka = 3) : Calls Tryz.prog 164 #[(Mg.mk ka xa ya).value, (Mg.mk kb xb yb).value] w fun e w' => e = .returned ((Mg.mk ka xa ya).thenR ⟨kb, xb, yb⟩) ∧ Step noF w w' := by
  have h0 := nil_str
  have hE := same_str
  have c1 := isNot_any ⟨ka, xa, ya⟩ ha
  have c2 := isNot_any ⟨kb, xb, yb⟩ hb
  have e1 : (Mg.mk ka xa ya).value = .agg #[.int .i64 ka, .string (str xa), .string (str ya)] := rfl
  have e2 : (Mg.mk kb xb yb).value = .agg #[.int .i64 kb, .string (str xb), .string (str yb)] := rfl
  rw [e1] at c1 ⊢
  rw [e2] at c2 ⊢
  obtain ⟨ta, tb, tz, sw⟩ := trip3 w 73 ⟨ka, xa, ya⟩ ⟨kb, xb, yb⟩ ⟨0, [], []⟩
  have TA := hid ta
  have TB := hid tb
  have TZ := hid tz
  have SW := hid sw
  clear ta tb tz sw
  rw [h1] at c1
  rw [h2] at c2
  have hB : (Mg.mk ka xa ya).both ⟨kb, xb, yb⟩ = true := by
    unfold Mg.both
    rw [h1, h2]
    simp [hk]
  subst h3
  have HR := hid (thenR_add hB rfl)
  have cA := apply_any ⟨3, xb, yb⟩ hb ya ha (decide (ka ≠ 2))
  have cP := ofPut_any xa (addOf ⟨ka, xa, ya⟩ ⟨3, xb, yb⟩)
  rw [appR_addOf (a := ⟨ka, xa, ya⟩) h2 rfl, e2] at cA
  obtain ⟨V, hV⟩ : ∃ V, addOf ⟨ka, xa, ya⟩ ⟨3, xb, yb⟩ = V := ⟨_, rfl⟩
  rw [hV] at cA cP HR
  unfold Mg.value at cP
  clear h1 h2 hB hV
  subst hk
  subst h4
  rw [show decide ((3 : Int) ≠ 2) = true from rfl] at cA
  go_enter Tryz.func164, Tryz.ntmps164
  go_wp2_with fail
  refine (c1 _).mono ?_
  rintro e w2 ⟨rfl, s2⟩
  have TA2 := hid (TA.out.step s2)
  have TB2 := hid (TB.out.step s2)
  have TZ2 := hid (TZ.out.step s2)
  obtain ⟨a0, a1, a2, _, _, _⟩ := TA2.out.all
  obtain ⟨b0, b1, b2, _, _, _⟩ := TB2.out.all
  have S2 := hid (SW.out.trans s2)
  clear s2
  go_wp2_with fail
  refine (c2 _).mono ?_
  rintro e w3 ⟨rfl, s3⟩
  have TA3 := hid (TA2.out.step s3)
  have TB3 := hid (TB2.out.step s3)
  have TZ3 := hid (TZ2.out.step s3)
  clear a0 a1 a2 b0 b1 b2
  obtain ⟨a0, a1, a2, _, _, _⟩ := TA3.out.all
  obtain ⟨b0, b1, b2, _, _, _⟩ := TB3.out.all
  have S3 := hid (S2.out.trans s3)
  clear s3
  go_wp2_with fail
  refine (cA _).mono ?_
  rintro e w4 ⟨rfl, s4⟩
  have TA4 := hid (TA3.out.step s4)
  have TZ4 := hid (TZ3.out.step s4)
  clear a0 a1 a2 b0 b1 b2
  obtain ⟨a0, a1, a2, _, _, _⟩ := TA4.out.all
  have S4 := hid (S3.out.trans s4)
  clear s4
  obtain ⟨d0, d1, d2, f0, f1, f2⟩ := TZ4.out.all
  have T9 := hid (TZ4.out.put ⟨3, xa, V⟩)
  obtain ⟨x0, x1, x2, _, _, _⟩ := T9.out.all
  go_wp2_with fail
  refine bodyPost_ret (v := .tuple #[.agg #[.int .i64 3, .string (str xa), .string (str V)], .int .i64 0]) (by simp [results, Tryz.results164, go_sem, *]) rfl ⟨by rw [HR.out]; rfl, ?_⟩
  exact S4.out.put3 _ (by omega) _ _ _
set_option maxHeartbeats 1000000 in
theorem then_da (ka kb : Int) (xa ya xb yb : List UInt8) (ha : ya.length ≤ maxLen) (hb : yb.length ≤ maxLen) (w : World) (h1 : (Mg.mk ka xa ya).is = true) (h2 : (Mg.mk kb xb yb).is = true) (hk : xa = xb) (h3 : kb = 3) (h4 : ¬ ka = 3) (h5 : ka = 2) : Calls Tryz.prog 164 #[(Mg.mk ka xa ya).value, (Mg.mk kb xb yb).value] w fun e w' => e = .returned ((Mg.mk ka xa ya).thenR ⟨kb, xb, yb⟩) ∧ Step noF w w' := by
  have h0 := nil_str
  have hE := same_str
  have c1 := isNot_any ⟨ka, xa, ya⟩ ha
  have c2 := isNot_any ⟨kb, xb, yb⟩ hb
  have e1 : (Mg.mk ka xa ya).value = .agg #[.int .i64 ka, .string (str xa), .string (str ya)] := rfl
  have e2 : (Mg.mk kb xb yb).value = .agg #[.int .i64 kb, .string (str xb), .string (str yb)] := rfl
  rw [e1] at c1 ⊢
  rw [e2] at c2 ⊢
  obtain ⟨ta, tb, tz, sw⟩ := trip3 w 73 ⟨ka, xa, ya⟩ ⟨kb, xb, yb⟩ ⟨0, [], []⟩
  have TA := hid ta
  have TB := hid tb
  have TZ := hid tz
  have SW := hid sw
  clear ta tb tz sw
  rw [h1] at c1
  rw [h2] at c2
  have hB : (Mg.mk ka xa ya).both ⟨kb, xb, yb⟩ = true := by
    unfold Mg.both
    rw [h1, h2]
    simp [hk]
  subst h3
  have HR := hid (thenR_add hB rfl)
  have cA := apply_any ⟨3, xb, yb⟩ hb ya ha (decide (ka ≠ 2))
  have cP := ofPut_any xa (addOf ⟨ka, xa, ya⟩ ⟨3, xb, yb⟩)
  rw [appR_addOf (a := ⟨ka, xa, ya⟩) h2 rfl, e2] at cA
  obtain ⟨V, hV⟩ : ∃ V, addOf ⟨ka, xa, ya⟩ ⟨3, xb, yb⟩ = V := ⟨_, rfl⟩
  rw [hV] at cA cP HR
  unfold Mg.value at cP
  clear h1 h2 hB hV
  subst hk
  have HR2 : Hid ((Mg.mk ka xa ya).thenR ⟨3, xa, yb⟩ = .tuple #[.agg #[.int .i64 1, .string (str xa), .string (str V)], .int .i64 0]) := by
    show _ = _
    rw [HR.out, if_neg h4]
  clear HR
  have HR := HR2
  clear HR2
  subst h5
  rw [show decide ((2 : Int) ≠ 2) = false from rfl] at cA
  go_enter Tryz.func164, Tryz.ntmps164
  go_wp2_with fail
  refine (c1 _).mono ?_
  rintro e w2 ⟨rfl, s2⟩
  have TA2 := hid (TA.out.step s2)
  have TB2 := hid (TB.out.step s2)
  have TZ2 := hid (TZ.out.step s2)
  obtain ⟨a0, a1, a2, _, _, _⟩ := TA2.out.all
  obtain ⟨b0, b1, b2, _, _, _⟩ := TB2.out.all
  have S2 := hid (SW.out.trans s2)
  clear s2
  go_wp2_with fail
  refine (c2 _).mono ?_
  rintro e w3 ⟨rfl, s3⟩
  have TA3 := hid (TA2.out.step s3)
  have TB3 := hid (TB2.out.step s3)
  have TZ3 := hid (TZ2.out.step s3)
  clear a0 a1 a2 b0 b1 b2
  obtain ⟨a0, a1, a2, _, _, _⟩ := TA3.out.all
  obtain ⟨b0, b1, b2, _, _, _⟩ := TB3.out.all
  have S3 := hid (S2.out.trans s3)
  clear s3
  go_wp2_with fail
  refine (cA _).mono ?_
  rintro e w4 ⟨rfl, s4⟩
  have TA4 := hid (TA3.out.step s4)
  have TZ4 := hid (TZ3.out.step s4)
  clear a0 a1 a2 b0 b1 b2
  obtain ⟨a0, a1, a2, _, _, _⟩ := TA4.out.all
  have S4 := hid (S3.out.trans s4)
  clear s4
  go_wp2_with fail
  refine (cP _).mono ?_
  rintro e w5 ⟨rfl, s5⟩
  have TZ5 := hid (TZ4.out.step s5)
  have S5 := hid (S4.out.trans s5)
  clear s5 a0 a1 a2
  obtain ⟨d0, d1, d2, f0, f1, f2⟩ := TZ5.out.all
  have T9 := hid (TZ5.out.put ⟨1, xa, V⟩)
  obtain ⟨x0, x1, x2, _, _, _⟩ := T9.out.all
  go_wp2_with fail
  refine bodyPost_ret (v := .tuple #[.agg #[.int .i64 1, .string (str xa), .string (str V)], .int .i64 0]) (by simp [results, Tryz.results164, go_sem, *]) rfl ⟨by rw [HR.out], ?_⟩
  exact S5.out.put3 _ (by omega) _ _ _
set_option maxHeartbeats 1000000 in
theorem then_pa (ka kb : Int) (xa ya xb yb : List UInt8) (ha : ya.length ≤ maxLen) (hb : yb.length ≤ maxLen) (w : World) (h1 : (Mg.mk ka xa ya).is = true) (h2 : (Mg.mk kb xb yb).is = true) (hk : xa = xb) (h3 : kb = 3) (h4 : ¬ ka = 3) (h5 : ¬ ka = 2) : Calls Tryz.prog 164 #[(Mg.mk ka xa ya).value, (Mg.mk kb xb yb).value] w fun e w' => e = .returned ((Mg.mk ka xa ya).thenR ⟨kb, xb, yb⟩) ∧ Step noF w w' := by
  have h0 := nil_str
  have hE := same_str
  have c1 := isNot_any ⟨ka, xa, ya⟩ ha
  have c2 := isNot_any ⟨kb, xb, yb⟩ hb
  have e1 : (Mg.mk ka xa ya).value = .agg #[.int .i64 ka, .string (str xa), .string (str ya)] := rfl
  have e2 : (Mg.mk kb xb yb).value = .agg #[.int .i64 kb, .string (str xb), .string (str yb)] := rfl
  rw [e1] at c1 ⊢
  rw [e2] at c2 ⊢
  obtain ⟨ta, tb, tz, sw⟩ := trip3 w 73 ⟨ka, xa, ya⟩ ⟨kb, xb, yb⟩ ⟨0, [], []⟩
  have TA := hid ta
  have TB := hid tb
  have TZ := hid tz
  have SW := hid sw
  clear ta tb tz sw
  rw [h1] at c1
  rw [h2] at c2
  have hB : (Mg.mk ka xa ya).both ⟨kb, xb, yb⟩ = true := by
    unfold Mg.both
    rw [h1, h2]
    simp [hk]
  subst h3
  have HR := hid (thenR_add hB rfl)
  have cA := apply_any ⟨3, xb, yb⟩ hb ya ha (decide (ka ≠ 2))
  have cP := ofPut_any xa (addOf ⟨ka, xa, ya⟩ ⟨3, xb, yb⟩)
  rw [appR_addOf (a := ⟨ka, xa, ya⟩) h2 rfl, e2] at cA
  obtain ⟨V, hV⟩ : ∃ V, addOf ⟨ka, xa, ya⟩ ⟨3, xb, yb⟩ = V := ⟨_, rfl⟩
  rw [hV] at cA cP HR
  unfold Mg.value at cP
  clear h1 h2 hB hV
  subst hk
  have HR2 : Hid ((Mg.mk ka xa ya).thenR ⟨3, xa, yb⟩ = .tuple #[.agg #[.int .i64 1, .string (str xa), .string (str V)], .int .i64 0]) := by
    show _ = _
    rw [HR.out, if_neg h4]
  clear HR
  have HR := HR2
  clear HR2
  have g5 : (ka == 2) = false := by rw [beq_eq_false_iff_ne]; exact h5
  have g4 : (ka == 3) = false := by rw [beq_eq_false_iff_ne]; exact h4
  rw [show decide (ka ≠ 2) = true by simp [h5]] at cA
  go_enter Tryz.func164, Tryz.ntmps164
  go_wp2_with fail
  refine (c1 _).mono ?_
  rintro e w2 ⟨rfl, s2⟩
  have TA2 := hid (TA.out.step s2)
  have TB2 := hid (TB.out.step s2)
  have TZ2 := hid (TZ.out.step s2)
  obtain ⟨a0, a1, a2, _, _, _⟩ := TA2.out.all
  obtain ⟨b0, b1, b2, _, _, _⟩ := TB2.out.all
  have S2 := hid (SW.out.trans s2)
  clear s2
  go_wp2_with fail
  refine (c2 _).mono ?_
  rintro e w3 ⟨rfl, s3⟩
  have TA3 := hid (TA2.out.step s3)
  have TB3 := hid (TB2.out.step s3)
  have TZ3 := hid (TZ2.out.step s3)
  clear a0 a1 a2 b0 b1 b2
  obtain ⟨a0, a1, a2, _, _, _⟩ := TA3.out.all
  obtain ⟨b0, b1, b2, _, _, _⟩ := TB3.out.all
  have S3 := hid (S2.out.trans s3)
  clear s3
  go_wp2_with fail
  rw [show (ka != 2) = true by simp [h5]]
  refine (cA _).mono ?_
  rintro e w4 ⟨rfl, s4⟩
  have TA4 := hid (TA3.out.step s4)
  have TZ4 := hid (TZ3.out.step s4)
  clear a0 a1 a2 b0 b1 b2
  obtain ⟨a0, a1, a2, _, _, _⟩ := TA4.out.all
  have S4 := hid (S3.out.trans s4)
  clear s4
  go_wp2_with fail
  refine (cP _).mono ?_
  rintro e w5 ⟨rfl, s5⟩
  have TZ5 := hid (TZ4.out.step s5)
  have S5 := hid (S4.out.trans s5)
  clear s5 a0 a1 a2
  obtain ⟨d0, d1, d2, f0, f1, f2⟩ := TZ5.out.all
  have T9 := hid (TZ5.out.put ⟨1, xa, V⟩)
  obtain ⟨x0, x1, x2, _, _, _⟩ := T9.out.all
  go_wp2_with fail
  refine bodyPost_ret (v := .tuple #[.agg #[.int .i64 1, .string (str xa), .string (str V)], .int .i64 0]) (by simp [results, Tryz.results164, go_sem, *]) rfl ⟨by rw [HR.out], ?_⟩
  exact S5.out.put3 _ (by omega) _ _ _
theorem then_any (a b : Mg) (ha : a.val.length ≤ maxLen) (hb : b.val.length ≤ maxLen) (w : World) : Calls Tryz.prog 164 #[a.value, b.value] w fun e w' => e = .returned (a.thenR b) ∧ Step noF w w' := by
  obtain ⟨ka, xa, ya⟩ := a
  obtain ⟨kb, xb, yb⟩ := b
  cases h1 : (Mg.mk ka xa ya).is
  · exact then_no1 ka kb xa ya xb yb ha hb w h1
  · cases h2 : (Mg.mk kb xb yb).is
    · exact then_no2 ka kb xa ya xb yb ha hb w h1 h2
    · by_cases hk : xa = xb
      · by_cases h3 : kb = 3
        · by_cases h4 : ka = 3
          · exact then_aa ka kb xa ya xb yb ha hb w h1 h2 hk h3 h4
          · by_cases h5 : ka = 2
            · exact then_da ka kb xa ya xb yb ha hb w h1 h2 hk h3 h4 h5
            · exact then_pa ka kb xa ya xb yb ha hb w h1 h2 hk h3 h4 h5
        · exact then_b ka kb xa ya xb yb ha hb w h1 h2 hk h3
      · exact then_no3 ka kb xa ya xb yb ha hb w h1 h2 hk
end Go.Proofs.YtoobelcphcndoaaGreat
