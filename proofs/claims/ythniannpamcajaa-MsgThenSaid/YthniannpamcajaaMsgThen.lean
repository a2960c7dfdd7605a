/-
  MsgThen. Written by genthen.py.
-/
import Derived.Test.YthniannpamcajaaMsgAwake
namespace Go.Proofs.Ythniannpamcajaa
open Go.RowKit
set_option linter.unusedVariables false
set_option linter.unusedSimpArgs false

theorem appV_max {m : Mg} (h : m.is = true) (v : List UInt8) (hv : v.length ≤ maxLen) (has : Bool) : (m.appV v has).length ≤ maxLen := by
  have h1 := Mg.val_max h
  unfold Mg.appV
  rw [if_pos h]
  split
  · simp
  · split
    · unfold moreL
      split
      · rw [sumL_length]; decide
      · exact hv
    · exact h1
theorem thenE_zero {a b : Mg} (h : a.both b = true) : a.thenE b = 0 := by simp [Mg.thenE, h]

set_option maxHeartbeats 8000000 in
set_option maxRecDepth 100000 in
theorem then_out1 (ka kb kc : Int) (xa ya xb yb xc yc : List UInt8) (la : ya.length ≤ maxLen) (lb : yb.length ≤ maxLen) (lc : yc.length ≤ maxLen) (v : List UInt8) (lv : v.length ≤ maxLen) (has : Bool) (w : World) (h1 : (Mg.mk ka xa ya).is = false) :
    Calls Try.prog 6 #[(Mg.mk ka xa ya).value, (Mg.mk kb xb yb).value, (Mg.mk kc xc yc).value, .string (str v), .bool has] w fun e w' => e = .returned (.bool true) ∧ Step noF w w' := by
  have hE := same_str
  have e1 : ∀ (k : Int) (x y : List UInt8), (Mg.mk k x y).value = .agg #[.int .i64 k, .string (str x), .string (str y)] := fun _ _ _ => rfl
  have c1 := mis_any ⟨ka, xa, ya⟩ la
  have c2 := mis_any ⟨kb, xa, yb⟩ lb
  have c3 := mis_any ⟨kc, xa, yc⟩ lc
  rw [e1] at c1 c2 c3
  rw [e1, e1, e1]
  obtain ⟨ta, tb, tc, sw⟩ := trip3 w 23 ⟨ka, xa, ya⟩ ⟨kb, xb, yb⟩ ⟨kc, xc, yc⟩
  have TA := hid ta
  have TB := hid tb
  have TC := hid tc
  have SW := hid sw
  clear ta tb tc sw
  rw [h1] at c1
  clear h1
  go_enter Try.func6, Try.ntmps6
  go_wp2_with fail
  refine (awake_any _).mono ?_
  rintro e w1 ⟨rfl, s1⟩
  have TA1 := hid (TA.out.step s1)
  have TB1 := hid (TB.out.step s1)
  have TC1 := hid (TC.out.step s1)
  have S1 := hid (SW.out.trans s1)
  obtain ⟨a0, a1, a2, _, _, _⟩ := TA1.out.all
  obtain ⟨b0, b1, b2, _, fb, _⟩ := TB1.out.all
  obtain ⟨d0, d1, d2, _, fd, _⟩ := TC1.out.all
  clear s1 TA TB TC SW
  go_wp2_with fail
  obtain ⟨u, hu⟩ : ∃ u, (w1.setCell ⟨w.heap.size + 1, 1, none⟩ (.string (str xa))).setCell ⟨w.heap.size + 1 + 1, 1, none⟩ (.string (str xa)) = u := ⟨_, rfl⟩
  rw [hu]
  have TA2 : Hid (TripAt u w.heap.size 23 ⟨ka, xa, ya⟩) := by
    show TripAt _ _ _ _
    rw [← hu]
    exact (TA1.out.other1 (by omega) _ _).other1 (by omega) _ _
  have TB2 : Hid (TripAt u (w.heap.size + 1) 23 ⟨kb, xa, yb⟩) := by
    show TripAt _ _ _ _
    rw [← hu]
    exact (TB1.out.key1 xa).other1 (by omega) _ _
  have TC2 : Hid (TripAt u (w.heap.size + 1 + 1) 23 ⟨kc, xa, yc⟩) := by
    show TripAt _ _ _ _
    rw [← hu]
    exact (TC1.out.other1 (by omega) _ _).key1 xa
  have S2 : Hid (Step noF w u) := by
    show Step _ _ _
    rw [← hu]
    exact (S1.out.setCell (p := ⟨w.heap.size + 1, 1, none⟩) (.inr (by show _ ≤ w.heap.size + 1; omega)) _).setCell (p := ⟨w.heap.size + 1 + 1, 1, none⟩) (.inr (by show _ ≤ w.heap.size + 1 + 1; omega)) _
  clear hu a0 a1 a2 b0 b1 b2 d0 d1 d2 fb fd TA1 TB1 TC1 S1
  refine (c1 _).mono ?_
  rintro e w3 ⟨rfl, s3⟩
  have TA3 := hid (TA2.out.step s3)
  have TB3 := hid (TB2.out.step s3)
  have TC3 := hid (TC2.out.step s3)
  have S3 := hid (S2.out.trans s3)
  obtain ⟨b0, b1, b2, _, _, _⟩ := TB3.out.all
  clear s3 TA2 TB2 TC2 S2
  go_wp2_with fail
  go_ret
  exact ⟨rfl, S3.out⟩
set_option maxHeartbeats 8000000 in
set_option maxRecDepth 100000 in
theorem then_out2 (ka kb kc : Int) (xa ya xb yb xc yc : List UInt8) (la : ya.length ≤ maxLen) (lb : yb.length ≤ maxLen) (lc : yc.length ≤ maxLen) (v : List UInt8) (lv : v.length ≤ maxLen) (has : Bool) (w : World) (h1 : (Mg.mk ka xa ya).is = true) (h2 : (Mg.mk kb xa yb).is = false) :
    Calls Try.prog 6 #[(Mg.mk ka xa ya).value, (Mg.mk kb xb yb).value, (Mg.mk kc xc yc).value, .string (str v), .bool has] w fun e w' => e = .returned (.bool true) ∧ Step noF w w' := by
  have hE := same_str
  have e1 : ∀ (k : Int) (x y : List UInt8), (Mg.mk k x y).value = .agg #[.int .i64 k, .string (str x), .string (str y)] := fun _ _ _ => rfl
  have c1 := mis_any ⟨ka, xa, ya⟩ la
  have c2 := mis_any ⟨kb, xa, yb⟩ lb
  have c3 := mis_any ⟨kc, xa, yc⟩ lc
  rw [e1] at c1 c2 c3
  rw [e1, e1, e1]
  obtain ⟨ta, tb, tc, sw⟩ := trip3 w 23 ⟨ka, xa, ya⟩ ⟨kb, xb, yb⟩ ⟨kc, xc, yc⟩
  have TA := hid ta
  have TB := hid tb
  have TC := hid tc
  have SW := hid sw
  clear ta tb tc sw
  rw [h1] at c1
  rw [h2] at c2
  clear h1 h2
  go_enter Try.func6, Try.ntmps6
  go_wp2_with fail
  refine (awake_any _).mono ?_
  rintro e w1 ⟨rfl, s1⟩
  have TA1 := hid (TA.out.step s1)
  have TB1 := hid (TB.out.step s1)
  have TC1 := hid (TC.out.step s1)
  have S1 := hid (SW.out.trans s1)
  obtain ⟨a0, a1, a2, _, _, _⟩ := TA1.out.all
  obtain ⟨b0, b1, b2, _, fb, _⟩ := TB1.out.all
  obtain ⟨d0, d1, d2, _, fd, _⟩ := TC1.out.all
  clear s1 TA TB TC SW
  go_wp2_with fail
  obtain ⟨u, hu⟩ : ∃ u, (w1.setCell ⟨w.heap.size + 1, 1, none⟩ (.string (str xa))).setCell ⟨w.heap.size + 1 + 1, 1, none⟩ (.string (str xa)) = u := ⟨_, rfl⟩
  rw [hu]
  have TA2 : Hid (TripAt u w.heap.size 23 ⟨ka, xa, ya⟩) := by
    show TripAt _ _ _ _
    rw [← hu]
    exact (TA1.out.other1 (by omega) _ _).other1 (by omega) _ _
  have TB2 : Hid (TripAt u (w.heap.size + 1) 23 ⟨kb, xa, yb⟩) := by
    show TripAt _ _ _ _
    rw [← hu]
    exact (TB1.out.key1 xa).other1 (by omega) _ _
  have TC2 : Hid (TripAt u (w.heap.size + 1 + 1) 23 ⟨kc, xa, yc⟩) := by
    show TripAt _ _ _ _
    rw [← hu]
    exact (TC1.out.other1 (by omega) _ _).key1 xa
  have S2 : Hid (Step noF w u) := by
    show Step _ _ _
    rw [← hu]
    exact (S1.out.setCell (p := ⟨w.heap.size + 1, 1, none⟩) (.inr (by show _ ≤ w.heap.size + 1; omega)) _).setCell (p := ⟨w.heap.size + 1 + 1, 1, none⟩) (.inr (by show _ ≤ w.heap.size + 1 + 1; omega)) _
  clear hu a0 a1 a2 b0 b1 b2 d0 d1 d2 fb fd TA1 TB1 TC1 S1
  refine (c1 _).mono ?_
  rintro e w3 ⟨rfl, s3⟩
  have TA3 := hid (TA2.out.step s3)
  have TB3 := hid (TB2.out.step s3)
  have TC3 := hid (TC2.out.step s3)
  have S3 := hid (S2.out.trans s3)
  obtain ⟨b0, b1, b2, _, _, _⟩ := TB3.out.all
  clear s3 TA2 TB2 TC2 S2
  go_wp2_with fail
  refine (c2 _).mono ?_
  rintro e w4 ⟨rfl, s4⟩
  have TA4 := hid (TA3.out.step s4)
  have TB4 := hid (TB3.out.step s4)
  have TC4 := hid (TC3.out.step s4)
  have S4 := hid (S3.out.trans s4)
  clear b0 b1 b2
  obtain ⟨d0, d1, d2, _, _, _⟩ := TC4.out.all
  clear s4 TA3 TB3 TC3 S3
  go_wp2_with fail
  go_ret
  exact ⟨rfl, S4.out⟩
set_option maxHeartbeats 8000000 in
set_option maxRecDepth 100000 in
theorem then_out3 (ka kb kc : Int) (xa ya xb yb xc yc : List UInt8) (la : ya.length ≤ maxLen) (lb : yb.length ≤ maxLen) (lc : yc.length ≤ maxLen) (v : List UInt8) (lv : v.length ≤ maxLen) (has : Bool) (w : World) (h1 : (Mg.mk ka xa ya).is = true) (h2 : (Mg.mk kb xa yb).is = true) (h3 : (Mg.mk kc xa yc).is = false) :
    Calls Try.prog 6 #[(Mg.mk ka xa ya).value, (Mg.mk kb xb yb).value, (Mg.mk kc xc yc).value, .string (str v), .bool has] w fun e w' => e = .returned (.bool true) ∧ Step noF w w' := by
  have hE := same_str
  have e1 : ∀ (k : Int) (x y : List UInt8), (Mg.mk k x y).value = .agg #[.int .i64 k, .string (str x), .string (str y)] := fun _ _ _ => rfl
  have c1 := mis_any ⟨ka, xa, ya⟩ la
  have c2 := mis_any ⟨kb, xa, yb⟩ lb
  have c3 := mis_any ⟨kc, xa, yc⟩ lc
  rw [e1] at c1 c2 c3
  rw [e1, e1, e1]
  obtain ⟨ta, tb, tc, sw⟩ := trip3 w 23 ⟨ka, xa, ya⟩ ⟨kb, xb, yb⟩ ⟨kc, xc, yc⟩
  have TA := hid ta
  have TB := hid tb
  have TC := hid tc
  have SW := hid sw
  clear ta tb tc sw
  rw [h1] at c1
  rw [h2] at c2
  rw [h3] at c3
  clear h1 h2 h3
  go_enter Try.func6, Try.ntmps6
  go_wp2_with fail
  refine (awake_any _).mono ?_
  rintro e w1 ⟨rfl, s1⟩
  have TA1 := hid (TA.out.step s1)
  have TB1 := hid (TB.out.step s1)
  have TC1 := hid (TC.out.step s1)
  have S1 := hid (SW.out.trans s1)
  obtain ⟨a0, a1, a2, _, _, _⟩ := TA1.out.all
  obtain ⟨b0, b1, b2, _, fb, _⟩ := TB1.out.all
  obtain ⟨d0, d1, d2, _, fd, _⟩ := TC1.out.all
  clear s1 TA TB TC SW
  go_wp2_with fail
  obtain ⟨u, hu⟩ : ∃ u, (w1.setCell ⟨w.heap.size + 1, 1, none⟩ (.string (str xa))).setCell ⟨w.heap.size + 1 + 1, 1, none⟩ (.string (str xa)) = u := ⟨_, rfl⟩
  rw [hu]
  have TA2 : Hid (TripAt u w.heap.size 23 ⟨ka, xa, ya⟩) := by
    show TripAt _ _ _ _
    rw [← hu]
    exact (TA1.out.other1 (by omega) _ _).other1 (by omega) _ _
  have TB2 : Hid (TripAt u (w.heap.size + 1) 23 ⟨kb, xa, yb⟩) := by
    show TripAt _ _ _ _
    rw [← hu]
    exact (TB1.out.key1 xa).other1 (by omega) _ _
  have TC2 : Hid (TripAt u (w.heap.size + 1 + 1) 23 ⟨kc, xa, yc⟩) := by
    show TripAt _ _ _ _
    rw [← hu]
    exact (TC1.out.other1 (by omega) _ _).key1 xa
  have S2 : Hid (Step noF w u) := by
    show Step _ _ _
    rw [← hu]
    exact (S1.out.setCell (p := ⟨w.heap.size + 1, 1, none⟩) (.inr (by show _ ≤ w.heap.size + 1; omega)) _).setCell (p := ⟨w.heap.size + 1 + 1, 1, none⟩) (.inr (by show _ ≤ w.heap.size + 1 + 1; omega)) _
  clear hu a0 a1 a2 b0 b1 b2 d0 d1 d2 fb fd TA1 TB1 TC1 S1
  refine (c1 _).mono ?_
  rintro e w3 ⟨rfl, s3⟩
  have TA3 := hid (TA2.out.step s3)
  have TB3 := hid (TB2.out.step s3)
  have TC3 := hid (TC2.out.step s3)
  have S3 := hid (S2.out.trans s3)
  obtain ⟨b0, b1, b2, _, _, _⟩ := TB3.out.all
  clear s3 TA2 TB2 TC2 S2
  go_wp2_with fail
  refine (c2 _).mono ?_
  rintro e w4 ⟨rfl, s4⟩
  have TA4 := hid (TA3.out.step s4)
  have TB4 := hid (TB3.out.step s4)
  have TC4 := hid (TC3.out.step s4)
  have S4 := hid (S3.out.trans s4)
  clear b0 b1 b2
  obtain ⟨d0, d1, d2, _, _, _⟩ := TC4.out.all
  clear s4 TA3 TB3 TC3 S3
  go_wp2_with fail
  refine (c3 _).mono ?_
  rintro e w5 ⟨rfl, s5⟩
  have TA5 := hid (TA4.out.step s5)
  have TB5 := hid (TB4.out.step s5)
  have TC5 := hid (TC4.out.step s5)
  have S5 := hid (S4.out.trans s5)
  clear d0 d1 d2
  clear s5 TA4 TB4 TC4 S4
  go_wp2_with fail
  go_ret
  exact ⟨rfl, S5.out⟩
set_option maxHeartbeats 8000000 in
set_option maxRecDepth 100000 in
theorem then_in (ka kb kc : Int) (xa ya xb yb xc yc : List UInt8) (la : ya.length ≤ maxLen) (lb : yb.length ≤ maxLen) (lc : yc.length ≤ maxLen) (v : List UInt8) (lv : v.length ≤ maxLen) (has : Bool) (w : World) (h1 : (Mg.mk ka xa ya).is = true) (h2 : (Mg.mk kb xa yb).is = true) (h3 : (Mg.mk kc xa yc).is = true) :
    Calls Try.prog 6 #[(Mg.mk ka xa ya).value, (Mg.mk kb xb yb).value, (Mg.mk kc xc yc).value, .string (str v), .bool has] w fun e w' => e = .returned (.bool true) ∧ Step noF w w' := by
  have hE := same_str
  have e1 : ∀ (k : Int) (x y : List UInt8), (Mg.mk k x y).value = .agg #[.int .i64 k, .string (str x), .string (str y)] := fun _ _ _ => rfl
  have c1 := mis_any ⟨ka, xa, ya⟩ la
  have c2 := mis_any ⟨kb, xa, yb⟩ lb
  have c3 := mis_any ⟨kc, xa, yc⟩ lc
  rw [e1] at c1 c2 c3
  rw [e1, e1, e1]
  obtain ⟨ta, tb, tc, sw⟩ := trip3 w 23 ⟨ka, xa, ya⟩ ⟨kb, xb, yb⟩ ⟨kc, xc, yc⟩
  have TA := hid ta
  have TB := hid tb
  have TC := hid tc
  have SW := hid sw
  clear ta tb tc sw
  obtain ⟨g1, g2⟩ := then_good h1 h2 rfl
  obtain ⟨g3, g4⟩ := then_good h2 h3 rfl
  have cT1 := then_any ⟨ka, xa, ya⟩ ⟨kb, xa, yb⟩ la lb
  have cT2 := then_any ⟨kb, xa, yb⟩ ⟨kc, xa, yc⟩ lb lc
  have cI := mis_any _ (Mg.val_max g1)
  have cA1 := apply_any ⟨ka, xa, ya⟩ la v lv has
  have cA2 := apply_any ⟨kb, xa, yb⟩ lb _ (appV_max h1 v lv has) ((Mg.mk ka xa ya).appH has)
  have cA3 := apply_any _ (Mg.val_max g1) v lv has
  have cT3 := then_any _ ⟨kc, xa, yc⟩ (Mg.val_max g1) lc
  have cT4 := then_any ⟨ka, xa, ya⟩ _ la (Mg.val_max g3)
  obtain ⟨q1, q2⟩ := app_then h1 h2 rfl v has
  have q3 := then_assoc h1 h2 h3 rfl rfl
  have b1 := both_of h1 h2 rfl
  have b2 := both_of h2 h3 rfl
  have b3 := both_of g1 h3 g2.symm
  have b4 := both_of h1 g3 g4
  unfold Mg.thenR at cT1 cT2 cT3 cT4
  unfold Mg.appR at cA1 cA2 cA3
  rw [thenE_zero b1] at cT1
  rw [thenE_zero b2] at cT2
  rw [thenE_zero b3] at cT3
  rw [thenE_zero b4, ← q3] at cT4
  rw [← q1, ← q2] at cA3
  rw [g1] at cI
  obtain ⟨p, hp⟩ : ∃ p, ((Mg.mk ka xa ya).then ⟨kb, xa, yb⟩).then ⟨kc, xa, yc⟩ = p := ⟨_, rfl⟩
  rw [hp] at cT3 cT4
  obtain ⟨x, hx⟩ : ∃ x, (Mg.mk ka xa ya).then ⟨kb, xa, yb⟩ = x := ⟨_, rfl⟩
  obtain ⟨y, hy⟩ : ∃ y, (Mg.mk kb xa yb).then ⟨kc, xa, yc⟩ = y := ⟨_, rfl⟩
  rw [hx] at cT1 cI cA3 cT3 g2
  rw [hy] at cT2 cT4 g4
  obtain ⟨V2, hV2⟩ : ∃ V2, (Mg.mk kb xa yb).appV ((Mg.mk ka xa ya).appV v has) ((Mg.mk ka xa ya).appH has) = V2 := ⟨_, rfl⟩
  obtain ⟨H2, hH2⟩ : ∃ H2, (Mg.mk kb xa yb).appH ((Mg.mk ka xa ya).appH has) = H2 := ⟨_, rfl⟩
  rw [hV2, hH2] at cA2 cA3
  obtain ⟨V1, hV1⟩ : ∃ V1, (Mg.mk ka xa ya).appV v has = V1 := ⟨_, rfl⟩
  obtain ⟨H1, hH1⟩ : ∃ H1, (Mg.mk ka xa ya).appH has = H1 := ⟨_, rfl⟩
  rw [hV1, hH1] at cA1 cA2
  obtain ⟨kx, xx, yx⟩ := x
  obtain ⟨ky, xy, yy⟩ := y
  obtain ⟨kp, xp, yp⟩ := p
  have g2' : xx = xa := g2
  have g4' : xy = xa := g4
  subst xx
  subst xy
  rw [e1] at cI cA1 cA2 cA3
  rw [e1, e1, e1] at cT1 cT2 cT3 cT4
  rw [h1] at c1
  rw [h2] at c2
  rw [h3] at c3
  clear g1 g2 g3 g4 q1 q2 q3 b1 b2 b3 b4 hp hx hy hV2 hH2 hV1 hH1 h1 h2 h3 e1
  go_enter Try.func6, Try.ntmps6
  go_wp2_with fail
  refine (awake_any _).mono ?_
  rintro e w1 ⟨rfl, s1⟩
  have TA1 := hid (TA.out.step s1)
  have TB1 := hid (TB.out.step s1)
  have TC1 := hid (TC.out.step s1)
  have S1 := hid (SW.out.trans s1)
  obtain ⟨a0, a1, a2, _, _, _⟩ := TA1.out.all
  obtain ⟨b0, b1, b2, _, fb, _⟩ := TB1.out.all
  obtain ⟨d0, d1, d2, _, fd, _⟩ := TC1.out.all
  clear s1 TA TB TC SW
  go_wp2_with fail
  obtain ⟨u, hu⟩ : ∃ u, (w1.setCell ⟨w.heap.size + 1, 1, none⟩ (.string (str xa))).setCell ⟨w.heap.size + 1 + 1, 1, none⟩ (.string (str xa)) = u := ⟨_, rfl⟩
  rw [hu]
  have TA2 : Hid (TripAt u w.heap.size 23 ⟨ka, xa, ya⟩) := by
    show TripAt _ _ _ _
    rw [← hu]
    exact (TA1.out.other1 (by omega) _ _).other1 (by omega) _ _
  have TB2 : Hid (TripAt u (w.heap.size + 1) 23 ⟨kb, xa, yb⟩) := by
    show TripAt _ _ _ _
    rw [← hu]
    exact (TB1.out.key1 xa).other1 (by omega) _ _
  have TC2 : Hid (TripAt u (w.heap.size + 1 + 1) 23 ⟨kc, xa, yc⟩) := by
    show TripAt _ _ _ _
    rw [← hu]
    exact (TC1.out.other1 (by omega) _ _).key1 xa
  have S2 : Hid (Step noF w u) := by
    show Step _ _ _
    rw [← hu]
    exact (S1.out.setCell (p := ⟨w.heap.size + 1, 1, none⟩) (.inr (by show _ ≤ w.heap.size + 1; omega)) _).setCell (p := ⟨w.heap.size + 1 + 1, 1, none⟩) (.inr (by show _ ≤ w.heap.size + 1 + 1; omega)) _
  clear hu a0 a1 a2 b0 b1 b2 d0 d1 d2 fb fd TA1 TB1 TC1 S1
  refine (c1 _).mono ?_
  rintro e w3 ⟨rfl, s3⟩
  have TA3 := hid (TA2.out.step s3)
  have TB3 := hid (TB2.out.step s3)
  have TC3 := hid (TC2.out.step s3)
  have S3 := hid (S2.out.trans s3)
  obtain ⟨b0, b1, b2, _, _, _⟩ := TB3.out.all
  clear s3 TA2 TB2 TC2 S2
  go_wp2_with fail
  refine (c2 _).mono ?_
  rintro e w4 ⟨rfl, s4⟩
  have TA4 := hid (TA3.out.step s4)
  have TB4 := hid (TB3.out.step s4)
  have TC4 := hid (TC3.out.step s4)
  have S4 := hid (S3.out.trans s4)
  clear b0 b1 b2
  obtain ⟨d0, d1, d2, _, _, _⟩ := TC4.out.all
  clear s4 TA3 TB3 TC3 S3
  go_wp2_with fail
  refine (c3 _).mono ?_
  rintro e w5 ⟨rfl, s5⟩
  have TA5 := hid (TA4.out.step s5)
  have TB5 := hid (TB4.out.step s5)
  have TC5 := hid (TC4.out.step s5)
  have S5 := hid (S4.out.trans s5)
  clear d0 d1 d2
  clear s5 TA4 TB4 TC4 S4
  obtain ⟨a0, a1, a2, _, _, _⟩ := TA5.out.all
  obtain ⟨b0, b1, b2, _, _, _⟩ := TB5.out.all
  go_wp2_with fail
  refine (cT1 _).mono ?_
  rintro e w6 ⟨rfl, s6⟩
  have TA6 := hid ((TA5.out.step s6).alloc (.cells #[.int .i64 kx, .string (str xa), .string (str yx)] 23))
  have TB6 := hid ((TB5.out.step s6).alloc (.cells #[.int .i64 kx, .string (str xa), .string (str yx)] 23))
  have TC6 := hid ((TC5.out.step s6).alloc (.cells #[.int .i64 kx, .string (str xa), .string (str yx)] 23))
  have TX6 := hid (trip_new w6 23 ⟨kx, xa, yx⟩)
  have S6 := hid ((S5.out.trans s6).alloc (.cells #[.int .i64 kx, .string (str xa), .string (str yx)] 23))
  clear a0 a1 a2
  clear b0 b1 b2
  clear s6 S5
  obtain ⟨b0, b1, b2, _, _, _⟩ := TB6.out.all
  obtain ⟨c0, c1, c2, _, _, _⟩ := TC6.out.all
  go_wp2_with fail
  refine (cT2 _).mono ?_
  rintro e w7 ⟨rfl, s7⟩
  have TA7 := hid ((TA6.out.step s7).alloc (.cells #[.int .i64 ky, .string (str xa), .string (str yy)] 23))
  have TB7 := hid ((TB6.out.step s7).alloc (.cells #[.int .i64 ky, .string (str xa), .string (str yy)] 23))
  have TC7 := hid ((TC6.out.step s7).alloc (.cells #[.int .i64 ky, .string (str xa), .string (str yy)] 23))
  have TX7 := hid ((TX6.out.step s7).alloc (.cells #[.int .i64 ky, .string (str xa), .string (str yy)] 23))
  have TY7 := hid (trip_new w7 23 ⟨ky, xa, yy⟩)
  have S7 := hid ((S6.out.trans s7).alloc (.cells #[.int .i64 ky, .string (str xa), .string (str yy)] 23))
  clear b0 b1 b2
  clear c0 c1 c2
  clear s7 S6
  obtain ⟨x0, x1, x2, _, _, _⟩ := TX7.out.all
  obtain ⟨a0, a1, a2, _, _, _⟩ := TA7.out.all
  go_wp2_with fail
  refine (cI _).mono ?_
  rintro e w8 ⟨rfl, s8⟩
  have TA8 := hid (TA7.out.step s8)
  have TB8 := hid (TB7.out.step s8)
  have TC8 := hid (TC7.out.step s8)
  have TX8 := hid (TX7.out.step s8)
  have TY8 := hid (TY7.out.step s8)
  have S8 := hid (S7.out.trans s8)
  clear x0 x1 x2
  clear a0 a1 a2
  clear s8 S7
  obtain ⟨x0, x1, x2, _, _, _⟩ := TX8.out.all
  obtain ⟨a0, a1, a2, _, _, _⟩ := TA8.out.all
  go_wp2_with fail
  refine (cA1 _).mono ?_
  rintro e w9 ⟨rfl, s9⟩
  have TA9 := hid (TA8.out.step s9)
  have TB9 := hid (TB8.out.step s9)
  have TC9 := hid (TC8.out.step s9)
  have TX9 := hid (TX8.out.step s9)
  have TY9 := hid (TY8.out.step s9)
  have S9 := hid (S8.out.trans s9)
  clear x0 x1 x2
  clear a0 a1 a2
  clear s9 S8
  obtain ⟨b0, b1, b2, _, _, _⟩ := TB9.out.all
  go_wp2_with fail
  refine (cA2 _).mono ?_
  rintro e w10 ⟨rfl, s10⟩
  have TA10 := hid (TA9.out.step s10)
  have TC10 := hid (TC9.out.step s10)
  have TX10 := hid (TX9.out.step s10)
  have TY10 := hid (TY9.out.step s10)
  have S10 := hid (S9.out.trans s10)
  clear b0 b1 b2
  clear s10 S9
  obtain ⟨x0, x1, x2, _, _, _⟩ := TX10.out.all
  go_wp2_with fail
  refine (cA3 _).mono ?_
  rintro e w11 ⟨rfl, s11⟩
  have TA11 := hid (TA10.out.step s11)
  have TC11 := hid (TC10.out.step s11)
  have TX11 := hid (TX10.out.step s11)
  have TY11 := hid (TY10.out.step s11)
  have S11 := hid (S10.out.trans s11)
  clear x0 x1 x2
  clear s11 S10
  obtain ⟨x0, x1, x2, _, _, _⟩ := TX11.out.all
  obtain ⟨c0, c1, c2, _, _, _⟩ := TC11.out.all
  go_wp2_with fail
  refine (cT3 _).mono ?_
  rintro e w12 ⟨rfl, s12⟩
  have TA12 := hid ((TA11.out.step s12).alloc (.cells #[.int .i64 kp, .string (str xp), .string (str yp)] 23))
  have TY12 := hid ((TY11.out.step s12).alloc (.cells #[.int .i64 kp, .string (str xp), .string (str yp)] 23))
  have TP12 := hid (trip_new w12 23 ⟨kp, xp, yp⟩)
  have S12 := hid ((S11.out.trans s12).alloc (.cells #[.int .i64 kp, .string (str xp), .string (str yp)] 23))
  clear x0 x1 x2
  clear c0 c1 c2
  clear s12 S11
  obtain ⟨a0, a1, a2, _, _, _⟩ := TA12.out.all
  obtain ⟨y0, y1, y2, _, _, _⟩ := TY12.out.all
  go_wp2_with fail
  refine (cT4 _).mono ?_
  rintro e w13 ⟨rfl, s13⟩
  have TP13 := hid ((TP12.out.step s13).alloc (.cells #[.int .i64 kp, .string (str xp), .string (str yp)] 23))
  have TQ13 := hid (trip_new w13 23 ⟨kp, xp, yp⟩)
  have S13 := hid ((S12.out.trans s13).alloc (.cells #[.int .i64 kp, .string (str xp), .string (str yp)] 23))
  clear a0 a1 a2
  clear y0 y1 y2
  clear s13 S12
  obtain ⟨p0, p1, p2, _, _, _⟩ := TP13.out.all
  obtain ⟨q0, q1, q2, _, _, _⟩ := TQ13.out.all
  go_wp2_with fail
  go_ret
  exact ⟨rfl, S13.out⟩
theorem then_walk (a b c : Mg) (la : a.val.length ≤ maxLen) (lb : b.val.length ≤ maxLen) (lc : c.val.length ≤ maxLen) (v : List UInt8) (lv : v.length ≤ maxLen) (has : Bool) (w : World) :
    Calls Try.prog 6 #[a.value, b.value, c.value, .string (str v), .bool has] w fun e w' => e = .returned (.bool true) ∧ Step noF w w' := by
  obtain ⟨ka, xa, ya⟩ := a
  obtain ⟨kb, xb, yb⟩ := b
  obtain ⟨kc, xc, yc⟩ := c
  cases h1 : (Mg.mk ka xa ya).is
  · exact then_out1 ka kb kc xa ya xb yb xc yc la lb lc v lv has w h1
  · cases h2 : (Mg.mk kb xa yb).is
    · exact then_out2 ka kb kc xa ya xb yb xc yc la lb lc v lv has w h1 h2
    · cases h3 : (Mg.mk kc xa yc).is
      · exact then_out3 ka kb kc xa ya xb yb xc yc la lb lc v lv has w h1 h2 h3
      · exact then_in ka kb kc xa ya xb yb xc yc la lb lc v lv has w h1 h2 h3
end Go.Proofs.Ythniannpamcajaa
