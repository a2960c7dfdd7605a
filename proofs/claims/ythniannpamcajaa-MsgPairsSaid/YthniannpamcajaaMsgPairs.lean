/-
  MsgPairs.
-/
import Derived.Test.YthniannpamcajaaMsgExact
import Derived.Test.YthniannpamcajaaMsgD
namespace Go.Proofs.Ythniannpamcajaa
open Go.RowKit
set_option linter.unusedVariables false
set_option linter.unusedSimpArgs false

set_option maxHeartbeats 4000000 in
set_option maxRecDepth 100000 in
theorem pairs_walk (a b : Mg) (w : World) :
    Calls Try.prog 4 #[a.value, b.value] w fun e w' => e = .returned (.bool true) ∧ Step noF w w' := by
  have hE := same_str
  obtain ⟨ka, xa, ya⟩ := a
  obtain ⟨kb, xb, yb⟩ := b
  have c1 := long_any ⟨ka, xa, ya⟩
  have c2 := long_any ⟨kb, xb, yb⟩
  have e1 : (Mg.mk ka xa ya).value = .agg #[.int .i64 ka, .string (str xa), .string (str ya)] := rfl
  have e2 : (Mg.mk kb xb yb).value = .agg #[.int .i64 kb, .string (str xb), .string (str yb)] := rfl
  rw [e1] at c1 ⊢
  rw [e2] at c2 ⊢
  obtain ⟨ta, tb, sw⟩ := trip2 w 23 ⟨ka, xa, ya⟩ ⟨kb, xb, yb⟩
  have TA := hid ta
  have TB := hid tb
  have SW := hid sw
  clear ta tb sw
  cases h1 : (Mg.mk ka xa ya).long
  · rw [h1] at c1
    cases h2 : (Mg.mk kb xb yb).long
    · rw [h2] at c2
      have l1 : ya.length ≤ maxLen := by simp [Mg.long] at h1; unfold maxLen; omega
      have l2 : yb.length ≤ maxLen := by simp [Mg.long] at h2; unfold maxLen; omega
      have cT := then_any ⟨ka, xa, ya⟩ ⟨kb, xb, yb⟩ l1 l2
      have cR := refThen_any ⟨ka, xa, ya⟩ ⟨kb, xb, yb⟩
      unfold Mg.thenR at cT
      unfold Mg.thenQ at cR
      have hte : (Mg.mk ka xa ya).thenE ⟨kb, xb, yb⟩ = if (Mg.mk ka xa ya).both ⟨kb, xb, yb⟩ then 0 else 1 := rfl
      rw [e1, e2] at cT cR
      rw [hte] at cT
      obtain ⟨⟨km, xm, ym⟩, hm⟩ : ∃ m, (Mg.mk ka xa ya).then ⟨kb, xb, yb⟩ = m := ⟨_, rfl⟩
      have e3 : (Mg.mk km xm ym).value = .agg #[.int .i64 km, .string (str xm), .string (str ym)] := rfl
      rw [hm, e3] at cT cR
      clear hm h1 h2 hte l1 l2
      cases hb : (Mg.mk ka xa ya).both ⟨kb, xb, yb⟩
      all_goals
        rw [hb] at cT cR
        clear hb
        first | rw [if_pos rfl] at cT | rw [if_neg Bool.false_ne_true] at cT
        go_enter Try.func4, Try.ntmps4
        go_wp2_with fail
        refine (awake_any _).mono ?_
        rintro e w1 ⟨rfl, s1⟩
        have TA1 := hid (TA.out.step s1)
        have TB1 := hid (TB.out.step s1)
        have S1 := hid (SW.out.trans s1)
        obtain ⟨a0, a1, a2, _, _, _⟩ := TA1.out.all
        clear s1
        go_wp2_with fail
        refine (c1 _).mono ?_
        rintro e w2 ⟨rfl, s2⟩
        have TA2 := hid (TA1.out.step s2)
        have TB2 := hid (TB1.out.step s2)
        have S2 := hid (S1.out.trans s2)
        clear s2 a0 a1 a2
        obtain ⟨b0, b1, b2, _, _, _⟩ := TB2.out.all
        go_wp2_with fail
        refine (c2 _).mono ?_
        rintro e w3 ⟨rfl, s3⟩
        have TA3 := hid (TA2.out.step s3)
        have TB3 := hid (TB2.out.step s3)
        have S3 := hid (S2.out.trans s3)
        clear s3 b0 b1 b2
        obtain ⟨a0, a1, a2, _, _, _⟩ := TA3.out.all
        obtain ⟨b0, b1, b2, _, _, _⟩ := TB3.out.all
        go_wp2_with fail
        refine (cT _).mono ?_
        rintro e w4 ⟨rfl, s4⟩
        have TM4 := hid (trip_new w4 23 ⟨km, xm, ym⟩)
        have TA4 := hid ((TA3.out.step s4).alloc (.cells #[.int .i64 km, .string (str xm), .string (str ym)] 23))
        have TB4 := hid ((TB3.out.step s4).alloc (.cells #[.int .i64 km, .string (str xm), .string (str ym)] 23))
        have S4 := hid ((S3.out.trans s4).alloc (.cells #[.int .i64 km, .string (str xm), .string (str ym)] 23))
        clear s4 a0 a1 a2 b0 b1 b2
        obtain ⟨a0, a1, a2, _, _, _⟩ := TA4.out.all
        obtain ⟨b0, b1, b2, _, _, _⟩ := TB4.out.all
        go_wp2_with fail
        refine (cR _).mono ?_
        rintro e w5 ⟨rfl, s5⟩
        have TM5 := hid ((TM4.out.step s5).alloc (.cells #[.int .i64 km, .string (str xm), .string (str ym)] 23))
        have TN5 := hid (trip_new w5 23 ⟨km, xm, ym⟩)
        have S5 := hid ((S4.out.trans s5).alloc (.cells #[.int .i64 km, .string (str xm), .string (str ym)] 23))
        clear s5 a0 a1 a2 b0 b1 b2
        obtain ⟨a0, a1, a2, _, _, _⟩ := TM5.out.all
        obtain ⟨b0, b1, b2, _, _, _⟩ := TN5.out.all
        go_wp2_with fail
        go_ret
        exact ⟨rfl, S5.out⟩
    · rw [h2] at c2
      go_enter Try.func4, Try.ntmps4
      go_wp2_with fail
      refine (awake_any _).mono ?_
      rintro e w1 ⟨rfl, s1⟩
      have TA1 := hid (TA.out.step s1)
      have TB1 := hid (TB.out.step s1)
      have S1 := hid (SW.out.trans s1)
      obtain ⟨a0, a1, a2, _, _, _⟩ := TA1.out.all
      clear s1
      go_wp2_with fail
      refine (c1 _).mono ?_
      rintro e w2 ⟨rfl, s2⟩
      have TB2 := hid (TB1.out.step s2)
      have S2 := hid (S1.out.trans s2)
      clear s2 a0 a1 a2
      obtain ⟨b0, b1, b2, _, _, _⟩ := TB2.out.all
      go_wp2_with fail
      refine (c2 _).mono ?_
      rintro e w3 ⟨rfl, s3⟩
      have S3 := hid (S2.out.trans s3)
      clear s3
      go_wp2_with fail
      go_ret
      exact ⟨rfl, S3.out⟩
  · rw [h1] at c1
    go_enter Try.func4, Try.ntmps4
    go_wp2_with fail
    refine (awake_any _).mono ?_
    rintro e w1 ⟨rfl, s1⟩
    have TA1 := hid (TA.out.step s1)
    have S1 := hid (SW.out.trans s1)
    obtain ⟨a0, a1, a2, _, _, _⟩ := TA1.out.all
    clear s1
    go_wp2_with fail
    refine (c1 _).mono ?_
    rintro e w2 ⟨rfl, s2⟩
    have S2 := hid (S1.out.trans s2)
    clear s2
    go_wp2_with fail
    go_ret
    exact ⟨rfl, S2.out⟩
end Go.Proofs.Ythniannpamcajaa
