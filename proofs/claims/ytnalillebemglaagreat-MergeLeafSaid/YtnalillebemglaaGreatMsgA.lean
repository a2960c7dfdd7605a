/-
  What the small functions of package msg do: OfPut, OfDel, OfAdd, Is, Weight, Apply.
  What Then of package msg does.
  A message's bytes; what Write of package msg does.
  What Read of package msg does; what was written is read as it was.
-/
import Derived.Test.YtnalillebemglaaGreatKeyJ
namespace Go.Proofs.YtnalillebemglaaGreat
open Go.RowKit
set_option linter.unusedVariables false
set_option linter.unusedSimpArgs false

theorem ofPut_any (k v : List UInt8) (w : World) : Calls Tryz.prog 25 #[.string (str k), .string (str v)] w fun e w' => e = .returned (Mg.value ⟨1, k, v⟩) ∧ Step noF w w' := by
  go_enter Tryz.func25, Tryz.ntmps25
  go_wp2_with fail
  refine bodyPost_ret (v := .agg #[.int .i64 1, .string (str k), .string (str v)]) (by simp [results, Tryz.results25, go_sem, *]) rfl ⟨rfl, (Step.refl noF w).alloc _⟩
theorem ofDel_any (k : List UInt8) (w : World) : Calls Tryz.prog 24 #[.string (str k)] w fun e w' => e = .returned (Mg.value ⟨2, k, []⟩) ∧ Step noF w w' := by
  have h0 := nil_str
  go_enter Tryz.func24, Tryz.ntmps24
  go_wp2_with fail
  refine bodyPost_ret (v := .agg #[.int .i64 2, .string (str k), .string (str [])]) (by simp [results, Tryz.results24, go_sem, *]) rfl ⟨rfl, (Step.refl noF w).alloc _⟩
theorem ofAdd_any (k : List UInt8) (n : Nat) (hn : n < 18446744073709551616) (w : World) : Calls Tryz.prog 23 #[.string (str k), .int .u64 n] w fun e w' => e = .returned (Mg.value ⟨3, k, be 8 n⟩) ∧ Step noF w w' := by
  have c1 := keyValue_any n hn
  obtain ⟨B, hB⟩ : ∃ B, be 8 n = B := ⟨_, rfl⟩
  rw [hB] at c1 ⊢
  go_enter Tryz.func23, Tryz.ntmps23
  go_wp2_with fail
  refine (c1 _).mono ?_
  rintro e w2 ⟨rfl, s2⟩
  have T2 := (trip_new w 37 ⟨0, [], []⟩).step s2
  obtain ⟨c0, c1, c2, f0, f1, f2⟩ := T2.all
  have T3 := hid (T2.put ⟨3, k, B⟩)
  obtain ⟨x0, x1, x2, _, _, _⟩ := T3.out.all
  have S := hid (((Step.refl noF w).alloc _).trans s2)
  clear T2 s2
  go_wp2_with fail
  refine bodyPost_ret (v := .agg #[.int .i64 3, .string (str k), .string (str B)]) (by simp [results, Tryz.results23, go_sem, *]) rfl ⟨rfl, ?_⟩
  exact S.out.put3 _ (Nat.le_refl _) _ _ _

theorem isValOf_any (k : Int) (v : List UInt8) (hv : v.length ≤ maxLen) (w : World) : Calls Tryz.prog 98 #[.int .i64 k, .string (str v)] w fun e w' => e = .returned (.bool (isV k v)) ∧ Step noF w w' := by
  have hE := same_str
  have h0 := nil_str
  have c1 := isVal_any v
  have c2 := keyNumber_any v hv
  unfold numV2 at c2
  by_cases h1 : k = 1
  · have e : isV k v = decide (v.length ≤ 16) := by rw [isV, if_pos h1]
    rw [e]
    go_enter Tryz.func98, Tryz.ntmps98
    go_wp2_with fail
    refine (c1 _).mono ?_
    rintro e w' ⟨rfl, rfl⟩
    go_wp2_with fail
    go_ret
    exact ⟨rfl, Step.refl _ _⟩
  · by_cases h2 : k = 2
    · have e : isV k v = decide (v = []) := by rw [isV, if_neg h1, if_pos h2]
      rw [e]
      go_enter Tryz.func98, Tryz.ntmps98
      go_wp2_with fail
      go_ret
      exact ⟨rfl, Step.refl _ _⟩
    · by_cases h3 : k = 3
      · have e : isV k v = decide (v.length = 8) := by rw [isV, if_neg h1, if_neg h2, if_pos h3]
        rw [e]
        go_enter Tryz.func98, Tryz.ntmps98
        go_wp2_with fail
        refine (c2 _).mono ?_
        rintro e w2 ⟨rfl, s2⟩
        go_wp2_with fail
        go_ret
        exact ⟨rfl, s2⟩
      · have e : isV k v = false := by rw [isV, if_neg h1, if_neg h2, if_neg h3]
        rw [e]
        go_enter Tryz.func98, Tryz.ntmps98
        go_wp2_with fail
        go_ret
        exact ⟨rfl, Step.refl _ _⟩
theorem mis_any (m : Mg) (hv : m.val.length ≤ maxLen) (w : World) : Calls Tryz.prog 74 #[m.value] w fun e w' => e = .returned (.bool m.is) ∧ Step noF w w' := by
  have c1 := is_any m.key
  have c2 := isValOf_any m.kind m.val hv
  have e0 : m.value = .agg #[.int .i64 m.kind, .string (str m.key), .string (str m.val)] := rfl
  rw [e0]
  cases h1 : isK m.key
  · rw [h1] at c1
    go_enter Tryz.func74, Tryz.ntmps74
    go_wp2_with fail
    refine (c1 _).mono ?_
    rintro e w' ⟨rfl, rfl⟩
    go_wp2_with fail
    go_ret
    exact ⟨ret_bool (by simp [Mg.is, h1]), (Step.refl noF w).alloc _⟩
  · rw [h1] at c1
    go_enter Tryz.func74, Tryz.ntmps74
    go_wp2_with fail
    refine (c1 _).mono ?_
    rintro e w' ⟨rfl, rfl⟩
    go_wp2_with fail
    refine (c2 _).mono ?_
    rintro e w2 ⟨rfl, s2⟩
    go_wp2_with fail
    go_ret
    exact ⟨ret_bool (by simp [Mg.is, h1]), ((Step.refl noF w).alloc _).trans s2⟩
theorem isNot_any (m : Mg) (hv : m.val.length ≤ maxLen) (w : World) : Calls Tryz.prog 63 #[m.value] w fun e w' => e = .returned (.bool (!m.is)) ∧ Step noF w w' := by
  have c1 := mis_any m hv
  have e0 : m.value = .agg #[.int .i64 m.kind, .string (str m.key), .string (str m.val)] := rfl
  rw [e0] at c1 ⊢
  obtain ⟨B, hB⟩ : ∃ B, m.is = B := ⟨_, rfl⟩
  rw [hB] at c1 ⊢
  go_enter Tryz.func63, Tryz.ntmps63
  go_wp2_with fail
  refine (c1 _).mono ?_
  rintro e w2 ⟨rfl, s2⟩
  go_wp2_with fail
  go_ret
  exact ⟨rfl, ((Step.refl noF w).alloc _).trans s2⟩
theorem more_any (v a : List UInt8) (hv : v.length ≤ maxLen) (ha : a.length ≤ maxLen) (w : World) : Calls Tryz.prog 84 #[.string (str v), .string (str a)] w fun e w' => e = .returned (.string (str (moreL v a))) ∧ Step noF w w' := by
  have c1 := keyNumber_any v hv
  have c2 := keyNumber_any a ha
  have l1 := numOf_lt v
  have l2 := numOf_lt a
  have hS : Hid (sumL v a = be 8 ((numOf v + numOf a) % 18446744073709551616)) := rfl
  have c3 := keyValue_any ((numOf v + numOf a) % 18446744073709551616) (by omega)
  unfold numV2 at c1 c2
  obtain ⟨x, hx⟩ : ∃ x, numOf v = x := ⟨_, rfl⟩
  obtain ⟨y, hy⟩ : ∃ y, numOf a = y := ⟨_, rfl⟩
  rw [hx] at c1 c3 l1 hS
  rw [hy] at c2 c3 l2 hS
  obtain ⟨z, hz⟩ : ∃ z, (x + y) % 18446744073709551616 = z := ⟨_, rfl⟩
  rw [hz] at c3 hS
  have hz2 : ((x : Int) + (y : Int)) % 18446744073709551616 = (z : Int) := by omega
  have hz3 : IntKind.u64.wrap ((x : Int) + (y : Int)) = (z : Int) := by
    simp [IntKind.wrap, IntKind.bits, IntKind.signed]
    omega
  by_cases h1 : v.length = 8
  · have d1 : decide (v.length = 8) = true := by simp [h1]
    rw [d1] at c1
    by_cases h2 : a.length = 8
    · have d2 : decide (a.length = 8) = true := by simp [h2]
      rw [d2] at c2
      have HM : Hid (moreL v a = be 8 z) := by show _ = _; rw [moreL_eight v a h1 h2]; exact hS.out
      clear hx hy d1 d2 hS hz h1 h2
      go_enter Tryz.func84, Tryz.ntmps84
      go_wp2_with fail
      refine (c1 _).mono ?_
      rintro e w2 ⟨rfl, s2⟩
      go_wp2_with fail
      refine (c2 _).mono ?_
      rintro e w3 ⟨rfl, s3⟩
      go_wp2_with fail
      refine (c3 _).mono ?_
      rintro e w4 ⟨rfl, s4⟩
      go_wp2_with fail
      go_ret
      exact ⟨by rw [HM.out]; rfl, (s2.trans s3).trans s4⟩
    · have d2 : decide (a.length = 8) = false := by simp [h2]
      rw [d2] at c2
      have HM : Hid (moreL v a = v) := by show _ = _; rw [moreL, if_neg (fun q => h2 q.2)]
      clear hx hy d1 d2 hS hz h1 h2
      go_enter Tryz.func84, Tryz.ntmps84
      go_wp2_with fail
      refine (c1 _).mono ?_
      rintro e w2 ⟨rfl, s2⟩
      go_wp2_with fail
      refine (c2 _).mono ?_
      rintro e w3 ⟨rfl, s3⟩
      go_wp2_with fail
      go_ret
      exact ⟨by rw [HM.out]; rfl, s2.trans s3⟩
  · have d1 : decide (v.length = 8) = false := by simp [h1]
    rw [d1] at c1
    have HM : Hid (moreL v a = v) := by show _ = _; rw [moreL, if_neg (fun q => h1 q.1)]
    obtain ⟨d, hd⟩ : ∃ d, decide (a.length = 8) = d := ⟨_, rfl⟩
    rw [hd] at c2
    clear hx hy d1 hS hz h1 hd
    go_enter Tryz.func84, Tryz.ntmps84
    go_wp2_with fail
    refine (c1 _).mono ?_
    rintro e w2 ⟨rfl, s2⟩
    go_wp2_with fail
    refine (c2 _).mono ?_
    rintro e w3 ⟨rfl, s3⟩
    go_wp2_with fail
    go_ret
    exact ⟨by rw [HM.out]; rfl, s2.trans s3⟩
/-- What Apply answers. -/
def Mg.appR (m : Mg) (v : List UInt8) (has : Bool) : Value := .tuple #[.string (str (m.appV v has)), .bool (m.appH has)]
theorem appR_no {m : Mg} (h : m.is = false) (v : List UInt8) (has : Bool) : m.appR v has = .tuple #[.string (str (if has then v else [])), .bool has] := by
  simp [Mg.appR, Mg.appV, Mg.appH, h]
theorem appR_del {m : Mg} (h : m.is = true) (h2 : m.kind = 2) (v : List UInt8) (has : Bool) : m.appR v has = .tuple #[.string (str []), .bool false] := by
  simp [Mg.appR, Mg.appV, Mg.appH, h, h2]
theorem appR_add {m : Mg} (h : m.is = true) (h2 : m.kind = 3) (v : List UInt8) : m.appR v true = .tuple #[.string (str (moreL v m.val)), .bool true] := by
  simp [Mg.appR, Mg.appV, Mg.appH, h, h2]
theorem appR_val {m : Mg} (h : m.is = true) (h2 : m.kind ≠ 2) (v : List UInt8) (has : Bool) (h3 : m.kind = 3 → has = false) : m.appR v has = .tuple #[.string (str m.val), .bool true] := by
  have : ¬ (m.kind = 3 ∧ has = true) := by rintro ⟨a, b⟩; rw [h3 a] at b; cases b
  simp [Mg.appR, Mg.appV, Mg.appH, h, h2, this]
set_option maxHeartbeats 1000000 in
theorem apply_any (m : Mg) (hm : m.val.length ≤ maxLen) (v : List UInt8) (hv : v.length ≤ maxLen) (has : Bool) (w : World) : Calls Tryz.prog 64 #[m.value, .string (str v), .bool has] w fun e w' => e = .returned (m.appR v has) ∧ Step noF w w' := by
  have h0 := nil_str
  obtain ⟨k, x, y⟩ := m
  have c1 := isNot_any ⟨k, x, y⟩ hm
  have c2 := more_any v y hv hm
  have e0 : (Mg.mk k x y).value = .agg #[.int .i64 k, .string (str x), .string (str y)] := rfl
  rw [e0] at c1 ⊢
  have T1 := hid (trip_new w 37 ⟨k, x, y⟩)
  cases h1 : (Mg.mk k x y).is
  · rw [h1] at c1
    have HR := hid (appR_no h1 v)
    clear h1
    cases has
    all_goals
      go_enter Tryz.func64, Tryz.ntmps64
      go_wp2_with fail
      refine (c1 _).mono ?_
      rintro e w2 ⟨rfl, s2⟩
      go_wp2_with fail
      go_ret2
      exact ⟨by rw [HR.out]; rfl, ((Step.refl noF w).alloc _).trans s2⟩
  · rw [h1] at c1
    by_cases h2 : k = 2
    · subst h2
      have HR := hid (appR_del h1 rfl v)
      clear h1
      cases has
      all_goals
        go_enter Tryz.func64, Tryz.ntmps64
        go_wp2_with fail
        refine (c1 _).mono ?_
        rintro e w2 ⟨rfl, s2⟩
        obtain ⟨d0, d1, d2, f0, f1, f2⟩ := (T1.out.step s2).all
        go_wp2_with fail
        go_ret2
        exact ⟨by rw [HR.out]; rfl, ((Step.refl noF w).alloc _).trans s2⟩
    · have g2 : (k == 2) = false := by rw [beq_eq_false_iff_ne]; exact h2
      cases has
      · have HR := hid (appR_val h1 h2 v false (fun _ => rfl))
        clear h1
        by_cases h3 : k = 3
        all_goals
          try subst h3
          go_enter Tryz.func64, Tryz.ntmps64
          go_wp2_with fail
          refine (c1 _).mono ?_
          rintro e w2 ⟨rfl, s2⟩
          obtain ⟨d0, d1, d2, f0, f1, f2⟩ := (T1.out.step s2).all
          go_wp2_with fail
          go_ret2
          exact ⟨by rw [HR.out]; rfl, ((Step.refl noF w).alloc _).trans s2⟩
      · by_cases h3 : k = 3
        · subst h3
          have HR := hid (appR_add h1 rfl v)
          clear h1
          go_enter Tryz.func64, Tryz.ntmps64
          go_wp2_with fail
          refine (c1 _).mono ?_
          rintro e w2 ⟨rfl, s2⟩
          obtain ⟨d0, d1, d2, f0, f1, f2⟩ := (T1.out.step s2).all
          go_wp2_with fail
          refine (c2 _).mono ?_
          rintro e w3 ⟨rfl, s3⟩
          go_wp2_with fail
          go_ret2
          exact ⟨by rw [HR.out]; rfl, (((Step.refl noF w).alloc _).trans s2).trans s3⟩
        · have HR := hid (appR_val h1 h2 v true (fun x => absurd x h3))
          have g3 : (k == 3) = false := by rw [beq_eq_false_iff_ne]; exact h3
          clear h1
          go_enter Tryz.func64, Tryz.ntmps64
          go_wp2_with fail
          refine (c1 _).mono ?_
          rintro e w2 ⟨rfl, s2⟩
          obtain ⟨d0, d1, d2, f0, f1, f2⟩ := (T1.out.step s2).all
          go_wp2_with fail
          go_ret2
          exact ⟨by rw [HR.out]; rfl, ((Step.refl noF w).alloc _).trans s2⟩
end Go.Proofs.YtnalillebemglaaGreat
namespace Go.Proofs.YtnalillebemglaaGreat
open Go.RowKit
set_option linter.unusedVariables false
set_option linter.unusedSimpArgs false

/-- What Then answers. -/
def Mg.thenR (a b : Mg) : Value := .tuple #[(a.then b).value, .int .i64 (a.thenE b)]
theorem thenR_no {a b : Mg} (h : a.both b = false) : a.thenR b = .tuple #[.agg #[.int .i64 0, .string (str []), .string (str [])], .int .i64 1] := by
  simp [Mg.thenR, Mg.then, Mg.thenE, h, Mg.zero, Mg.value]
theorem thenR_b {a b : Mg} (h : a.both b = true) (h3 : b.kind ≠ 3) : a.thenR b = .tuple #[.agg #[.int .i64 b.kind, .string (str b.key), .string (str b.val)], .int .i64 0] := by
  simp [Mg.thenR, Mg.then, Mg.thenE, h, h3, Mg.value]
theorem thenR_aa {a b : Mg} (h : a.both b = true) (h3 : b.kind = 3) (h4 : a.kind = 3) : a.thenR b = .tuple #[.agg #[.int .i64 3, .string (str a.key), .string (str (sumL a.val b.val))], .int .i64 0] := by
  simp [Mg.thenR, Mg.then, Mg.thenE, h, h3, h4, Mg.value]
theorem thenR_da {a b : Mg} (h : a.both b = true) (h3 : b.kind = 3) (h4 : a.kind = 2) : a.thenR b = .tuple #[.agg #[.int .i64 1, .string (str a.key), .string (str b.val)], .int .i64 0] := by
  simp [Mg.thenR, Mg.then, Mg.thenE, h, h3, h4, Mg.value]
theorem thenR_pa {a b : Mg} (h : a.both b = true) (h3 : b.kind = 3) (h4 : a.kind ≠ 3) (h5 : a.kind ≠ 2) : a.thenR b = .tuple #[.agg #[.int .i64 1, .string (str a.key), .string (str (moreL a.val b.val))], .int .i64 0] := by
  simp [Mg.thenR, Mg.then, Mg.thenE, h, h3, h4, h5, Mg.value]
/-- What an Add makes of another message's value. -/
def addOf (a b : Mg) : List UInt8 := if a.kind = 2 then b.val else moreL a.val b.val
theorem thenR_add {a b : Mg} (h : a.both b = true) (h3 : b.kind = 3) : a.thenR b = .tuple #[.agg #[.int .i64 (if a.kind = 3 then 3 else 1), .string (str a.key), .string (str (addOf a b))], .int .i64 0] := by
  have ha : a.is = true := by simp [Mg.both] at h; exact h.1.1
  have hb : b.is = true := by simp [Mg.both] at h; exact h.1.2
  have ca := Mg.cases ha
  have cb := Mg.cases hb
  have lb : b.val.length = 8 := by grind
  unfold addOf
  rcases ca with ⟨ka, la⟩ | ⟨ka, la⟩ | ⟨ka, la⟩
  · rw [thenR_pa h h3 (by omega) (by omega), if_neg (by omega), if_neg (by omega)]
  · rw [thenR_da h h3 ka, if_neg (by omega), if_pos ka]
  · rw [thenR_aa h h3 ka, if_pos ka, if_neg (by omega), moreL_eight _ _ la lb]
theorem appR_addOf {a b : Mg} (hb : b.is = true) (h3 : b.kind = 3) : b.appR a.val (decide (a.kind ≠ 2)) = .tuple #[.string (str (addOf a b)), .bool true] := by
  unfold addOf
  by_cases h : a.kind = 2
  · rw [if_pos h, appR_val hb (by omega) _ _ (fun _ => by simp [h])]
  · rw [if_neg h]
    have : decide (a.kind ≠ 2) = true := by simp [h]
    rw [this, appR_add hb h3]

set_option maxHeartbeats 1000000 in
theorem then_no1 (ka kb : Int) (xa ya xb yb : List UInt8) (ha : ya.length ≤ maxLen) (hb : yb.length ≤ maxLen) (w : World) (h1 : (Mg.mk ka xa ya).is = false) : Calls Tryz.prog 34 #[(Mg.mk ka xa ya).value, (Mg.mk kb xb yb).value] w fun e w' => e = .returned ((Mg.mk ka xa ya).thenR ⟨kb, xb, yb⟩) ∧ Step noF w w' := by
  have h0 := nil_str
  have hE := same_str
  have c1 := isNot_any ⟨ka, xa, ya⟩ ha
  have c2 := isNot_any ⟨kb, xb, yb⟩ hb
  have e1 : (Mg.mk ka xa ya).value = .agg #[.int .i64 ka, .string (str xa), .string (str ya)] := rfl
  have e2 : (Mg.mk kb xb yb).value = .agg #[.int .i64 kb, .string (str xb), .string (str yb)] := rfl
  rw [e1] at c1 ⊢
  rw [e2] at c2 ⊢
  obtain ⟨ta, tb, tz, sw⟩ := trip3 w 37 ⟨ka, xa, ya⟩ ⟨kb, xb, yb⟩ ⟨0, [], []⟩
  have TA := hid ta
  have TB := hid tb
  have TZ := hid tz
  have SW := hid sw
  clear ta tb tz sw
  have HR := hid (thenR_no (a := ⟨ka, xa, ya⟩) (b := ⟨kb, xb, yb⟩) (by simp [Mg.both, h1]))
  rw [h1] at c1
  clear h1
  go_enter Tryz.func34, Tryz.ntmps34
  go_wp2_with fail
  refine (c1 _).mono ?_
  rintro e w2 ⟨rfl, s2⟩
  obtain ⟨d0, d1, d2, f0, f1, f2⟩ := (TZ.out.step s2).all
  have T3 := hid ((TZ.out.step s2).put ⟨0, [], []⟩)
  obtain ⟨x0, x1, x2, _, _, _⟩ := T3.out.all
  have S := hid (SW.out.trans s2)
  clear s2
  go_wp2_with fail
  refine bodyPost_ret (v := .tuple #[.agg #[.int .i64 0, .string (str []), .string (str [])], .int .i64 1]) (by simp [results, Tryz.results34, go_sem, *]) rfl ⟨by rw [HR.out], ?_⟩
  exact S.out.put3 _ (by omega) _ _ _
set_option maxHeartbeats 1000000 in
theorem then_no2 (ka kb : Int) (xa ya xb yb : List UInt8) (ha : ya.length ≤ maxLen) (hb : yb.length ≤ maxLen) (w : World) (h1 : (Mg.mk ka xa ya).is = true) (h2 : (Mg.mk kb xb yb).is = false) : Calls Tryz.prog 34 #[(Mg.mk ka xa ya).value, (Mg.mk kb xb yb).value] w fun e w' => e = .returned ((Mg.mk ka xa ya).thenR ⟨kb, xb, yb⟩) ∧ Step noF w w' := by
  have h0 := nil_str
  have hE := same_str
  have c1 := isNot_any ⟨ka, xa, ya⟩ ha
  have c2 := isNot_any ⟨kb, xb, yb⟩ hb
  have e1 : (Mg.mk ka xa ya).value = .agg #[.int .i64 ka, .string (str xa), .string (str ya)] := rfl
  have e2 : (Mg.mk kb xb yb).value = .agg #[.int .i64 kb, .string (str xb), .string (str yb)] := rfl
  rw [e1] at c1 ⊢
  rw [e2] at c2 ⊢
  obtain ⟨ta, tb, tz, sw⟩ := trip3 w 37 ⟨ka, xa, ya⟩ ⟨kb, xb, yb⟩ ⟨0, [], []⟩
  have TA := hid ta
  have TB := hid tb
  have TZ := hid tz
  have SW := hid sw
  clear ta tb tz sw
  rw [h1] at c1
  have HR := hid (thenR_no (a := ⟨ka, xa, ya⟩) (b := ⟨kb, xb, yb⟩) (by simp [Mg.both, h2]))
  rw [h2] at c2
  clear h1 h2
  go_enter Tryz.func34, Tryz.ntmps34
  go_wp2_with fail
  refine (c1 _).mono ?_
  rintro e w2 ⟨rfl, s2⟩
  obtain ⟨b0, b1, b2, _, _, _⟩ := (TB.out.step s2).all
  have TZ2 := hid (TZ.out.step s2)
  have S2 := hid (SW.out.trans s2)
  clear s2
  go_wp2_with fail
  refine (c2 _).mono ?_
  rintro e w3 ⟨rfl, s3⟩
  obtain ⟨d0, d1, d2, f0, f1, f2⟩ := (TZ2.out.step s3).all
  have T3 := hid ((TZ2.out.step s3).put ⟨0, [], []⟩)
  obtain ⟨x0, x1, x2, _, _, _⟩ := T3.out.all
  have S := hid (S2.out.trans s3)
  clear s3
  go_wp2_with fail
  refine bodyPost_ret (v := .tuple #[.agg #[.int .i64 0, .string (str []), .string (str [])], .int .i64 1]) (by simp [results, Tryz.results34, go_sem, *]) rfl ⟨by rw [HR.out], ?_⟩
  exact S.out.put3 _ (by omega) _ _ _
set_option maxHeartbeats 1000000 in
theorem then_no3 (ka kb : Int) (xa ya xb yb : List UInt8) (ha : ya.length ≤ maxLen) (hb : yb.length ≤ maxLen) (w : World) (h1 : (Mg.mk ka xa ya).is = true) (h2 : (Mg.mk kb xb yb).is = true) (hk : ¬ xa = xb) : Calls Tryz.prog 34 #[(Mg.mk ka xa ya).value, (Mg.mk kb xb yb).value] w fun e w' => e = .returned ((Mg.mk ka xa ya).thenR ⟨kb, xb, yb⟩) ∧ Step noF w w' := by
  have h0 := nil_str
  have hE := same_str
  have c1 := isNot_any ⟨ka, xa, ya⟩ ha
  have c2 := isNot_any ⟨kb, xb, yb⟩ hb
  have e1 : (Mg.mk ka xa ya).value = .agg #[.int .i64 ka, .string (str xa), .string (str ya)] := rfl
  have e2 : (Mg.mk kb xb yb).value = .agg #[.int .i64 kb, .string (str xb), .string (str yb)] := rfl
  rw [e1] at c1 ⊢
  rw [e2] at c2 ⊢
  obtain ⟨ta, tb, tz, sw⟩ := trip3 w 37 ⟨ka, xa, ya⟩ ⟨kb, xb, yb⟩ ⟨0, [], []⟩
  have TA := hid ta
  have TB := hid tb
  have TZ := hid tz
  have SW := hid sw
  clear ta tb tz sw
  rw [h1] at c1
  rw [h2] at c2
  have HR := hid (thenR_no (a := ⟨ka, xa, ya⟩) (b := ⟨kb, xb, yb⟩) (by simp [Mg.both, hk]))
  clear h1 h2
  go_enter Tryz.func34, Tryz.ntmps34
  go_wp2_with fail
  refine (c1 _).mono ?_
  rintro e w2 ⟨rfl, s2⟩
  have TA2 := hid (TA.out.step s2)
  have TB2 := hid (TB.out.step s2)
  have TZ2 := hid (TZ.out.step s2)
  obtain ⟨a0, a1, a2, _, _, _⟩ := TA2.out.all
  obtain ⟨b0, b1, b2, _, _, _⟩ := TB2.out.all
  have S2 := hid (SW.out.trans s2)
  clear s2
  go_wp2_with fail
  refine (c2 _).mono ?_
  rintro e w3 ⟨rfl, s3⟩
  have TA3 := hid (TA2.out.step s3)
  have TB3 := hid (TB2.out.step s3)
  have TZ3 := hid (TZ2.out.step s3)
  clear a0 a1 a2 b0 b1 b2
  obtain ⟨a0, a1, a2, _, _, _⟩ := TA3.out.all
  obtain ⟨b0, b1, b2, _, _, _⟩ := TB3.out.all
  have S3 := hid (S2.out.trans s3)
  clear s3
  obtain ⟨d0, d1, d2, f0, f1, f2⟩ := TZ3.out.all
  have T9 := hid (TZ3.out.put ⟨0, [], []⟩)
  obtain ⟨x0, x1, x2, _, _, _⟩ := T9.out.all
  go_wp2_with fail
  refine bodyPost_ret (v := .tuple #[.agg #[.int .i64 0, .string (str []), .string (str [])], .int .i64 1]) (by simp [results, Tryz.results34, go_sem, *]) rfl ⟨by rw [HR.out], ?_⟩
  exact S3.out.put3 _ (by omega) _ _ _
set_option maxHeartbeats 1000000 in
theorem then_b (ka kb : Int) (xa ya xb yb : List UInt8) (ha : ya.length ≤ maxLen) (hb : yb.length ≤ maxLen) (w : World) (h1 : (Mg.mk ka xa ya).is = true) (h2 : (Mg.mk kb xb yb).is = true) (hk : xa = xb) (h3 : ¬ kb = 3) : Calls Tryz.prog 34 #[(Mg.mk ka xa ya).value, (Mg.mk kb xb yb).value] w fun e w' => e = .returned ((Mg.mk ka xa ya).thenR ⟨kb, xb, yb⟩) ∧ Step noF w w' := by
  have h0 := nil_str
  have hE := same_str
  have c1 := isNot_any ⟨ka, xa, ya⟩ ha
  have c2 := isNot_any ⟨kb, xb, yb⟩ hb
  have e1 : (Mg.mk ka xa ya).value = .agg #[.int .i64 ka, .string (str xa), .string (str ya)] := rfl
  have e2 : (Mg.mk kb xb yb).value = .agg #[.int .i64 kb, .string (str xb), .string (str yb)] := rfl
  rw [e1] at c1 ⊢
  rw [e2] at c2 ⊢
  obtain ⟨ta, tb, tz, sw⟩ := trip3 w 37 ⟨ka, xa, ya⟩ ⟨kb, xb, yb⟩ ⟨0, [], []⟩
  have TA := hid ta
  have TB := hid tb
  have TZ := hid tz
  have SW := hid sw
  clear ta tb tz sw
  rw [h1] at c1
  rw [h2] at c2
  have hB : (Mg.mk ka xa ya).both ⟨kb, xb, yb⟩ = true := by
    unfold Mg.both
    rw [h1, h2]
    simp [hk]
  have HR := hid (thenR_b hB h3)
  have g3 : (kb == 3) = false := by rw [beq_eq_false_iff_ne]; exact h3
  clear h1 h2 hB
  subst hk
  go_enter Tryz.func34, Tryz.ntmps34
  go_wp2_with fail
  refine (c1 _).mono ?_
  rintro e w2 ⟨rfl, s2⟩
  have TA2 := hid (TA.out.step s2)
  have TB2 := hid (TB.out.step s2)
  have TZ2 := hid (TZ.out.step s2)
  obtain ⟨a0, a1, a2, _, _, _⟩ := TA2.out.all
  obtain ⟨b0, b1, b2, _, _, _⟩ := TB2.out.all
  have S2 := hid (SW.out.trans s2)
  clear s2
  go_wp2_with fail
  refine (c2 _).mono ?_
  rintro e w3 ⟨rfl, s3⟩
  have TA3 := hid (TA2.out.step s3)
  have TB3 := hid (TB2.out.step s3)
  have TZ3 := hid (TZ2.out.step s3)
  clear a0 a1 a2 b0 b1 b2
  obtain ⟨a0, a1, a2, _, _, _⟩ := TA3.out.all
  obtain ⟨b0, b1, b2, _, _, _⟩ := TB3.out.all
  have S3 := hid (S2.out.trans s3)
  clear s3
  obtain ⟨d0, d1, d2, f0, f1, f2⟩ := TZ3.out.all
  have T9 := hid (TZ3.out.put ⟨kb, xa, yb⟩)
  obtain ⟨x0, x1, x2, _, _, _⟩ := T9.out.all
  go_wp2_with fail
  refine bodyPost_ret (v := .tuple #[.agg #[.int .i64 kb, .string (str xa), .string (str yb)], .int .i64 0]) (by simp [results, Tryz.results34, go_sem, *]) rfl ⟨by rw [HR.out], ?_⟩
  exact S3.out.put3 _ (by omega) _ _ _
set_option maxHeartbeats 1000000 in
theorem then_aa (ka kb : Int) (xa ya xb yb : List UInt8) (ha : ya.length ≤ maxLen) (hb : yb.length ≤ maxLen) (w : World) (h1 : (Mg.mk ka xa ya).is = true) (h2 : (Mg.mk kb xb yb).is = true) (hk : xa = xb) (h3 : kb = 3) (h4 : ka = 3) : Calls Tryz.prog 34 #[(Mg.mk ka xa ya).value, (Mg.mk kb xb yb).value] w fun e w' => e = .returned ((Mg.mk ka xa ya).thenR ⟨kb, xb, yb⟩) ∧ Step noF w w' := by
  have h0 := nil_str
  have hE := same_str
  have c1 := isNot_any ⟨ka, xa, ya⟩ ha
  have c2 := isNot_any ⟨kb, xb, yb⟩ hb
  have e1 : (Mg.mk ka xa ya).value = .agg #[.int .i64 ka, .string (str xa), .string (str ya)] := rfl
  have e2 : (Mg.mk kb xb yb).value = .agg #[.int .i64 kb, .string (str xb), .string (str yb)] := rfl
  rw [e1] at c1 ⊢
  rw [e2] at c2 ⊢
  obtain ⟨ta, tb, tz, sw⟩ := trip3 w 37 ⟨ka, xa, ya⟩ ⟨kb, xb, yb⟩ ⟨0, [], []⟩
  have TA := hid ta
  have TB := hid tb
  have TZ := hid tz
  have SW := hid sw
  clear ta tb tz sw
  rw [h1] at c1
  rw [h2] at c2
  have hB : (Mg.mk ka xa ya).both ⟨kb, xb, yb⟩ = true := by
    unfold Mg.both
    rw [h1, h2]
    simp [hk]
  subst h3
  have HR := hid (thenR_add hB rfl)
  have cA := apply_any ⟨3, xb, yb⟩ hb ya ha (decide (ka ≠ 2))
  have cP := ofPut_any xa (addOf ⟨ka, xa, ya⟩ ⟨3, xb, yb⟩)
  rw [appR_addOf (a := ⟨ka, xa, ya⟩) h2 rfl, e2] at cA
  obtain ⟨V, hV⟩ : ∃ V, addOf ⟨ka, xa, ya⟩ ⟨3, xb, yb⟩ = V := ⟨_, rfl⟩
  rw [hV] at cA cP HR
  unfold Mg.value at cP
  clear h1 h2 hB hV
  subst hk
  subst h4
  rw [show decide ((3 : Int) ≠ 2) = true from rfl] at cA
  go_enter Tryz.func34, Tryz.ntmps34
  go_wp2_with fail
  refine (c1 _).mono ?_
  rintro e w2 ⟨rfl, s2⟩
  have TA2 := hid (TA.out.step s2)
  have TB2 := hid (TB.out.step s2)
  have TZ2 := hid (TZ.out.step s2)
  obtain ⟨a0, a1, a2, _, _, _⟩ := TA2.out.all
  obtain ⟨b0, b1, b2, _, _, _⟩ := TB2.out.all
  have S2 := hid (SW.out.trans s2)
  clear s2
  go_wp2_with fail
  refine (c2 _).mono ?_
  rintro e w3 ⟨rfl, s3⟩
  have TA3 := hid (TA2.out.step s3)
  have TB3 := hid (TB2.out.step s3)
  have TZ3 := hid (TZ2.out.step s3)
  clear a0 a1 a2 b0 b1 b2
  obtain ⟨a0, a1, a2, _, _, _⟩ := TA3.out.all
  obtain ⟨b0, b1, b2, _, _, _⟩ := TB3.out.all
  have S3 := hid (S2.out.trans s3)
  clear s3
  go_wp2_with fail
  refine (cA _).mono ?_
  rintro e w4 ⟨rfl, s4⟩
  have TA4 := hid (TA3.out.step s4)
  have TZ4 := hid (TZ3.out.step s4)
  clear a0 a1 a2 b0 b1 b2
  obtain ⟨a0, a1, a2, _, _, _⟩ := TA4.out.all
  have S4 := hid (S3.out.trans s4)
  clear s4
  obtain ⟨d0, d1, d2, f0, f1, f2⟩ := TZ4.out.all
  have T9 := hid (TZ4.out.put ⟨3, xa, V⟩)
  obtain ⟨x0, x1, x2, _, _, _⟩ := T9.out.all
  go_wp2_with fail
  refine bodyPost_ret (v := .tuple #[.agg #[.int .i64 3, .string (str xa), .string (str V)], .int .i64 0]) (by simp [results, Tryz.results34, go_sem, *]) rfl ⟨by rw [HR.out]; rfl, ?_⟩
  exact S4.out.put3 _ (by omega) _ _ _
set_option maxHeartbeats 1000000 in
theorem then_da (ka kb : Int) (xa ya xb yb : List UInt8) (ha : ya.length ≤ maxLen) (hb : yb.length ≤ maxLen) (w : World) (h1 : (Mg.mk ka xa ya).is = true) (h2 : (Mg.mk kb xb yb).is = true) (hk : xa = xb) (h3 : kb = 3) (h4 : ¬ ka = 3) (h5 : ka = 2) : Calls Tryz.prog 34 #[(Mg.mk ka xa ya).value, (Mg.mk kb xb yb).value] w fun e w' => e = .returned ((Mg.mk ka xa ya).thenR ⟨kb, xb, yb⟩) ∧ Step noF w w' := by
  have h0 := nil_str
  have hE := same_str
  have c1 := isNot_any ⟨ka, xa, ya⟩ ha
  have c2 := isNot_any ⟨kb, xb, yb⟩ hb
  have e1 : (Mg.mk ka xa ya).value = .agg #[.int .i64 ka, .string (str xa), .string (str ya)] := rfl
  have e2 : (Mg.mk kb xb yb).value = .agg #[.int .i64 kb, .string (str xb), .string (str yb)] := rfl
  rw [e1] at c1 ⊢
  rw [e2] at c2 ⊢
  obtain ⟨ta, tb, tz, sw⟩ := trip3 w 37 ⟨ka, xa, ya⟩ ⟨kb, xb, yb⟩ ⟨0, [], []⟩
  have TA := hid ta
  have TB := hid tb
  have TZ := hid tz
  have SW := hid sw
  clear ta tb tz sw
  rw [h1] at c1
  rw [h2] at c2
  have hB : (Mg.mk ka xa ya).both ⟨kb, xb, yb⟩ = true := by
    unfold Mg.both
    rw [h1, h2]
    simp [hk]
  subst h3
  have HR := hid (thenR_add hB rfl)
  have cA := apply_any ⟨3, xb, yb⟩ hb ya ha (decide (ka ≠ 2))
  have cP := ofPut_any xa (addOf ⟨ka, xa, ya⟩ ⟨3, xb, yb⟩)
  rw [appR_addOf (a := ⟨ka, xa, ya⟩) h2 rfl, e2] at cA
  obtain ⟨V, hV⟩ : ∃ V, addOf ⟨ka, xa, ya⟩ ⟨3, xb, yb⟩ = V := ⟨_, rfl⟩
  rw [hV] at cA cP HR
  unfold Mg.value at cP
  clear h1 h2 hB hV
  subst hk
  have HR2 : Hid ((Mg.mk ka xa ya).thenR ⟨3, xa, yb⟩ = .tuple #[.agg #[.int .i64 1, .string (str xa), .string (str V)], .int .i64 0]) := by
    show _ = _
    rw [HR.out, if_neg h4]
  clear HR
  have HR := HR2
  clear HR2
  subst h5
  rw [show decide ((2 : Int) ≠ 2) = false from rfl] at cA
  go_enter Tryz.func34, Tryz.ntmps34
  go_wp2_with fail
  refine (c1 _).mono ?_
  rintro e w2 ⟨rfl, s2⟩
  have TA2 := hid (TA.out.step s2)
  have TB2 := hid (TB.out.step s2)
  have TZ2 := hid (TZ.out.step s2)
  obtain ⟨a0, a1, a2, _, _, _⟩ := TA2.out.all
  obtain ⟨b0, b1, b2, _, _, _⟩ := TB2.out.all
  have S2 := hid (SW.out.trans s2)
  clear s2
  go_wp2_with fail
  refine (c2 _).mono ?_
  rintro e w3 ⟨rfl, s3⟩
  have TA3 := hid (TA2.out.step s3)
  have TB3 := hid (TB2.out.step s3)
  have TZ3 := hid (TZ2.out.step s3)
  clear a0 a1 a2 b0 b1 b2
  obtain ⟨a0, a1, a2, _, _, _⟩ := TA3.out.all
  obtain ⟨b0, b1, b2, _, _, _⟩ := TB3.out.all
  have S3 := hid (S2.out.trans s3)
  clear s3
  go_wp2_with fail
  refine (cA _).mono ?_
  rintro e w4 ⟨rfl, s4⟩
  have TA4 := hid (TA3.out.step s4)
  have TZ4 := hid (TZ3.out.step s4)
  clear a0 a1 a2 b0 b1 b2
  obtain ⟨a0, a1, a2, _, _, _⟩ := TA4.out.all
  have S4 := hid (S3.out.trans s4)
  clear s4
  go_wp2_with fail
  refine (cP _).mono ?_
  rintro e w5 ⟨rfl, s5⟩
  have TZ5 := hid (TZ4.out.step s5)
  have S5 := hid (S4.out.trans s5)
  clear s5 a0 a1 a2
  obtain ⟨d0, d1, d2, f0, f1, f2⟩ := TZ5.out.all
  have T9 := hid (TZ5.out.put ⟨1, xa, V⟩)
  obtain ⟨x0, x1, x2, _, _, _⟩ := T9.out.all
  go_wp2_with fail
  refine bodyPost_ret (v := .tuple #[.agg #[.int .i64 1, .string (str xa), .string (str V)], .int .i64 0]) (by simp [results, Tryz.results34, go_sem, *]) rfl ⟨by rw [HR.out], ?_⟩
  exact S5.out.put3 _ (by omega) _ _ _
set_option maxHeartbeats 1000000 in
theorem then_pa (ka kb : Int) (xa ya xb yb : List UInt8) (ha : ya.length ≤ maxLen) (hb : yb.length ≤ maxLen) (w : World) (h1 : (Mg.mk ka xa ya).is = true) (h2 : (Mg.mk kb xb yb).is = true) (hk : xa = xb) (h3 : kb = 3) (h4 : ¬ ka = 3) (h5 : ¬ ka = 2) : Calls Tryz.prog 34 #[(Mg.mk ka xa ya).value, (Mg.mk kb xb yb).value] w fun e w' => e = .returned ((Mg.mk ka xa ya).thenR ⟨kb, xb, yb⟩) ∧ Step noF w w' := by
  have h0 := nil_str
  have hE := same_str
  have c1 := isNot_any ⟨ka, xa, ya⟩ ha
  have c2 := isNot_any ⟨kb, xb, yb⟩ hb
  have e1 : (Mg.mk ka xa ya).value = .agg #[.int .i64 ka, .string (str xa), .string (str ya)] := rfl
  have e2 : (Mg.mk kb xb yb).value = .agg #[.int .i64 kb, .string (str xb), .string (str yb)] := rfl
  rw [e1] at c1 ⊢
  rw [e2] at c2 ⊢
  obtain ⟨ta, tb, tz, sw⟩ := trip3 w 37 ⟨ka, xa, ya⟩ ⟨kb, xb, yb⟩ ⟨0, [], []⟩
  have TA := hid ta
  have TB := hid tb
  have TZ := hid tz
  have SW := hid sw
  clear ta tb tz sw
  rw [h1] at c1
  rw [h2] at c2
  have hB : (Mg.mk ka xa ya).both ⟨kb, xb, yb⟩ = true := by
    unfold Mg.both
    rw [h1, h2]
    simp [hk]
  subst h3
  have HR := hid (thenR_add hB rfl)
  have cA := apply_any ⟨3, xb, yb⟩ hb ya ha (decide (ka ≠ 2))
  have cP := ofPut_any xa (addOf ⟨ka, xa, ya⟩ ⟨3, xb, yb⟩)
  rw [appR_addOf (a := ⟨ka, xa, ya⟩) h2 rfl, e2] at cA
  obtain ⟨V, hV⟩ : ∃ V, addOf ⟨ka, xa, ya⟩ ⟨3, xb, yb⟩ = V := ⟨_, rfl⟩
  rw [hV] at cA cP HR
  unfold Mg.value at cP
  clear h1 h2 hB hV
  subst hk
  have HR2 : Hid ((Mg.mk ka xa ya).thenR ⟨3, xa, yb⟩ = .tuple #[.agg #[.int .i64 1, .string (str xa), .string (str V)], .int .i64 0]) := by
    show _ = _
    rw [HR.out, if_neg h4]
  clear HR
  have HR := HR2
  clear HR2
  have g5 : (ka == 2) = false := by rw [beq_eq_false_iff_ne]; exact h5
  have g4 : (ka == 3) = false := by rw [beq_eq_false_iff_ne]; exact h4
  rw [show decide (ka ≠ 2) = true by simp [h5]] at cA
  go_enter Tryz.func34, Tryz.ntmps34
  go_wp2_with fail
  refine (c1 _).mono ?_
  rintro e w2 ⟨rfl, s2⟩
  have TA2 := hid (TA.out.step s2)
  have TB2 := hid (TB.out.step s2)
  have TZ2 := hid (TZ.out.step s2)
  obtain ⟨a0, a1, a2, _, _, _⟩ := TA2.out.all
  obtain ⟨b0, b1, b2, _, _, _⟩ := TB2.out.all
  have S2 := hid (SW.out.trans s2)
  clear s2
  go_wp2_with fail
  refine (c2 _).mono ?_
  rintro e w3 ⟨rfl, s3⟩
  have TA3 := hid (TA2.out.step s3)
  have TB3 := hid (TB2.out.step s3)
  have TZ3 := hid (TZ2.out.step s3)
  clear a0 a1 a2 b0 b1 b2
  obtain ⟨a0, a1, a2, _, _, _⟩ := TA3.out.all
  obtain ⟨b0, b1, b2, _, _, _⟩ := TB3.out.all
  have S3 := hid (S2.out.trans s3)
  clear s3
  go_wp2_with fail
  rw [show (ka != 2) = true by simp [h5]]
  refine (cA _).mono ?_
  rintro e w4 ⟨rfl, s4⟩
  have TA4 := hid (TA3.out.step s4)
  have TZ4 := hid (TZ3.out.step s4)
  clear a0 a1 a2 b0 b1 b2
  obtain ⟨a0, a1, a2, _, _, _⟩ := TA4.out.all
  have S4 := hid (S3.out.trans s4)
  clear s4
  go_wp2_with fail
  refine (cP _).mono ?_
  rintro e w5 ⟨rfl, s5⟩
  have TZ5 := hid (TZ4.out.step s5)
  have S5 := hid (S4.out.trans s5)
  clear s5 a0 a1 a2
  obtain ⟨d0, d1, d2, f0, f1, f2⟩ := TZ5.out.all
  have T9 := hid (TZ5.out.put ⟨1, xa, V⟩)
  obtain ⟨x0, x1, x2, _, _, _⟩ := T9.out.all
  go_wp2_with fail
  refine bodyPost_ret (v := .tuple #[.agg #[.int .i64 1, .string (str xa), .string (str V)], .int .i64 0]) (by simp [results, Tryz.results34, go_sem, *]) rfl ⟨by rw [HR.out], ?_⟩
  exact S5.out.put3 _ (by omega) _ _ _
theorem then_any (a b : Mg) (ha : a.val.length ≤ maxLen) (hb : b.val.length ≤ maxLen) (w : World) : Calls Tryz.prog 34 #[a.value, b.value] w fun e w' => e = .returned (a.thenR b) ∧ Step noF w w' := by
  obtain ⟨ka, xa, ya⟩ := a
  obtain ⟨kb, xb, yb⟩ := b
  cases h1 : (Mg.mk ka xa ya).is
  · exact then_no1 ka kb xa ya xb yb ha hb w h1
  · cases h2 : (Mg.mk kb xb yb).is
    · exact then_no2 ka kb xa ya xb yb ha hb w h1 h2
    · by_cases hk : xa = xb
      · by_cases h3 : kb = 3
        · by_cases h4 : ka = 3
          · exact then_aa ka kb xa ya xb yb ha hb w h1 h2 hk h3 h4
          · by_cases h5 : ka = 2
            · exact then_da ka kb xa ya xb yb ha hb w h1 h2 hk h3 h4 h5
            · exact then_pa ka kb xa ya xb yb ha hb w h1 h2 hk h3 h4 h5
        · exact then_b ka kb xa ya xb yb ha hb w h1 h2 hk h3
      · exact then_no3 ka kb xa ya xb yb ha hb w h1 h2 hk
end Go.Proofs.YtnalillebemglaaGreat
namespace Go.Proofs.YtnalillebemglaaGreat
open Go.RowKit
set_option linter.unusedVariables false
set_option linter.unusedSimpArgs false

/-- A text's bytes. -/
def txtL (l : List UInt8) : List UInt8 := UInt8.ofNat l.length :: l
/-- A message's bytes. -/
def Mg.bytes (m : Mg) : List UInt8 := be 1 m.kind.toNat ++ (txtL m.key ++ txtL m.val)
theorem Mg.bytes_length (m : Mg) : m.bytes.length = 3 + m.key.length + m.val.length := by
  simp [Mg.bytes, txtL, be_length]
  omega
def bytesAll (ms : List Mg) : List UInt8 := ms.flatMap Mg.bytes
theorem bytesAll_length (ms : List Mg) (h : ∀ m ∈ ms, m.is = true) : (bytesAll ms).length ≤ ms.length * 27 := by
  induction ms with
  | nil => simp [bytesAll]
  | cons x xs ih =>
    have h1 := ih (fun m hm => h m (by simp [hm]))
    have h2 := Mg.bytes_length x
    have h3 := Mg.key_le (h x (by simp))
    have h4 := Mg.val_le (h x (by simp))
    simp only [bytesAll, List.flatMap_cons, List.length_append, List.length_cons] at h1 ⊢
    omega
theorem bytesAll_take (ms : List Mg) (j : Nat) (hj : j < ms.length) : bytesAll (ms.take (j + 1)) = bytesAll (ms.take j) ++ ms[j].bytes := by
  rw [bytesAll, List.take_succ_eq_append_getElem hj, List.flatMap_append, bytesAll]
  congr 1
  simp
theorem kind_in {m : Mg} (h : m.is = true) : 1 ≤ m.kind ∧ m.kind ≤ 3 := by
  rcases Mg.cases h with ⟨h, _⟩ | ⟨h, _⟩ | ⟨h, _⟩ <;> omega
theorem kind_bytes {m : Mg} (h : m.is = true) (bs : List UInt8) : bs ++ numB 1 [m.kind] = bs ++ be 1 m.kind.toNat ∧ numV 1 [m.kind] = true := by
  have hk := kind_in h
  have hv : numV 1 [m.kind] = true := by
    simp [numV, isW, fitB]
    omega
  refine ⟨?_, hv⟩
  rw [numB, if_pos hv]
  simp
theorem txt_str (l : List UInt8) : txt (str l) = txtL l := by simp [txt, txtL, str_size, str_list]
theorem text_bytes {m : Mg} (h : m.is = true) (bs : List UInt8) : (bs ++ be 1 m.kind.toNat) ++ textB [str m.key, str m.val] = bs ++ m.bytes ∧ textV [str m.key, str m.val] = true := by
  have h1 := Mg.key_le h
  have h2 := Mg.val_le h
  have hv : textV [str m.key, str m.val] = true := by
    simp [textV, str_size]
    omega
  refine ⟨?_, hv⟩
  rw [textB, if_pos hv]
  simp [txt_str, Mg.bytes]
theorem TripAt.keep {w w' : World} {g : Nat} {t : TypeId} {m : Mg} {F : Nat → Prop} (h : TripAt w g t m) (hs : Step F w w') (hF : ¬ F g) : TripAt w' g t m := (hs.block g (lt_of_block h) hF).trans h

theorem all_take (ms : List Mg) (j : Nat) (hj : j < ms.length) : (ms.take (j + 1)).all Mg.is = ((ms.take j).all Mg.is && ms[j].is) := by
  rw [List.take_succ_eq_append_getElem hj, List.all_append]
  simp
set_option maxHeartbeats 1000000 in
theorem indexNot_any (ms : List Mg) (hms : ∀ m ∈ ms, m.val.length ≤ maxLen) (hl : ms.length ≤ 1000000) (a : Option Addr) (cap : Nat) (w : World) (hr : MsgsAt w noF a ms) :
    Calls Tryz.prog 73 #[.slice a ms.length cap, .func (.func 63) #[] #[]] w fun e w' => (∃ r : Int, e = .returned (.int .i64 r) ∧ decide (0 ≤ r) = !(ms.all Mg.is)) ∧ Step noF w w' := by
  have HR := hid hr
  have HM := hid hms
  clear hr hms
  go_enter Tryz.func73, Tryz.ntmps73
  go_wp2_with fail
  go_loopw [8] (fun i wr => ∃ (j : Nat), j ≤ ms.length ∧ i = .int .i64 j ∧ (ms.take j).all Mg.is = true ∧ Step noF w wr) (fun i _ => ms.length - (intOf i).toNat)
  case atStart => exact ⟨0, Nat.zero_le _, rfl, rfl, Step.refl _ _⟩
  case round =>
    obtain ⟨j, hj, rfl, hall, st⟩ := hrel
    have ST := hid st
    have HA := hid hall
    clear st hall
    by_cases hjl : j < ms.length
    · have hR2 : MsgsAt wr noF a ms := HR.out.step ST.out (fun _ h => h)
      obtain ⟨g, off, rfl, c0, c1, c2⟩ := hR2.at j hjl
      have HI := hid (HM.out ms[j] (List.getElem_mem hjl))
      have HT := hid (all_take ms j hjl)
      have HN : Hid (ms[j].is = false → ms.all Mg.is = false) := fun h => by
        rw [List.all_eq_false]
        exact ⟨ms[j], List.getElem_mem hjl, by rw [h]; simp⟩
      obtain ⟨⟨k, x, y⟩, hm⟩ : ∃ m, ms[j] = m := ⟨_, rfl⟩
      rw [hm] at c0 c1 c2 HI HT HN
      clear hm hR2
      have cN := isNot_any ⟨k, x, y⟩ HI.out
      have e0 : (Mg.mk k x y).value = .agg #[.int .i64 k, .string (str x), .string (str y)] := rfl
      rw [e0] at cN
      clear e0
      cases hi : (Mg.mk k x y).is
      · rw [hi] at cN HN
        clear hi
        go_wp2_with fail
        refine (cN _).mono ?_
        rintro e w2 ⟨rfl, s2⟩
        have S2 := hid (ST.out.trans s2)
        clear s2
        go_wp2_with fail
        go_ret
        refine ⟨⟨_, rfl, ?_⟩, S2.out⟩
        have hn := HN.out
        first | rw [hn trivial] | rw [hn rfl] | rw [hn]
        simp
      · rw [hi] at cN HT
        clear hi
        go_wp2_with fail
        refine (cN _).mono ?_
        rintro e w2 ⟨rfl, s2⟩
        have S2 := hid (ST.out.trans s2)
        clear s2
        go_wp2_with fail
        go_roundw
        case rel => exact ⟨j + 1, by omega, int_eq (by omega), by rw [HT.out, HA.out]; rfl, S2.out⟩
        case measure => simp [intOf]; omega
    · obtain rfl : j = ms.length := by omega
      go_wp2_with fail
      go_ret
      refine ⟨⟨_, rfl, ?_⟩, ST.out⟩
      have := HA.out
      rw [List.take_of_length_le (Nat.le_refl _)] at this
      rw [this]
      rfl
theorem contains_any (ms : List Mg) (hms : ∀ m ∈ ms, m.val.length ≤ maxLen) (hl : ms.length ≤ 1000000) (a : Option Addr) (cap : Nat) (w : World) (hr : MsgsAt w noF a ms) :
    Calls Tryz.prog 44 #[.slice a ms.length cap, .func (.func 63) #[] #[]] w fun e w' => e = .returned (.bool !(ms.all Mg.is)) ∧ Step noF w w' := by
  have c := indexNot_any ms hms hl a cap w hr
  obtain ⟨A, hA⟩ : ∃ A, ms.all Mg.is = A := ⟨_, rfl⟩
  rw [hA] at c ⊢
  go_enter Tryz.func44, Tryz.ntmps44
  go_wp2_with fail
  refine c.mono ?_
  rintro e w2 ⟨⟨r, rfl, hr2⟩, s2⟩
  have HR2 := hid hr2
  clear hr2
  go_wp2_with fail
  go_ret
  exact ⟨ret_bool (by rw [← HR2.out]), s2⟩
end Go.Proofs.YtnalillebemglaaGreat
namespace Go.Proofs.YtnalillebemglaaGreat
open Go.RowKit
set_option linter.unusedVariables false
set_option linter.unusedSimpArgs false

/-- What the reader gives: the three parts, what is left, and its word. -/
def rdM (l : List UInt8) : Mg := ⟨numVal 1 l, textVal 8 (numL 1 l), textVal 16 (textL 8 (numL 1 l))⟩
def rdL (l : List UInt8) : List UInt8 := textL 16 (textL 8 (numL 1 l))
def rdE (l : List UInt8) (e : Int) : Int := textE 16 (textL 8 (numL 1 l)) (textE 8 (numL 1 l) (numE 1 l e))
def rdOk (l : List UInt8) (e : Int) : Bool := decide (rdE l e = 0) && (rdM l).is

theorem textL_len (m : Int) (l : List UInt8) : (textL m l).length ≤ l.length := by
  unfold textL
  split
  · simp
  · exact Nat.le_trans (rawL_len _ _) (numL_len 1 l)
theorem rawV_len (n : Int) (l : List UInt8) : (rawV n l).length ≤ l.length := by
  unfold rawV
  split
  · rw [List.length_take]; omega
  · simp
theorem textVal_len (m : Int) (l : List UInt8) : (textVal m l).length ≤ l.length := by
  unfold textVal
  split
  · simp
  · exact Nat.le_trans (rawV_len _ _) (numL_len 1 l)

theorem IsIn.putOther {w : World} {p q : Nat} {l : List UInt8} {e : Int} (h : IsIn w p l e) (hq : q ≠ p) (x y z : Value) : IsIn (((w.setCell ⟨q, 0, none⟩ x).setCell ⟨q, 1, none⟩ y).setCell ⟨q, 2, none⟩ z) p l e := by
  show _ = _
  rw [Below.heap_setCell _ _ _ _ (fun e => hq e.symm), Below.heap_setCell _ _ _ _ (fun e => hq e.symm), Below.heap_setCell _ _ _ _ (fun e => hq e.symm)]
  exact h

/-- What was written is read as it was. -/
theorem text_back (most : Nat) (hm : most ≤ 255) (l rest : List UInt8) (hl : l.length ≤ most) (e : Int) :
    textVal most (txtL l ++ rest) = l ∧ textL most (txtL l ++ rest) = rest ∧ textE most (txtL l ++ rest) e = e := by
  have ht : txtL l ++ rest = be 1 l.length ++ (l ++ rest) := by simp [txtL, be]
  obtain ⟨n1, n2, n3⟩ := num_app 1 (.inl rfl) l.length (by omega) (by omega) (l ++ rest) e
  obtain ⟨r1, r2, r3⟩ := raw_app l.length l rest rfl e
  have e1 : numVal 1 (txtL l ++ rest) = l.length := by rw [ht]; exact n1
  have e2 : numL 1 (txtL l ++ rest) = l ++ rest := by rw [ht]; exact n2
  have e3 : numE 1 (txtL l ++ rest) e = e := by rw [ht]; exact n3
  have hmm : ¬ (most : Int) < numVal 1 (txtL l ++ rest) := by rw [e1]; omega
  refine ⟨?_, ?_, ?_⟩
  · rw [textVal, if_neg hmm, e1, e2, r1]
  · rw [textL, if_neg hmm, e1, e2, r2]
  · rw [textE, if_neg hmm, e1, e2, e3, r3]
theorem read_back (m : Mg) (h : m.is = true) (rest : List UInt8) : rdM (m.bytes ++ rest) = m ∧ rdL (m.bytes ++ rest) = rest ∧ rdOk (m.bytes ++ rest) 0 = true := by
  have hk := kind_in h
  have hx := Mg.key_le h
  have hy := Mg.val_le h
  have hb : m.bytes ++ rest = be 1 m.kind.toNat ++ (txtL m.key ++ (txtL m.val ++ rest)) := by simp [Mg.bytes]
  obtain ⟨n1, n2, n3⟩ := num_app 1 (.inl rfl) m.kind.toNat (by omega) (by omega) (txtL m.key ++ (txtL m.val ++ rest)) 0
  obtain ⟨x1, x2, x3⟩ := text_back 8 (by omega) m.key (txtL m.val ++ rest) hx 0
  obtain ⟨y1, y2, y3⟩ := text_back 16 (by omega) m.val rest hy 0
  rw [show ((1 : Nat) : Int) = 1 from rfl] at n1 n2 n3
  rw [show ((8 : Nat) : Int) = 8 from rfl] at x1 x2 x3
  rw [show ((16 : Nat) : Int) = 16 from rfl] at y1 y2 y3
  have hM : rdM (m.bytes ++ rest) = m := by
    rw [hb]
    unfold rdM
    rw [n1, n2, x1, x2, y1]
    exact Mg.ext' (by show ((m.kind.toNat : Nat) : Int) = m.kind; omega) rfl rfl
  refine ⟨hM, ?_, ?_⟩
  · rw [hb, rdL, n2, x2, y2]
  · rw [rdOk, hM, h]
    have : rdE (m.bytes ++ rest) 0 = 0 := by rw [hb, rdE, n2, n3, x2, x3, y3]
    simp [this]
end Go.Proofs.YtnalillebemglaaGreat
