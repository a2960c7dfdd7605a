/-
  What the small functions of package msg do: OfPut, OfDel, OfAdd, Is, Weight, Apply.
-/
import Derived.Test.YtoobelcphcndoaaGreatKeyJ
namespace Go.Proofs.YtoobelcphcndoaaGreat
open Go.RowKit
set_option linter.unusedVariables false
set_option linter.unusedSimpArgs false

theorem ofPut_any (k v : List UInt8) (w : World) : Calls Tryz.prog 185 #[.string (str k), .string (str v)] w fun e w' => e = .returned (Mg.value ⟨1, k, v⟩) ∧ Step noF w w' := by
  go_enter Tryz.func185, Tryz.ntmps185
  go_wp2_with fail
  refine bodyPost_ret (v := .agg #[.int .i64 1, .string (str k), .string (str v)]) (by simp [results, Tryz.results185, go_sem, *]) rfl ⟨rfl, (Step.refl noF w).alloc _⟩
theorem isValOf_any (k : Int) (v : List UInt8) (hv : v.length ≤ maxLen) (w : World) : Calls Tryz.prog 181 #[.int .i64 k, .string (str v)] w fun e w' => e = .returned (.bool (isV k v)) ∧ Step noF w w' := by
  have hE := same_str
  have h0 := nil_str
  have c1 := isVal_any v
  have c2 := keyNumber_any v hv
  unfold numV2 at c2
  by_cases h1 : k = 1
  · have e : isV k v = decide (v.length ≤ 16) := by rw [isV, if_pos h1]
    rw [e]
    go_enter Tryz.func181, Tryz.ntmps181
    go_wp2_with fail
    refine (c1 _).mono ?_
    rintro e w' ⟨rfl, rfl⟩
    go_wp2_with fail
    go_ret
    exact ⟨rfl, Step.refl _ _⟩
  · by_cases h2 : k = 2
    · have e : isV k v = decide (v = []) := by rw [isV, if_neg h1, if_pos h2]
      rw [e]
      go_enter Tryz.func181, Tryz.ntmps181
      go_wp2_with fail
      go_ret
      exact ⟨rfl, Step.refl _ _⟩
    · by_cases h3 : k = 3
      · have e : isV k v = decide (v.length = 8) := by rw [isV, if_neg h1, if_neg h2, if_pos h3]
        rw [e]
        go_enter Tryz.func181, Tryz.ntmps181
        go_wp2_with fail
        refine (c2 _).mono ?_
        rintro e w2 ⟨rfl, s2⟩
        go_wp2_with fail
        go_ret
        exact ⟨rfl, s2⟩
      · have e : isV k v = false := by rw [isV, if_neg h1, if_neg h2, if_neg h3]
        rw [e]
        go_enter Tryz.func181, Tryz.ntmps181
        go_wp2_with fail
        go_ret
        exact ⟨rfl, Step.refl _ _⟩
theorem mis_any (m : Mg) (hv : m.val.length ≤ maxLen) (w : World) : Calls Tryz.prog 161 #[m.value] w fun e w' => e = .returned (.bool m.is) ∧ Step noF w w' := by
  have c1 := is_any m.key
  have c2 := isValOf_any m.kind m.val hv
  have e0 : m.value = .agg #[.int .i64 m.kind, .string (str m.key), .string (str m.val)] := rfl
  rw [e0]
  cases h1 : isK m.key
  · rw [h1] at c1
    go_enter Tryz.func161, Tryz.ntmps161
    go_wp2_with fail
    refine (c1 _).mono ?_
    rintro e w' ⟨rfl, rfl⟩
    go_wp2_with fail
    go_ret
    exact ⟨ret_bool (by simp [Mg.is, h1]), (Step.refl noF w).alloc _⟩
  · rw [h1] at c1
    go_enter Tryz.func161, Tryz.ntmps161
    go_wp2_with fail
    refine (c1 _).mono ?_
    rintro e w' ⟨rfl, rfl⟩
    go_wp2_with fail
    refine (c2 _).mono ?_
    rintro e w2 ⟨rfl, s2⟩
    go_wp2_with fail
    go_ret
    exact ⟨ret_bool (by simp [Mg.is, h1]), ((Step.refl noF w).alloc _).trans s2⟩
theorem isNot_any (m : Mg) (hv : m.val.length ≤ maxLen) (w : World) : Calls Tryz.prog 134 #[m.value] w fun e w' => e = .returned (.bool (!m.is)) ∧ Step noF w w' := by
  have c1 := mis_any m hv
  have e0 : m.value = .agg #[.int .i64 m.kind, .string (str m.key), .string (str m.val)] := rfl
  rw [e0] at c1 ⊢
  obtain ⟨B, hB⟩ : ∃ B, m.is = B := ⟨_, rfl⟩
  rw [hB] at c1 ⊢
  go_enter Tryz.func134, Tryz.ntmps134
  go_wp2_with fail
  refine (c1 _).mono ?_
  rintro e w2 ⟨rfl, s2⟩
  go_wp2_with fail
  go_ret
  exact ⟨rfl, ((Step.refl noF w).alloc _).trans s2⟩
theorem weight_any (m : Mg) (hk : m.key.length ≤ 1000000) (hv : m.val.length ≤ 1000000) (w : World) : Calls Tryz.prog 117 #[m.value] w fun e w' => e = .returned (.int .i64 (3 + m.key.length + m.val.length : Nat)) ∧ Step noF w w' := by
  have hz := str_size
  have e0 : m.value = .agg #[.int .i64 m.kind, .string (str m.key), .string (str m.val)] := rfl
  rw [e0]
  go_enter Tryz.func117, Tryz.ntmps117
  go_wp2_with fail
  go_ret
  exact ⟨ret_int (by omega), (Step.refl noF w).alloc _⟩
theorem more_any (v a : List UInt8) (hv : v.length ≤ maxLen) (ha : a.length ≤ maxLen) (w : World) : Calls Tryz.prog 194 #[.string (str v), .string (str a)] w fun e w' => e = .returned (.string (str (moreL v a))) ∧ Step noF w w' := by
  have c1 := keyNumber_any v hv
  have c2 := keyNumber_any a ha
  have l1 := numOf_lt v
  have l2 := numOf_lt a
  have hS : Hid (sumL v a = be 8 ((numOf v + numOf a) % 18446744073709551616)) := rfl
  have c3 := keyValue_any ((numOf v + numOf a) % 18446744073709551616) (by omega)
  unfold numV2 at c1 c2
  obtain ⟨x, hx⟩ : ∃ x, numOf v = x := ⟨_, rfl⟩
  obtain ⟨y, hy⟩ : ∃ y, numOf a = y := ⟨_, rfl⟩
  rw [hx] at c1 c3 l1 hS
  rw [hy] at c2 c3 l2 hS
  obtain ⟨z, hz⟩ : ∃ z, (x + y) % 18446744073709551616 = z := ⟨_, rfl⟩
  rw [hz] at c3 hS
  have hz2 : ((x : Int) + (y : Int)) % 18446744073709551616 = (z : Int) := by omega
  have hz3 : IntKind.u64.wrap ((x : Int) + (y : Int)) = (z : Int) := by
    simp [IntKind.wrap, IntKind.bits, IntKind.signed]
    omega
  by_cases h1 : v.length = 8
  · have d1 : decide (v.length = 8) = true := by simp [h1]
    rw [d1] at c1
    by_cases h2 : a.length = 8
    · have d2 : decide (a.length = 8) = true := by simp [h2]
      rw [d2] at c2
      have HM : Hid (moreL v a = be 8 z) := by show _ = _; rw [moreL_eight v a h1 h2]; exact hS.out
      clear hx hy d1 d2 hS hz h1 h2
      go_enter Tryz.func194, Tryz.ntmps194
      go_wp2_with fail
      refine (c1 _).mono ?_
      rintro e w2 ⟨rfl, s2⟩
      go_wp2_with fail
      refine (c2 _).mono ?_
      rintro e w3 ⟨rfl, s3⟩
      go_wp2_with fail
      refine (c3 _).mono ?_
      rintro e w4 ⟨rfl, s4⟩
      go_wp2_with fail
      go_ret
      exact ⟨by rw [HM.out]; rfl, (s2.trans s3).trans s4⟩
    · have d2 : decide (a.length = 8) = false := by simp [h2]
      rw [d2] at c2
      have HM : Hid (moreL v a = v) := by show _ = _; rw [moreL, if_neg (fun q => h2 q.2)]
      clear hx hy d1 d2 hS hz h1 h2
      go_enter Tryz.func194, Tryz.ntmps194
      go_wp2_with fail
      refine (c1 _).mono ?_
      rintro e w2 ⟨rfl, s2⟩
      go_wp2_with fail
      refine (c2 _).mono ?_
      rintro e w3 ⟨rfl, s3⟩
      go_wp2_with fail
      go_ret
      exact ⟨by rw [HM.out]; rfl, s2.trans s3⟩
  · have d1 : decide (v.length = 8) = false := by simp [h1]
    rw [d1] at c1
    have HM : Hid (moreL v a = v) := by show _ = _; rw [moreL, if_neg (fun q => h1 q.1)]
    obtain ⟨d, hd⟩ : ∃ d, decide (a.length = 8) = d := ⟨_, rfl⟩
    rw [hd] at c2
    clear hx hy d1 hS hz h1 hd
    go_enter Tryz.func194, Tryz.ntmps194
    go_wp2_with fail
    refine (c1 _).mono ?_
    rintro e w2 ⟨rfl, s2⟩
    go_wp2_with fail
    refine (c2 _).mono ?_
    rintro e w3 ⟨rfl, s3⟩
    go_wp2_with fail
    go_ret
    exact ⟨by rw [HM.out]; rfl, s2.trans s3⟩
/-- What Apply answers. -/
def Mg.appR (m : Mg) (v : List UInt8) (has : Bool) : Value := .tuple #[.string (str (m.appV v has)), .bool (m.appH has)]
theorem appR_no {m : Mg} (h : m.is = false) (v : List UInt8) (has : Bool) : m.appR v has = .tuple #[.string (str (if has then v else [])), .bool has] := by
  simp [Mg.appR, Mg.appV, Mg.appH, h]
theorem appR_del {m : Mg} (h : m.is = true) (h2 : m.kind = 2) (v : List UInt8) (has : Bool) : m.appR v has = .tuple #[.string (str []), .bool false] := by
  simp [Mg.appR, Mg.appV, Mg.appH, h, h2]
theorem appR_add {m : Mg} (h : m.is = true) (h2 : m.kind = 3) (v : List UInt8) : m.appR v true = .tuple #[.string (str (moreL v m.val)), .bool true] := by
  simp [Mg.appR, Mg.appV, Mg.appH, h, h2]
theorem appR_val {m : Mg} (h : m.is = true) (h2 : m.kind ≠ 2) (v : List UInt8) (has : Bool) (h3 : m.kind = 3 → has = false) : m.appR v has = .tuple #[.string (str m.val), .bool true] := by
  have : ¬ (m.kind = 3 ∧ has = true) := by rintro ⟨a, b⟩; rw [h3 a] at b; cases b
  simp [Mg.appR, Mg.appV, Mg.appH, h, h2, this]
set_option maxHeartbeats 1000000 in
theorem apply_any (m : Mg) (hm : m.val.length ≤ maxLen) (v : List UInt8) (hv : v.length ≤ maxLen) (has : Bool) (w : World) : Calls Tryz.prog 184 #[m.value, .string (str v), .bool has] w fun e w' => e = .returned (m.appR v has) ∧ Step noF w w' := by
  have h0 := nil_str
  obtain ⟨k, x, y⟩ := m
  have c1 := isNot_any ⟨k, x, y⟩ hm
  have c2 := more_any v y hv hm
  have e0 : (Mg.mk k x y).value = .agg #[.int .i64 k, .string (str x), .string (str y)] := rfl
  rw [e0] at c1 ⊢
  have T1 := hid (trip_new w 73 ⟨k, x, y⟩)
  cases h1 : (Mg.mk k x y).is
  · rw [h1] at c1
    have HR := hid (appR_no h1 v)
    clear h1
    cases has
    all_goals
      go_enter Tryz.func184, Tryz.ntmps184
      go_wp2_with fail
      refine (c1 _).mono ?_
      rintro e w2 ⟨rfl, s2⟩
      go_wp2_with fail
      go_ret2
      exact ⟨by rw [HR.out]; rfl, ((Step.refl noF w).alloc _).trans s2⟩
  · rw [h1] at c1
    by_cases h2 : k = 2
    · subst h2
      have HR := hid (appR_del h1 rfl v)
      clear h1
      cases has
      all_goals
        go_enter Tryz.func184, Tryz.ntmps184
        go_wp2_with fail
        refine (c1 _).mono ?_
        rintro e w2 ⟨rfl, s2⟩
        obtain ⟨d0, d1, d2, f0, f1, f2⟩ := (T1.out.step s2).all
        go_wp2_with fail
        go_ret2
        exact ⟨by rw [HR.out]; rfl, ((Step.refl noF w).alloc _).trans s2⟩
    · have g2 : (k == 2) = false := by rw [beq_eq_false_iff_ne]; exact h2
      cases has
      · have HR := hid (appR_val h1 h2 v false (fun _ => rfl))
        clear h1
        by_cases h3 : k = 3
        all_goals
          try subst h3
          go_enter Tryz.func184, Tryz.ntmps184
          go_wp2_with fail
          refine (c1 _).mono ?_
          rintro e w2 ⟨rfl, s2⟩
          obtain ⟨d0, d1, d2, f0, f1, f2⟩ := (T1.out.step s2).all
          go_wp2_with fail
          go_ret2
          exact ⟨by rw [HR.out]; rfl, ((Step.refl noF w).alloc _).trans s2⟩
      · by_cases h3 : k = 3
        · subst h3
          have HR := hid (appR_add h1 rfl v)
          clear h1
          go_enter Tryz.func184, Tryz.ntmps184
          go_wp2_with fail
          refine (c1 _).mono ?_
          rintro e w2 ⟨rfl, s2⟩
          obtain ⟨d0, d1, d2, f0, f1, f2⟩ := (T1.out.step s2).all
          go_wp2_with fail
          refine (c2 _).mono ?_
          rintro e w3 ⟨rfl, s3⟩
          go_wp2_with fail
          go_ret2
          exact ⟨by rw [HR.out]; rfl, (((Step.refl noF w).alloc _).trans s2).trans s3⟩
        · have HR := hid (appR_val h1 h2 v true (fun x => absurd x h3))
          have g3 : (k == 3) = false := by rw [beq_eq_false_iff_ne]; exact h3
          clear h1
          go_enter Tryz.func184, Tryz.ntmps184
          go_wp2_with fail
          refine (c1 _).mono ?_
          rintro e w2 ⟨rfl, s2⟩
          obtain ⟨d0, d1, d2, f0, f1, f2⟩ := (T1.out.step s2).all
          go_wp2_with fail
          go_ret2
          exact ⟨by rw [HR.out]; rfl, ((Step.refl noF w).alloc _).trans s2⟩
end Go.Proofs.YtoobelcphcndoaaGreat
