/-
  The walk of TicketNil.
-/
import Derived.Test.YtmijbplhmjledaaTkL
import Derived.Test.YtmijbplhmjledaaTkRA
namespace Go.Proofs.Ytmijbplhmjledaa
open Go.RowKit
set_option linter.unusedVariables false
set_option linter.unusedSimpArgs false

/-- Whether a pool can be: both say the same. -/
theorem news (w : World) (n f r : Int) : ∃ b : Bool, (Calls Try.prog 9 #[.int .i64 n, .int .i64 f, .int .i64 r] w fun e w' => ∃ x, e = .returned (.tuple #[.pointer x, .bool b]) ∧ Step noF w w') ∧
    ∀ w2, Calls Try.prog 8 #[.int .i64 n, .int .i64 f, .int .i64 r] w2 fun e w' => ∃ x : Option Addr, e = .returned (.pointer x) ∧ x.isSome = b ∧ Step noF w2 w' := by
  by_cases h : canNew n f r
  · obtain ⟨h1, h2, h3, h4, h5, h6⟩ := h
    obtain ⟨N, rfl⟩ := Int.eq_ofNat_of_zero_le (show 0 ≤ n by omega)
    obtain ⟨f', rfl⟩ := Int.eq_ofNat_of_zero_le h3
    refine ⟨true, ?_, fun w2 => ?_⟩
    · refine (rnew_any w N f' r N f' rfl rfl (by omega) (by omega) (by omega) h5 h6).mono ?_
      rintro e w' ⟨u, rfl, s, _⟩
      exact ⟨_, rfl, s⟩
    · refine (pnew_any w2 N f' r N f' rfl rfl (by omega) (by omega) (by omega) h5 h6).mono ?_
      rintro e w' ⟨u, rfl, _, s, _⟩
      exact ⟨_, rfl, rfl, s⟩
  · refine ⟨false, ?_, fun w2 => ?_⟩
    · refine (rnew_none w n f r h).mono ?_
      rintro e w' ⟨rfl, s⟩
      exact ⟨_, rfl, s⟩
    · refine (pnew_none w2 n f r h).mono ?_
      rintro e w' ⟨rfl, s⟩
      exact ⟨_, rfl, rfl, s⟩
set_option maxHeartbeats 4000000 in
set_option maxRecDepth 100000 in
theorem nil_walk (n f r a b : Int) (w : World) : Calls Try.prog 4 #[.int .i64 n, .int .i64 f, .int .i64 r, .int .i64 a, .int .i64 b] w fun e w' => e = .returned (.bool true) ∧ Step noF w w' := by
  go_enter Try.func4, Try.ntmps4
  go_wp2_with fail
  refine (awake_any w).mono ?_
  rintro e w1 ⟨rfl, s1⟩
  obtain ⟨bb, c1, c2⟩ := news w1 n f r
  have H2 := hid c2
  clear c2
  go_wp2_with fail
  refine c1.mono ?_
  rintro e w2 ⟨x, rfl, s2⟩
  go_wp2_with fail
  refine (H2.out w2).mono ?_
  rintro e w3 ⟨y, rfl, hy, s3⟩
  have S3 := (s1.trans s2).trans s3
  have main : ∀ w3, Step noF w w3 → True := fun _ _ => trivial
  clear s1 s2 s3 c1 main
  rcases y with _ | y
  · subst hy
    go_wp2_with fail
    refine (hold_nil w3 a).mono ?_
    rintro e w4 ⟨rfl, rfl⟩
    go_wp2_with fail
    refine (draw_nil w3 a).mono ?_
    rintro e w4 ⟨rfl, rfl⟩
    go_wp2_with fail
    refine (of_nil w3 a).mono ?_
    rintro e w4 ⟨rfl, rfl⟩
    go_wp2_with fail
    refine (use_nil w3 _).mono ?_
    rintro e w4 ⟨rfl, rfl⟩
    go_wp2_with fail
    refine (change_nil w3 a b).mono ?_
    rintro e w4 ⟨rfl, rfl⟩
    go_wp2_with fail
    refine (drop_nil w3 a).mono ?_
    rintro e w4 ⟨rfl, rfl⟩
    go_wp2_with fail
    refine (shadow_nil _ _).mono ?_
    rintro e w4 ⟨rfl, rfl⟩
    go_wp2_with fail
    refine (back_nil _ _).mono ?_
    rintro e w4 ⟨rfl, rfl⟩
    go_wp2_with fail
    refine (turn_nil _).mono ?_
    rintro e w4 ⟨rfl, rfl⟩
    go_wp2_with fail
    refine (kind_nil _ _).mono ?_
    rintro e w4 ⟨rfl, rfl⟩
    go_wp2_with fail
    refine (pfree_nil _).mono ?_
    rintro e w4 ⟨rfl, rfl⟩
    go_wp2_with fail
    refine (pheld_nil _).mono ?_
    rintro e w4 ⟨rfl, rfl⟩
    go_wp2_with fail
    refine (pleft_nil _).mono ?_
    rintro e w4 ⟨rfl, rfl⟩
    go_wp2_with fail
    refine (ids_nil _).mono ?_
    rintro e w4 ⟨rfl, rfl⟩
    go_wp2_with fail
    refine (late_nil _).mono ?_
    rintro e w4 ⟨rfl, rfl⟩
    go_wp2_with fail
    go_ret
    exact ⟨rfl, (S3.alloc _).alloc _⟩
  · subst hy
    go_wp2_with fail
    refine (hold_nil w3 a).mono ?_
    rintro e w4 ⟨rfl, rfl⟩
    go_wp2_with fail
    refine (draw_nil w3 a).mono ?_
    rintro e w4 ⟨rfl, rfl⟩
    go_wp2_with fail
    refine (of_nil w3 a).mono ?_
    rintro e w4 ⟨rfl, rfl⟩
    go_wp2_with fail
    refine (use_nil w3 _).mono ?_
    rintro e w4 ⟨rfl, rfl⟩
    go_wp2_with fail
    refine (change_nil w3 a b).mono ?_
    rintro e w4 ⟨rfl, rfl⟩
    go_wp2_with fail
    refine (drop_nil w3 a).mono ?_
    rintro e w4 ⟨rfl, rfl⟩
    go_wp2_with fail
    refine (shadow_nil _ _).mono ?_
    rintro e w4 ⟨rfl, rfl⟩
    go_wp2_with fail
    refine (back_nil _ _).mono ?_
    rintro e w4 ⟨rfl, rfl⟩
    go_wp2_with fail
    refine (turn_nil _).mono ?_
    rintro e w4 ⟨rfl, rfl⟩
    go_wp2_with fail
    refine (kind_nil _ _).mono ?_
    rintro e w4 ⟨rfl, rfl⟩
    go_wp2_with fail
    refine (pfree_nil _).mono ?_
    rintro e w4 ⟨rfl, rfl⟩
    go_wp2_with fail
    refine (pheld_nil _).mono ?_
    rintro e w4 ⟨rfl, rfl⟩
    go_wp2_with fail
    refine (pleft_nil _).mono ?_
    rintro e w4 ⟨rfl, rfl⟩
    go_wp2_with fail
    refine (ids_nil _).mono ?_
    rintro e w4 ⟨rfl, rfl⟩
    go_wp2_with fail
    refine (late_nil _).mono ?_
    rintro e w4 ⟨rfl, rfl⟩
    go_wp2_with fail
    go_ret
    exact ⟨rfl, (S3.alloc _).alloc _⟩
end Go.Proofs.Ytmijbplhmjledaa
