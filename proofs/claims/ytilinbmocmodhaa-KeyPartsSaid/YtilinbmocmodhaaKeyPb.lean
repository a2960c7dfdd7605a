/-
  KeyParts: the ways out ahead of its loops; pivots that rise.
-/
import Derived.Test.YtilinbmocmodhaaKeyAwake
import Derived.Test.YtilinbmocmodhaaKeyH
import Derived.Test.YtilinbmocmodhaaKeyPa
namespace Go.Proofs.Ytilinbmocmodhaa
open Go.RowKit
set_option linter.unusedVariables false
set_option linter.unusedSimpArgs false

theorem rise_from : ∀ (ps : List (List UInt8)) (lo : List UInt8), (∀ i (h : i < ps.length), ps[i] ≠ [] ∧ (i = 0 → lo = [] ∨ lo < ps[i]) ∧ (∀ hi : 0 < i, ps[i - 1]'(by omega) < ps[i])) → Rise lo ps
  | [], lo, _ => trivial
  | p :: t, lo, h => by
    refine ⟨(h 0 (by simp)).1, (h 0 (by simp)).2.1 rfl, rise_from t p (fun i hi => ?_)⟩
    obtain ⟨h1, h2, h3⟩ := h (i + 1) (by simp; omega)
    refine ⟨by simpa using h1, fun e => ?_, fun hp => ?_⟩
    · subst e
      exact .inr (by simpa using h3 (by omega))
    · have := h3 (by omega)
      obtain ⟨j, rfl⟩ : ∃ j, i = j + 1 := ⟨i - 1, by omega⟩
      simpa using this

set_option maxHeartbeats 8000000 in
set_option maxRecDepth 100000 in
theorem parts_out (r o : Rg) (k : List UInt8) (ps : List (List UInt8)) (a : Option Addr) (cap : Nat) (w : World) (h : ¬ (ps.length ≤ 20 ∧ r.may = true ∧ o.may = true)) :
    Calls Try.prog 5 #[r.val, o.val, .string (str k), .slice a ps.length cap] w fun e w' => e = .returned (.bool true) ∧ Step noF w w' := by
  have e0 : r.val = .agg #[.string (str r.lo), .string (str r.hi)] := rfl
  have e1 : o.val = .agg #[.string (str o.lo), .string (str o.hi)] := rfl
  have K1 := may_any r
  have K2 := may_any o
  rw [e0] at K1
  rw [e1] at K2
  rw [e0, e1]
  clear e0 e1
  obtain ⟨W, hW⟩ : ∃ W, (w.alloc (.cells #[.string (str r.lo), .string (str r.hi)] 29)).alloc (.cells #[.string (str o.lo), .string (str o.hi)] 29) = W := ⟨_, rfl⟩
  have S1 : Hid (Step noF w W) := by rw [← hW]; exact ((Step.refl noF w).alloc _).alloc _
  have P1 : Hid (PairAt W w.heap.size 29 r.lo r.hi) := by rw [← hW]; exact (pair_new w 29 r.lo r.hi).alloc _
  have P2 : Hid (PairAt W (w.heap.size + 1) 29 o.lo o.hi) := by
    have := pair_new (w.alloc (.cells #[.string (str r.lo), .string (str r.hi)] 29)) 29 o.lo o.hi
    rw [← hW]
    rw [World.size_alloc] at this
    exact this
  have HW := hid hW
  clear hW
  by_cases h0 : ps.length ≤ 20
  · cases h1 : r.may
    · rw [h1] at K1
      clear h
      go_enter Try.func5, Try.ntmps5
      go_wp2_with fail
      rw [HW.out]
      refine (awake_any _).mono ?_
      rintro e w1 ⟨rfl, s1⟩
      have x0 := (P1.out.step s1).c0
      have x1 := (P1.out.step s1).c1
      go_wp2_with fail
      refine (K1 _).mono ?_
      rintro e w2 ⟨rfl, s2⟩
      go_wp2_with fail
      go_ret
      exact ⟨rfl, (S1.out.trans s1).trans s2⟩
    · cases h2 : o.may
      · rw [h1] at K1
        rw [h2] at K2
        clear h
        go_enter Try.func5, Try.ntmps5
        go_wp2_with fail
        rw [HW.out]
        refine (awake_any _).mono ?_
        rintro e w1 ⟨rfl, s1⟩
        have x0 := (P1.out.step s1).c0
        have x1 := (P1.out.step s1).c1
        go_wp2_with fail
        refine (K1 _).mono ?_
        rintro e w2 ⟨rfl, s2⟩
        have y0 := (P2.out.step (s1.trans s2)).c0
        have y1 := (P2.out.step (s1.trans s2)).c1
        go_wp2_with fail
        refine (K2 _).mono ?_
        rintro e w3 ⟨rfl, s3⟩
        go_wp2_with fail
        go_ret
        exact ⟨rfl, ((S1.out.trans s1).trans s2).trans s3⟩
      · exact absurd ⟨h0, h1, h2⟩ h
  · clear h
    go_enter Try.func5, Try.ntmps5
    go_wp2_with fail
    rw [HW.out]
    refine (awake_any _).mono ?_
    rintro e w1 ⟨rfl, s1⟩
    go_wp2_with fail
    go_ret
    exact ⟨rfl, S1.out.trans s1⟩
end Go.Proofs.Ytilinbmocmodhaa
