/-
  KeyRanges.
-/
import Derived.Test.YtilinbmocmodhaaKeyAwake
import Derived.Test.YtilinbmocmodhaaKeyH
import Derived.Test.YtilinbmocmodhaaKeyI
import Derived.Test.YtilinbmocmodhaaKeyRaR
import Derived.Test.YtilinbmocmodhaaKeyRbR
namespace Go.Proofs.Ytilinbmocmodhaa
open Go.RowKit
set_option linter.unusedVariables false
set_option linter.unusedSimpArgs false

set_option maxHeartbeats 8000000 in
set_option maxRecDepth 100000 in
theorem ranges_out (r o : Rg) (k : List UInt8) (ps : List (List UInt8)) (a : Option Addr) (cap : Nat) (w : World)
    (h : ¬ (r.lo.length ≤ 1024 ∧ r.hi.length ≤ 1024 ∧ o.lo.length ≤ 1024 ∧ o.hi.length ≤ 1024 ∧ k.length ≤ 1024 ∧ ps.length ≤ 20)) :
    Calls Try.prog 4 #[r.val, o.val, .string (str k), .slice a ps.length cap] w fun e w' => e = .returned (.bool true) ∧ Step noF w w' := by
  have e0 : r.val = .agg #[.string (str r.lo), .string (str r.hi)] := rfl
  have e1 : o.val = .agg #[.string (str o.lo), .string (str o.hi)] := rfl
  have hz := str_size
  rw [e0, e1]
  clear e0 e1
  obtain ⟨W, hW⟩ : ∃ W, (w.alloc (.cells #[.string (str r.lo), .string (str r.hi)] 29)).alloc (.cells #[.string (str o.lo), .string (str o.hi)] 29) = W := ⟨_, rfl⟩
  have S1 : Hid (Step noF w W) := by rw [← hW]; exact ((Step.refl noF w).alloc _).alloc _
  have P1 : Hid (PairAt W w.heap.size 29 r.lo r.hi) := by rw [← hW]; exact (pair_new w 29 r.lo r.hi).alloc _
  have P2 : Hid (PairAt W (w.heap.size + 1) 29 o.lo o.hi) := by
    have := pair_new (w.alloc (.cells #[.string (str r.lo), .string (str r.hi)] 29)) 29 o.lo o.hi
    rw [← hW]
    rw [World.size_alloc] at this
    exact this
  have HW := hid hW
  clear hW
  by_cases h0 : r.lo.length ≤ 1024
  rotate_left
  · clear h
    go_enter Try.func4, Try.ntmps4
    go_wp2_with fail
    rw [HW.out]
    refine (awake_any _).mono ?_
    rintro e w1 ⟨rfl, s1⟩
    have x0 := (P1.out.step s1).c0
    have x1 := (P1.out.step s1).c1
    have y0 := (P2.out.step s1).c0
    have y1 := (P2.out.step s1).c1
    go_wp2_with fail
    go_ret
    exact ⟨rfl, S1.out.trans s1⟩
  by_cases h1 : r.hi.length ≤ 1024
  rotate_left
  · clear h
    go_enter Try.func4, Try.ntmps4
    go_wp2_with fail
    rw [HW.out]
    refine (awake_any _).mono ?_
    rintro e w1 ⟨rfl, s1⟩
    have x0 := (P1.out.step s1).c0
    have x1 := (P1.out.step s1).c1
    have y0 := (P2.out.step s1).c0
    have y1 := (P2.out.step s1).c1
    go_wp2_with fail
    go_ret
    exact ⟨rfl, S1.out.trans s1⟩
  by_cases h2 : o.lo.length ≤ 1024
  rotate_left
  · clear h
    go_enter Try.func4, Try.ntmps4
    go_wp2_with fail
    rw [HW.out]
    refine (awake_any _).mono ?_
    rintro e w1 ⟨rfl, s1⟩
    have x0 := (P1.out.step s1).c0
    have x1 := (P1.out.step s1).c1
    have y0 := (P2.out.step s1).c0
    have y1 := (P2.out.step s1).c1
    go_wp2_with fail
    go_ret
    exact ⟨rfl, S1.out.trans s1⟩
  by_cases h3 : o.hi.length ≤ 1024
  rotate_left
  · clear h
    go_enter Try.func4, Try.ntmps4
    go_wp2_with fail
    rw [HW.out]
    refine (awake_any _).mono ?_
    rintro e w1 ⟨rfl, s1⟩
    have x0 := (P1.out.step s1).c0
    have x1 := (P1.out.step s1).c1
    have y0 := (P2.out.step s1).c0
    have y1 := (P2.out.step s1).c1
    go_wp2_with fail
    go_ret
    exact ⟨rfl, S1.out.trans s1⟩
  by_cases h4 : k.length ≤ 1024
  rotate_left
  · clear h
    go_enter Try.func4, Try.ntmps4
    go_wp2_with fail
    rw [HW.out]
    refine (awake_any _).mono ?_
    rintro e w1 ⟨rfl, s1⟩
    have x0 := (P1.out.step s1).c0
    have x1 := (P1.out.step s1).c1
    have y0 := (P2.out.step s1).c0
    have y1 := (P2.out.step s1).c1
    go_wp2_with fail
    go_ret
    exact ⟨rfl, S1.out.trans s1⟩
  have h5 : ¬ ps.length ≤ 20 := fun hx => h ⟨h0, h1, h2, h3, h4, hx⟩
  clear h
  go_enter Try.func4, Try.ntmps4
  go_wp2_with fail
  rw [HW.out]
  refine (awake_any _).mono ?_
  rintro e w1 ⟨rfl, s1⟩
  have x0 := (P1.out.step s1).c0
  have x1 := (P1.out.step s1).c1
  have y0 := (P2.out.step s1).c0
  have y1 := (P2.out.step s1).c1
  go_wp2_with fail
  go_ret
  exact ⟨rfl, S1.out.trans s1⟩
end Go.Proofs.Ytilinbmocmodhaa
