/-
  One deed, of both pools: Change.
-/
import Derived.Test.YtmijbplhmjledaaTkDoB
namespace Go.Proofs.Ytmijbplhmjledaa
open Go.RowKit
set_option linter.unusedVariables false
set_option linter.unusedSimpArgs false

set_option maxHeartbeats 8000000 in
set_option maxRecDepth 100000 in
theorem does3 (W w : World) (p u : Nat) (F G : Nat → Prop) (t : Tk) (hT : Two W w p u F G t t) (hl : t.hs.length ≤ 600000) (x : ActT) (hok : x.ok W) (hL : x.xs.length ≤ 10) (hN : x.zs.length ≤ 10) (hkind : x.kind = 3) :
    Calls Try.prog 10 #[.pointer (some ⟨p, 0, none⟩), .pointer (some ⟨u, 0, none⟩), .agg #[.int .i64 x.kind, .int .i64 x.A, .int .i64 x.B, .slice x.la x.xs.length x.lc, .slice x.na x.zs.length x.nc]] w fun e w' => e = .returned (.bool true) ∧ ∃ t' F' G', Two W w' p u F' G' t' t' ∧ Near t t' ∧ KpB w F G w' := by
  obtain ⟨o1, o2, o3, o4, o5⟩ := hok
  have sA : Step noF w (w.alloc (.cells #[.int .i64 x.kind, .int .i64 x.A, .int .i64 x.B, .slice x.la x.xs.length x.lc, .slice x.na x.zs.length x.nc] 32)) := (Step.refl _ _).alloc _
  have hA := hT.read sA
  have hXA : XA (w.alloc (.cells #[.int .i64 x.kind, .int .i64 x.A, .int .i64 x.B, .slice x.la x.xs.length x.lc, .slice x.na x.zs.length x.nc] 32)) w.heap.size x := block_alloc_new _ _
  have hFx : ¬ F w.heap.size := fun e => by have := hT.1.2.1.lt _ e; omega
  have hGx : ¬ G w.heap.size := fun e => by have := hT.2.1.1 _ e; omega
  have HO := hid (And.intro o2 (And.intro o3 o5))
  have HW := hid hT.1.2.1.1
  obtain ⟨xk, xA, xB, la, lc, es, na, nc, zs⟩ := x
  simp only at hL hN HO hA hXA sA o1 o4 ⊢
  have HXA := hid hXA
  obtain ⟨x0, x1, x2, x3, x4⟩ := hXA.cells
  simp only at x0 x1 x2 x3 x4
  have HKP : Hid (∀ V, Step noF (w.alloc (.cells #[.int .i64 xk, .int .i64 xA, .int .i64 xB, .slice la es.length lc, .slice na zs.length nc] 32)) V → KpB w F G V) := fun V s => ⟨(sA.trans s).size, fun k hk _ _ => (sA.trans s).block k hk (fun x => x)⟩
  have HA := hid hA
  have HS := hid (hT.1.1.trans sA)
  have hFW := hid hT.1.2.2
  have hGW := hid hT.2.2.1
  clear hA hXA hT sA o1 o2 o3 o4 o5
  simp only at hkind
  subst hkind
  obtain ⟨E, hE⟩ : ∃ E, changeE t xA xB = E := ⟨_, rfl⟩
  obtain ⟨t', ht'⟩ : ∃ t', changeT t xA xB = t' := ⟨_, rfl⟩
  have HN := hid (show Near t t' by rw [← ht']; exact near_change t xA xB)
  have CP : Hid (∀ V, KpB w F G V → Two W V p u F G t t → XA V w.heap.size ⟨3, xA, xB, la, lc, es, na, nc, zs⟩ → Calls Try.prog 26 #[.pointer (some ⟨p, 0, none⟩), .int .i64 xA, .int .i64 xB] V fun e w2 => e = .returned (.int .i64 E) ∧ ∃ F2, Two W w2 p u F2 G t' t ∧ XA w2 w.heap.size ⟨3, xA, xB, la, lc, es, na, nc, zs⟩ ∧ KpB w F G w2) := fun V hK hV hX => by
    refine (change_call V p F t hV.1.2.1 xA xB (by omega) E t' hE ht').mono ?_
    rintro e w2 ⟨rfl, h2⟩
    exact ⟨rfl, _, hV.p h2, hX.keep h2.1 hFx, hK.go h2.1 (fun k hk => .inl hk)⟩
  have CU : Hid (∀ V F2, KpB w F G V → Two W V p u F2 G t' t → XA V w.heap.size ⟨3, xA, xB, la, lc, es, na, nc, zs⟩ → Calls Try.prog 35 #[.pointer (some ⟨u, 0, none⟩), .int .i64 xA, .int .i64 xB] V fun e w2 => e = .returned (.int .i64 E) ∧ ∃ G2, Two W w2 p u F2 G2 t' t' ∧ KpB w F G w2) := fun V F2 hK hV hX => by
    refine (rchange_any V u G t HW.out hV.2.1 (by omega) xA xB E t' hE ht').mono ?_
    rintro e w2 ⟨rfl, h2⟩
    exact ⟨rfl, _, hV.u h2, hK.go h2.1 (fun k hk => .inr (.inl hk))⟩
  clear hE ht'
  go_enter Try.func10, Try.ntmps10
  go_wp2_with fail
  go_region_with (first | (refine (CP.out _ (by exact HKP.out _ (Step.refl _ _).drew) (by exact HA.out.read (Step.refl _ _).drew) (by exact HXA.out)).mono ?_; rintro e w2 ⟨rfl, F2, h2, hX2, hK2⟩; obtain ⟨z0, z1, z2, z3, z4⟩ := hX2.cells; simp only at z0 z1 z2 z3 z4; have HX2 := hid hX2; clear hX2) | (refine (CU.out _ F2 (by exact hK2) (by exact h2) (by exact HX2.out)).mono ?_; rintro e w3 ⟨rfl, G3, h3, hK3⟩))
  all_goals go_wp2_with fail
  all_goals go_ret
  all_goals exact ⟨rfl, t', _, _, h3, HN.out, hK3⟩
end Go.Proofs.Ytmijbplhmjledaa
