/-
  TicketExact answers true for every three numbers and every row of deeds, of whatever length and content, and leaves them as they were. No condition.
-/
import Derived.Test.YtmijbplhmjledaaTkDo3
import Derived.Test.YtmijbplhmjledaaTkEx
import Derived.Test.YtmijbplhmjledaaTkActs
namespace Go.Proofs.Ytmijbplhmjledaa
open Go.RowKit
set_option linter.unusedVariables false
set_option linter.unusedSimpArgs false

set_option maxHeartbeats 8000000 in
set_option maxRecDepth 100000 in
theorem does1 (W w : World) (p u : Nat) (F G : Nat → Prop) (t : Tk) (hT : Two W w p u F G t t) (hl : t.hs.length ≤ 600000) (x : ActT) (hok : x.ok W) (hL : x.xs.length ≤ 10) (hN : x.zs.length ≤ 10) (hkind : x.kind = 1) :
    Calls Try.prog 10 #[.pointer (some ⟨p, 0, none⟩), .pointer (some ⟨u, 0, none⟩), .agg #[.int .i64 x.kind, .int .i64 x.A, .int .i64 x.B, .slice x.la x.xs.length x.lc, .slice x.na x.zs.length x.nc]] w fun e w' => e = .returned (.bool true) ∧ ∃ t' F' G', Two W w' p u F' G' t' t' ∧ Near t t' ∧ KpB w F G w' := by
  obtain ⟨o1, o2, o3, o4, o5⟩ := hok
  have sA : Step noF w (w.alloc (.cells #[.int .i64 x.kind, .int .i64 x.A, .int .i64 x.B, .slice x.la x.xs.length x.lc, .slice x.na x.zs.length x.nc] 32)) := (Step.refl _ _).alloc _
  have hA := hT.read sA
  have hXA : XA (w.alloc (.cells #[.int .i64 x.kind, .int .i64 x.A, .int .i64 x.B, .slice x.la x.xs.length x.lc, .slice x.na x.zs.length x.nc] 32)) w.heap.size x := block_alloc_new _ _
  have hFx : ¬ F w.heap.size := fun e => by have := hT.1.2.1.lt _ e; omega
  have hGx : ¬ G w.heap.size := fun e => by have := hT.2.1.1 _ e; omega
  have HO := hid (And.intro o2 (And.intro o3 o5))
  have HW := hid hT.1.2.1.1
  obtain ⟨xk, xA, xB, la, lc, es, na, nc, zs⟩ := x
  simp only at hL hN HO hA hXA sA o1 o4 ⊢
  have HXA := hid hXA
  obtain ⟨x0, x1, x2, x3, x4⟩ := hXA.cells
  simp only at x0 x1 x2 x3 x4
  have HKP : Hid (∀ V, Step noF (w.alloc (.cells #[.int .i64 xk, .int .i64 xA, .int .i64 xB, .slice la es.length lc, .slice na zs.length nc] 32)) V → KpB w F G V) := fun V s => ⟨(sA.trans s).size, fun k hk _ _ => (sA.trans s).block k hk (fun x => x)⟩
  have HA := hid hA
  have HS := hid (hT.1.1.trans sA)
  have hFW := hid hT.1.2.2
  have hGW := hid hT.2.2.1
  clear hA hXA hT sA o1 o2 o3 o4 o5
  simp only at hkind
  subst hkind
  obtain ⟨E, hE⟩ : ∃ E, useE t es = E := ⟨_, rfl⟩
  obtain ⟨t', ht'⟩ : ∃ t', useT t es = t' := ⟨_, rfl⟩
  have HN := hid (show Near t t' by rw [← ht']; exact near_use t es)
  have CP : Hid (∀ V, KpB w F G V → Two W V p u F G t t → XA V w.heap.size ⟨1, xA, xB, la, lc, es, na, nc, zs⟩ → Calls Try.prog 25 #[.pointer (some ⟨p, 0, none⟩), .slice la es.length lc] V fun e w2 => e = .returned (.int .i64 E) ∧ ∃ F2, Two W w2 p u F2 G t' t ∧ XA w2 w.heap.size ⟨1, xA, xB, la, lc, es, na, nc, zs⟩ ∧ KpB w F G w2) := fun V hK hV hX => by
    refine (use_call V p F t hV.1.2.1 la lc es.length es rfl (HO.out.2.1.step hV.1.1) (extF HO.out.2.1 hV.1.2.2) HO.out.1 (by omega) E t' hE ht').mono ?_
    rintro e w2 ⟨rfl, h2⟩
    exact ⟨rfl, _, hV.p h2, hX.keep h2.1 hFx, hK.go h2.1 (fun k hk => .inl hk)⟩
  have CU : Hid (∀ V F2, KpB w F G V → Two W V p u F2 G t' t → XA V w.heap.size ⟨1, xA, xB, la, lc, es, na, nc, zs⟩ → Calls Try.prog 33 #[.pointer (some ⟨u, 0, none⟩), .slice la es.length lc] V fun e w2 => e = .returned (.int .i64 E) ∧ ∃ G2, Two W w2 p u F2 G2 t' t' ∧ KpB w F G w2) := fun V F2 hK hV hX => by
    refine (ruse_any V u G t HW.out hV.2.1 (by omega) la lc es.length es rfl (HO.out.2.1.step hV.1.1) HO.out.1 (by omega) E t' hE ht').mono ?_
    rintro e w2 ⟨rfl, h2⟩
    exact ⟨rfl, _, hV.u h2, hK.go h2.1 (fun k hk => .inr (.inl hk))⟩
  clear hE ht'
  go_enter Try.func10, Try.ntmps10
  go_wp2_with fail
  go_region_with (first | (refine (CP.out _ (by exact HKP.out _ (Step.refl _ _).drew) (by exact HA.out.read (Step.refl _ _).drew) (by exact HXA.out)).mono ?_; rintro e w2 ⟨rfl, F2, h2, hX2, hK2⟩; obtain ⟨z0, z1, z2, z3, z4⟩ := hX2.cells; simp only at z0 z1 z2 z3 z4; have HX2 := hid hX2; clear hX2) | (refine (CU.out _ F2 (by exact hK2) (by exact h2) (by exact HX2.out)).mono ?_; rintro e w3 ⟨rfl, G3, h3, hK3⟩))
  all_goals go_wp2_with fail
  all_goals go_ret
  all_goals exact ⟨rfl, t', _, _, h3, HN.out, hK3⟩
set_option maxHeartbeats 8000000 in
set_option maxRecDepth 100000 in
theorem does2 (W w : World) (p u : Nat) (F G : Nat → Prop) (t : Tk) (hT : Two W w p u F G t t) (hl : t.hs.length ≤ 600000) (x : ActT) (hok : x.ok W) (hL : x.xs.length ≤ 10) (hN : x.zs.length ≤ 10) (hkind : x.kind = 2) :
    Calls Try.prog 10 #[.pointer (some ⟨p, 0, none⟩), .pointer (some ⟨u, 0, none⟩), .agg #[.int .i64 x.kind, .int .i64 x.A, .int .i64 x.B, .slice x.la x.xs.length x.lc, .slice x.na x.zs.length x.nc]] w fun e w' => e = .returned (.bool true) ∧ ∃ t' F' G', Two W w' p u F' G' t' t' ∧ Near t t' ∧ KpB w F G w' := by
  obtain ⟨o1, o2, o3, o4, o5⟩ := hok
  have sA : Step noF w (w.alloc (.cells #[.int .i64 x.kind, .int .i64 x.A, .int .i64 x.B, .slice x.la x.xs.length x.lc, .slice x.na x.zs.length x.nc] 32)) := (Step.refl _ _).alloc _
  have hA := hT.read sA
  have hXA : XA (w.alloc (.cells #[.int .i64 x.kind, .int .i64 x.A, .int .i64 x.B, .slice x.la x.xs.length x.lc, .slice x.na x.zs.length x.nc] 32)) w.heap.size x := block_alloc_new _ _
  have hFx : ¬ F w.heap.size := fun e => by have := hT.1.2.1.lt _ e; omega
  have hGx : ¬ G w.heap.size := fun e => by have := hT.2.1.1 _ e; omega
  have HO := hid (And.intro o2 (And.intro o3 o5))
  have HW := hid hT.1.2.1.1
  obtain ⟨xk, xA, xB, la, lc, es, na, nc, zs⟩ := x
  simp only at hL hN HO hA hXA sA o1 o4 ⊢
  have HXA := hid hXA
  obtain ⟨x0, x1, x2, x3, x4⟩ := hXA.cells
  simp only at x0 x1 x2 x3 x4
  have HKP : Hid (∀ V, Step noF (w.alloc (.cells #[.int .i64 xk, .int .i64 xA, .int .i64 xB, .slice la es.length lc, .slice na zs.length nc] 32)) V → KpB w F G V) := fun V s => ⟨(sA.trans s).size, fun k hk _ _ => (sA.trans s).block k hk (fun x => x)⟩
  have HA := hid hA
  have HS := hid (hT.1.1.trans sA)
  have hFW := hid hT.1.2.2
  have hGW := hid hT.2.2.1
  clear hA hXA hT sA o1 o2 o3 o4 o5
  simp only at hkind
  subst hkind
  obtain ⟨I, hI⟩ : ∃ I, holdI t xA = I := ⟨_, rfl⟩
  obtain ⟨E, hE⟩ : ∃ E, holdE t xA = E := ⟨_, rfl⟩
  obtain ⟨t', ht'⟩ : ∃ t', holdT t xA = t' := ⟨_, rfl⟩
  have HN := hid (show Near t t' by rw [← ht']; exact near_hold t xA)
  go_enter Try.func10, Try.ntmps10
  go_wp2_with fail
  refine (hold_call _ p F t (by exact HA.out.1.2.1) xA (by omega) I E t' hI hE ht').mono ?_
  rintro e w2 ⟨rfl, h2⟩
  have T2 := HA.out.p h2
  have hK2 := (HKP.out _ (Step.refl _ _)).go h2.1 (fun k hk => .inl hk)
  obtain ⟨z0, z1, z2, z3, z4⟩ := (HXA.out.keep h2.1 hFx).cells
  simp only at z0 z1 z2 z3 z4
  clear h2
  go_wp2_with fail
  refine (rhold_any w2 u G t HW.out T2.2.1 (by omega) xA I E t' hI hE ht').mono ?_
  rintro e w3 ⟨rfl, h3⟩
  have T3 := T2.u h3
  have hK3 := hK2.go h3.1 (fun k hk => .inr (.inl hk))
  clear h3 T2
  go_wp2_with fail
  go_ret
  exact ⟨rfl, t', _, _, T3, HN.out, hK3⟩

set_option maxHeartbeats 8000000 in
set_option maxRecDepth 100000 in
theorem does4 (W w : World) (p u : Nat) (F G : Nat → Prop) (t : Tk) (hT : Two W w p u F G t t) (hl : t.hs.length ≤ 600000) (x : ActT) (hok : x.ok W) (hL : x.xs.length ≤ 10) (hN : x.zs.length ≤ 10) (hkind : x.kind = 4) :
    Calls Try.prog 10 #[.pointer (some ⟨p, 0, none⟩), .pointer (some ⟨u, 0, none⟩), .agg #[.int .i64 x.kind, .int .i64 x.A, .int .i64 x.B, .slice x.la x.xs.length x.lc, .slice x.na x.zs.length x.nc]] w fun e w' => e = .returned (.bool true) ∧ ∃ t' F' G', Two W w' p u F' G' t' t' ∧ Near t t' ∧ KpB w F G w' := by
  obtain ⟨o1, o2, o3, o4, o5⟩ := hok
  have sA : Step noF w (w.alloc (.cells #[.int .i64 x.kind, .int .i64 x.A, .int .i64 x.B, .slice x.la x.xs.length x.lc, .slice x.na x.zs.length x.nc] 32)) := (Step.refl _ _).alloc _
  have hA := hT.read sA
  have hXA : XA (w.alloc (.cells #[.int .i64 x.kind, .int .i64 x.A, .int .i64 x.B, .slice x.la x.xs.length x.lc, .slice x.na x.zs.length x.nc] 32)) w.heap.size x := block_alloc_new _ _
  have hFx : ¬ F w.heap.size := fun e => by have := hT.1.2.1.lt _ e; omega
  have hGx : ¬ G w.heap.size := fun e => by have := hT.2.1.1 _ e; omega
  have HO := hid (And.intro o2 (And.intro o3 o5))
  have HW := hid hT.1.2.1.1
  obtain ⟨xk, xA, xB, la, lc, es, na, nc, zs⟩ := x
  simp only at hL hN HO hA hXA sA o1 o4 ⊢
  have HXA := hid hXA
  obtain ⟨x0, x1, x2, x3, x4⟩ := hXA.cells
  simp only at x0 x1 x2 x3 x4
  have HKP : Hid (∀ V, Step noF (w.alloc (.cells #[.int .i64 xk, .int .i64 xA, .int .i64 xB, .slice la es.length lc, .slice na zs.length nc] 32)) V → KpB w F G V) := fun V s => ⟨(sA.trans s).size, fun k hk _ _ => (sA.trans s).block k hk (fun x => x)⟩
  have HA := hid hA
  have HS := hid (hT.1.1.trans sA)
  have hFW := hid hT.1.2.2
  have hGW := hid hT.2.2.1
  clear hA hXA hT sA o1 o2 o3 o4 o5
  simp only at hkind
  subst hkind
  obtain ⟨I, hI⟩ : ∃ I, drawI t xA = I := ⟨_, rfl⟩
  obtain ⟨E, hE⟩ : ∃ E, drawE t xA = E := ⟨_, rfl⟩
  obtain ⟨t', ht'⟩ : ∃ t', drawT t xA = t' := ⟨_, rfl⟩
  have HN := hid (show Near t t' by rw [← ht']; exact near_draw t xA)
  go_enter Try.func10, Try.ntmps10
  go_wp2_with fail
  refine (draw_call _ p F t (by exact HA.out.1.2.1) xA (by omega) I E t' hI hE ht').mono ?_
  rintro e w2 ⟨rfl, h2⟩
  have T2 := HA.out.p h2
  have hK2 := (HKP.out _ (Step.refl _ _)).go h2.1 (fun k hk => .inl hk)
  obtain ⟨z0, z1, z2, z3, z4⟩ := (HXA.out.keep h2.1 hFx).cells
  simp only at z0 z1 z2 z3 z4
  clear h2
  go_wp2_with fail
  refine (rdraw_any w2 u G t HW.out T2.2.1 (by omega) xA I E t' hI hE ht').mono ?_
  rintro e w3 ⟨rfl, h3⟩
  have T3 := T2.u h3
  have hK3 := hK2.go h3.1 (fun k hk => .inr (.inl hk))
  clear h3 T2
  go_wp2_with fail
  go_ret
  exact ⟨rfl, t', _, _, T3, HN.out, hK3⟩

set_option maxHeartbeats 8000000 in
set_option maxRecDepth 100000 in
theorem does5 (W w : World) (p u : Nat) (F G : Nat → Prop) (t : Tk) (hT : Two W w p u F G t t) (hl : t.hs.length ≤ 600000) (x : ActT) (hok : x.ok W) (hL : x.xs.length ≤ 10) (hN : x.zs.length ≤ 10) (hkind : x.kind = 5) :
    Calls Try.prog 10 #[.pointer (some ⟨p, 0, none⟩), .pointer (some ⟨u, 0, none⟩), .agg #[.int .i64 x.kind, .int .i64 x.A, .int .i64 x.B, .slice x.la x.xs.length x.lc, .slice x.na x.zs.length x.nc]] w fun e w' => e = .returned (.bool true) ∧ ∃ t' F' G', Two W w' p u F' G' t' t' ∧ Near t t' ∧ KpB w F G w' := by
  obtain ⟨o1, o2, o3, o4, o5⟩ := hok
  have sA : Step noF w (w.alloc (.cells #[.int .i64 x.kind, .int .i64 x.A, .int .i64 x.B, .slice x.la x.xs.length x.lc, .slice x.na x.zs.length x.nc] 32)) := (Step.refl _ _).alloc _
  have hA := hT.read sA
  have hXA : XA (w.alloc (.cells #[.int .i64 x.kind, .int .i64 x.A, .int .i64 x.B, .slice x.la x.xs.length x.lc, .slice x.na x.zs.length x.nc] 32)) w.heap.size x := block_alloc_new _ _
  have hFx : ¬ F w.heap.size := fun e => by have := hT.1.2.1.lt _ e; omega
  have hGx : ¬ G w.heap.size := fun e => by have := hT.2.1.1 _ e; omega
  have HO := hid (And.intro o2 (And.intro o3 o5))
  have HW := hid hT.1.2.1.1
  obtain ⟨xk, xA, xB, la, lc, es, na, nc, zs⟩ := x
  simp only at hL hN HO hA hXA sA o1 o4 ⊢
  have HXA := hid hXA
  obtain ⟨x0, x1, x2, x3, x4⟩ := hXA.cells
  simp only at x0 x1 x2 x3 x4
  have HKP : Hid (∀ V, Step noF (w.alloc (.cells #[.int .i64 xk, .int .i64 xA, .int .i64 xB, .slice la es.length lc, .slice na zs.length nc] 32)) V → KpB w F G V) := fun V s => ⟨(sA.trans s).size, fun k hk _ _ => (sA.trans s).block k hk (fun x => x)⟩
  have HA := hid hA
  have HS := hid (hT.1.1.trans sA)
  have hFW := hid hT.1.2.2
  have hGW := hid hT.2.2.1
  clear hA hXA hT sA o1 o2 o3 o4 o5
  simp only at hkind
  subst hkind
  obtain ⟨I, hI⟩ : ∃ I, drawI t xA = I := ⟨_, rfl⟩
  obtain ⟨E, hE⟩ : ∃ E, drawE t xA = E := ⟨_, rfl⟩
  obtain ⟨t', ht'⟩ : ∃ t', drawT t xA = t' := ⟨_, rfl⟩
  have HN := hid (show Near t t' by rw [← ht']; exact near_draw t xA)
  go_enter Try.func10, Try.ntmps10
  go_wp2_with fail
  refine (draw_call _ p F t (by exact HA.out.1.2.1) xA (by omega) I E t' hI hE ht').mono ?_
  rintro e w2 ⟨rfl, h2⟩
  have T2 := HA.out.p h2
  have hK2 := (HKP.out _ (Step.refl _ _)).go h2.1 (fun k hk => .inl hk)
  obtain ⟨z0, z1, z2, z3, z4⟩ := (HXA.out.keep h2.1 hFx).cells
  simp only at z0 z1 z2 z3 z4
  clear h2
  go_wp2_with fail
  refine (rdraw_any w2 u G t HW.out T2.2.1 (by omega) xA I E t' hI hE ht').mono ?_
  rintro e w3 ⟨rfl, h3⟩
  have T3 := T2.u h3
  have hK3 := hK2.go h3.1 (fun k hk => .inr (.inl hk))
  clear h3 T2
  go_wp2_with fail
  go_ret
  exact ⟨rfl, t', _, _, T3, HN.out, hK3⟩

set_option maxHeartbeats 8000000 in
set_option maxRecDepth 100000 in
theorem does9 (W w : World) (p u : Nat) (F G : Nat → Prop) (t : Tk) (hT : Two W w p u F G t t) (hl : t.hs.length ≤ 600000) (x : ActT) (hok : x.ok W) (hL : x.xs.length ≤ 10) (hN : x.zs.length ≤ 10) (hkind : ¬ x.kind = 1 ∧ ¬ x.kind = 2 ∧ ¬ x.kind = 3 ∧ ¬ x.kind = 4 ∧ ¬ x.kind = 5 ∧ ¬ x.kind = 6 ∧ ¬ x.kind = 7 ∧ ¬ x.kind = 8) :
    Calls Try.prog 10 #[.pointer (some ⟨p, 0, none⟩), .pointer (some ⟨u, 0, none⟩), .agg #[.int .i64 x.kind, .int .i64 x.A, .int .i64 x.B, .slice x.la x.xs.length x.lc, .slice x.na x.zs.length x.nc]] w fun e w' => e = .returned (.bool true) ∧ ∃ t' F' G', Two W w' p u F' G' t' t' ∧ Near t t' ∧ KpB w F G w' := by
  obtain ⟨o1, o2, o3, o4, o5⟩ := hok
  have sA : Step noF w (w.alloc (.cells #[.int .i64 x.kind, .int .i64 x.A, .int .i64 x.B, .slice x.la x.xs.length x.lc, .slice x.na x.zs.length x.nc] 32)) := (Step.refl _ _).alloc _
  have hA := hT.read sA
  have hXA : XA (w.alloc (.cells #[.int .i64 x.kind, .int .i64 x.A, .int .i64 x.B, .slice x.la x.xs.length x.lc, .slice x.na x.zs.length x.nc] 32)) w.heap.size x := block_alloc_new _ _
  have hFx : ¬ F w.heap.size := fun e => by have := hT.1.2.1.lt _ e; omega
  have hGx : ¬ G w.heap.size := fun e => by have := hT.2.1.1 _ e; omega
  have HO := hid (And.intro o2 (And.intro o3 o5))
  have HW := hid hT.1.2.1.1
  obtain ⟨xk, xA, xB, la, lc, es, na, nc, zs⟩ := x
  simp only at hL hN HO hA hXA sA o1 o4 ⊢
  have HXA := hid hXA
  obtain ⟨x0, x1, x2, x3, x4⟩ := hXA.cells
  simp only at x0 x1 x2 x3 x4
  have HKP : Hid (∀ V, Step noF (w.alloc (.cells #[.int .i64 xk, .int .i64 xA, .int .i64 xB, .slice la es.length lc, .slice na zs.length nc] 32)) V → KpB w F G V) := fun V s => ⟨(sA.trans s).size, fun k hk _ _ => (sA.trans s).block k hk (fun x => x)⟩
  have HA := hid hA
  have HS := hid (hT.1.1.trans sA)
  have hFW := hid hT.1.2.2
  have hGW := hid hT.2.2.1
  clear hA hXA hT sA o1 o2 o3 o4 o5
  simp only at hkind
  obtain ⟨e1, e2, e3, e4, e5, e6, e7, e8⟩ := hkind
  obtain ⟨L, hL'⟩ : ∃ L, (lateL t.d).length = L := ⟨_, rfl⟩
  obtain ⟨t', ht'⟩ : ∃ t', turnT t = t' := ⟨_, rfl⟩
  have HN := hid (show Near t t' by rw [← ht']; exact near_turn t)
  go_enter Try.func10, Try.ntmps10
  go_wp2_with fail
  refine (turn_call _ p F t (by exact HA.out.1.2.1) L hL' t' ht').mono ?_
  rintro e w2 ⟨rfl, h2⟩
  have T2 := HA.out.p h2
  have hK2 := (HKP.out _ (Step.refl _ _)).go h2.1 (fun k hk => .inl hk)
  obtain ⟨z0, z1, z2, z3, z4⟩ := (HXA.out.keep h2.1 hFx).cells
  simp only at z0 z1 z2 z3 z4
  clear h2
  go_wp2_with fail
  refine (rturn_any w2 u G t HW.out T2.2.1 L hL' t' ht').mono ?_
  rintro e w3 ⟨rfl, h3⟩
  have T3 := T2.u h3
  have hK3 := hK2.go h3.1 (fun k hk => .inr (.inl hk))
  clear h3 T2
  go_wp2_with fail
  go_ret
  exact ⟨rfl, t', _, _, T3, HN.out, hK3⟩
set_option maxHeartbeats 8000000 in
set_option maxRecDepth 100000 in
theorem does6 (W w : World) (p u : Nat) (F G : Nat → Prop) (t : Tk) (hT : Two W w p u F G t t) (hl : t.hs.length ≤ 600000) (x : ActT) (hok : x.ok W) (hL : x.xs.length ≤ 10) (hN : x.zs.length ≤ 10) (hkind : x.kind = 6) :
    Calls Try.prog 10 #[.pointer (some ⟨p, 0, none⟩), .pointer (some ⟨u, 0, none⟩), .agg #[.int .i64 x.kind, .int .i64 x.A, .int .i64 x.B, .slice x.la x.xs.length x.lc, .slice x.na x.zs.length x.nc]] w fun e w' => e = .returned (.bool true) ∧ ∃ t' F' G', Two W w' p u F' G' t' t' ∧ Near t t' ∧ KpB w F G w' := by
  obtain ⟨o1, o2, o3, o4, o5⟩ := hok
  have sA : Step noF w (w.alloc (.cells #[.int .i64 x.kind, .int .i64 x.A, .int .i64 x.B, .slice x.la x.xs.length x.lc, .slice x.na x.zs.length x.nc] 32)) := (Step.refl _ _).alloc _
  have hA := hT.read sA
  have hXA : XA (w.alloc (.cells #[.int .i64 x.kind, .int .i64 x.A, .int .i64 x.B, .slice x.la x.xs.length x.lc, .slice x.na x.zs.length x.nc] 32)) w.heap.size x := block_alloc_new _ _
  have hFx : ¬ F w.heap.size := fun e => by have := hT.1.2.1.lt _ e; omega
  have hGx : ¬ G w.heap.size := fun e => by have := hT.2.1.1 _ e; omega
  have HO := hid (And.intro o2 (And.intro o3 o5))
  have HW := hid hT.1.2.1.1
  obtain ⟨xk, xA, xB, la, lc, es, na, nc, zs⟩ := x
  simp only at hL hN HO hA hXA sA o1 o4 ⊢
  have HXA := hid hXA
  obtain ⟨x0, x1, x2, x3, x4⟩ := hXA.cells
  simp only at x0 x1 x2 x3 x4
  have HKP : Hid (∀ V, Step noF (w.alloc (.cells #[.int .i64 xk, .int .i64 xA, .int .i64 xB, .slice la es.length lc, .slice na zs.length nc] 32)) V → KpB w F G V) := fun V s => ⟨(sA.trans s).size, fun k hk _ _ => (sA.trans s).block k hk (fun x => x)⟩
  have HA := hid hA
  have HS := hid (hT.1.1.trans sA)
  have hFW := hid hT.1.2.2
  have hGW := hid hT.2.2.1
  clear hA hXA hT sA o1 o2 o3 o4 o5
  simp only at hkind
  subst hkind
  cases hb : hasB t.hs xA
  · have hd : dropE t xA = 7 ∧ dropT t xA = t := ⟨by rw [dropE, hb]; rfl, by rw [dropT, hb]; rfl⟩
    go_enter Try.func10, Try.ntmps10
    go_wp2_with fail
    refine (drop_call _ p F t (by exact HA.out.1.2.1) xA (by omega) 7 t hd.1 hd.2).mono ?_
    rintro e w2 ⟨rfl, h2⟩
    have T2 := HA.out.p h2
    have hK2 := (HKP.out _ (Step.refl _ _)).go h2.1 (fun k hk => .inl hk)
    obtain ⟨z0, z1, z2, z3, z4⟩ := (HXA.out.keep h2.1 hFx).cells
    simp only at z0 z1 z2 z3 z4
    clear h2
    go_wp2_with fail
    refine (rhas_any w2 u G _ _ _ T2.2.1 (by omega) xA false hb).mono ?_
    rintro e w3 ⟨rfl, s3⟩
    have T3 := T2.read s3
    clear T2
    go_wp2_with fail
    go_ret
    exact ⟨rfl, t, _, _, T3, Near.refl t, hK2.go s3 (fun _ x => x.elim)⟩
  · have hd : dropE t xA = 0 ∧ dropT t xA = ⟨t.l, t.d, t.r, t.hs.set (idx xA) (-1)⟩ := ⟨by rw [dropE, hb]; rfl, by rw [dropT, hb]; rfl⟩
    obtain ⟨hz, hi, hy⟩ := hasB_yes hb
    have HNR := hid (near_drop t xA)
    have HD := hid hd
    generalize idx xA = i at hz hi hy hd HD
    subst hz
    have q7 : (i : Int) + 1 - 1 = i := by omega
    have q5 : (i : Int) < (t.hs.length : Int) := by omega
    have q1 : wrap64 (i : Int) = i := by unfold wrap64; omega
    have q2 : IntKind.i64.wrap (i : Int) = i := by simp [IntKind.wrap, IntKind.bits, IntKind.signed]; omega
    have HI := hid hi
    go_enter Try.func10, Try.ntmps10
    go_wp2_with fail
    refine (drop_call _ p F t (by exact HA.out.1.2.1) _ (by omega) 0 _ HD.out.1 HD.out.2).mono ?_
    rintro e w2 ⟨rfl, h2⟩
    have T2 := HA.out.p h2
    have hK2 := (HKP.out _ (Step.refl _ _)).go h2.1 (fun k hk => .inl hk)
    have hX2 := HXA.out.keep h2.1 hFx
    obtain ⟨z0, z1, z2, z3, z4⟩ := hX2.cells
    simp only at z0 z1 z2 z3 z4
    clear h2
    go_wp2_with fail
    refine (rhas_any w2 u G _ _ _ T2.2.1 (by omega) _ true hb).mono ?_
    rintro e w3 ⟨rfl, s3⟩
    have T3 := hid (T2.read s3)
    have y1 := s3.after z1
    obtain ⟨ia, ic, sa, sc, hbk, ho, hs, g1, g2, g3, g4⟩ := IsRf.len T3.out.2.1
    obtain ⟨g, c', he, hcl, hc, hfz⟩ := owns_cell hs i HI.out
    injection he with he1 he2 he3
    subst he1 he3
    obtain ⟨_, c1, _⟩ := cells3 hbk
    have HBK := hid hbk
    have HOO := hid ho
    have HSS := hid hs
    have HGG := hid (And.intro g1 (And.intro g2 (And.intro g3 g4)))
    have hgu : ¬ g = u := fun e => by
      obtain ⟨A, hA⟩ := owns_block hs g rfl
      exact ne_of_types hA hbk (by decide) e
    clear T2 hbk ho hs g1 g2 g3 g4 z0 z1 z2 z3 z4 hX2 hy hb hd
    go_wp2_with fail
    go_region
    all_goals go_wp2
    all_goals go_ret
    all_goals
      obtain ⟨p1, p2, p3, p4⟩ := HGG.out
      have sS : Step (pvF u (.slice (some ⟨g, 0, none⟩) t.hs.length sc)) w3 (w3.setCell ⟨g, i, none⟩ (.int .i64 (-1))).drew := ((Step.refl _ _).setCell (p := ⟨g, i, none⟩) (.inl (.inr rfl)) _).drew
      have x := IsRf.newSz (sz' := t.hs.set i (-1)) T3.out.2.1.1 HBK.out HOO.out HSS.out p1 p2 p3 p4 sS (heap_other HBK.out (fun e => hgu e.symm)) (by
        rw [List.length_set, ← intsOf_set]
        exact owns_put HSS.out i (by rw [intsOf_length]; exact HI.out) _) (.inl rfl)
      have T4 := T3.out.u (t2' := ⟨t.l, t.d, t.r, t.hs.set i (-1)⟩) x
      exact ⟨rfl, _, _, _, T4, by have := HNR.out; rw [HD.out.2] at this; exact this, (hK2.go s3 (fun _ x => x.elim)).go x.1 (fun k hk => .inr (.inl hk))⟩
set_option maxHeartbeats 8000000 in
set_option maxRecDepth 100000 in
theorem does7 (W w : World) (p u : Nat) (F G : Nat → Prop) (t : Tk) (hT : Two W w p u F G t t) (hl : t.hs.length ≤ 600000) (x : ActT) (hok : x.ok W) (hL : x.xs.length ≤ 10) (hN : x.zs.length ≤ 10) (hkind : x.kind = 7) :
    Calls Try.prog 10 #[.pointer (some ⟨p, 0, none⟩), .pointer (some ⟨u, 0, none⟩), .agg #[.int .i64 x.kind, .int .i64 x.A, .int .i64 x.B, .slice x.la x.xs.length x.lc, .slice x.na x.zs.length x.nc]] w fun e w' => e = .returned (.bool true) ∧ ∃ t' F' G', Two W w' p u F' G' t' t' ∧ Near t t' ∧ KpB w F G w' := by
  obtain ⟨o1, o2, o3, o4, o5⟩ := hok
  have sA : Step noF w (w.alloc (.cells #[.int .i64 x.kind, .int .i64 x.A, .int .i64 x.B, .slice x.la x.xs.length x.lc, .slice x.na x.zs.length x.nc] 32)) := (Step.refl _ _).alloc _
  have hA := hT.read sA
  have hXA : XA (w.alloc (.cells #[.int .i64 x.kind, .int .i64 x.A, .int .i64 x.B, .slice x.la x.xs.length x.lc, .slice x.na x.zs.length x.nc] 32)) w.heap.size x := block_alloc_new _ _
  have hFx : ¬ F w.heap.size := fun e => by have := hT.1.2.1.lt _ e; omega
  have hGx : ¬ G w.heap.size := fun e => by have := hT.2.1.1 _ e; omega
  have HO := hid (And.intro o2 (And.intro o3 o5))
  have HW := hid hT.1.2.1.1
  obtain ⟨xk, xA, xB, la, lc, es, na, nc, zs⟩ := x
  simp only at hL hN HO hA hXA sA o1 o4 ⊢
  have HXA := hid hXA
  obtain ⟨x0, x1, x2, x3, x4⟩ := hXA.cells
  simp only at x0 x1 x2 x3 x4
  have HKP : Hid (∀ V, Step noF (w.alloc (.cells #[.int .i64 xk, .int .i64 xA, .int .i64 xB, .slice la es.length lc, .slice na zs.length nc] 32)) V → KpB w F G V) := fun V s => ⟨(sA.trans s).size, fun k hk _ _ => (sA.trans s).block k hk (fun x => x)⟩
  have HA := hid hA
  have HS := hid (hT.1.1.trans sA)
  have hFW := hid hT.1.2.2
  have hGW := hid hT.2.2.1
  clear hA hXA hT sA o1 o2 o3 o4 o5
  simp only at hkind
  subst hkind
  obtain ⟨E, hE⟩ : ∃ E, usedE (kindsL t.l t.d) zs = E := ⟨_, rfl⟩
  obtain ⟨t', ht'⟩ : ∃ t', shadowT t zs = t' := ⟨_, rfl⟩
  have HN := hid (show Near t t' by rw [← ht']; exact near_shadow t zs)
  have CP : Hid (∀ V, KpB w F G V → Two W V p u F G t t → XA V w.heap.size ⟨7, xA, xB, la, lc, es, na, nc, zs⟩ → Calls Try.prog 28 #[.pointer (some ⟨p, 0, none⟩), .slice na zs.length nc] V fun e w2 => e = .returned (.int .i64 E) ∧ ∃ F2, Two W w2 p u F2 G t' t ∧ XA w2 w.heap.size ⟨7, xA, xB, la, lc, es, na, nc, zs⟩ ∧ KpB w F G w2) := fun V hK hV hX => by
    refine (shadow_call V p F t hV.1.2.1 na nc zs.length zs rfl (rowF HO.out.2.2 hV.1.1 hV.1.2.2) (by omega) E t' hE ht').mono ?_
    rintro e w2 ⟨rfl, h2⟩
    exact ⟨rfl, _, hV.p h2, hX.keep h2.1 hFx, hK.go h2.1 (fun k hk => .inl hk)⟩
  have CU : Hid (∀ V F2, KpB w F G V → Two W V p u F2 G t' t → XA V w.heap.size ⟨7, xA, xB, la, lc, es, na, nc, zs⟩ → Calls Try.prog 37 #[.pointer (some ⟨u, 0, none⟩), .slice na zs.length nc, .int .i64 2] V fun e w2 => e = .returned (.int .i64 E) ∧ ∃ G2, Two W w2 p u F2 G2 t' t' ∧ KpB w F G w2) := fun V F2 hK hV hX => by
    refine (rshadow_any V u G t HW.out hV.2.1 na nc zs.length zs rfl (rowF HO.out.2.2 hV.1.1 hV.2.2.1) (by omega) E hE t' ht').mono ?_
    rintro e w2 ⟨rfl, h2⟩
    exact ⟨rfl, _, hV.u h2, hK.go h2.1 (fun k hk => .inr (.inl hk))⟩
  clear hE ht'
  go_enter Try.func10, Try.ntmps10
  go_wp2_with fail
  go_region_with (first | (refine (CP.out _ (by exact HKP.out _ (Step.refl _ _).drew) (by exact HA.out.read (Step.refl _ _).drew) (by exact HXA.out)).mono ?_; rintro e w2 ⟨rfl, F2, h2, hX2, hK2⟩; obtain ⟨z0, z1, z2, z3, z4⟩ := hX2.cells; simp only at z0 z1 z2 z3 z4; have HX2 := hid hX2; clear hX2) | (refine (CU.out _ F2 (by exact hK2) (by exact h2) (by exact HX2.out)).mono ?_; rintro e w3 ⟨rfl, G3, h3, hK3⟩))
  all_goals go_wp2_with fail
  all_goals go_ret
  all_goals exact ⟨rfl, t', _, _, h3, HN.out, hK3⟩
set_option maxHeartbeats 8000000 in
set_option maxRecDepth 100000 in
theorem does8 (W w : World) (p u : Nat) (F G : Nat → Prop) (t : Tk) (hT : Two W w p u F G t t) (hl : t.hs.length ≤ 600000) (x : ActT) (hok : x.ok W) (hL : x.xs.length ≤ 10) (hN : x.zs.length ≤ 10) (hkind : x.kind = 8) :
    Calls Try.prog 10 #[.pointer (some ⟨p, 0, none⟩), .pointer (some ⟨u, 0, none⟩), .agg #[.int .i64 x.kind, .int .i64 x.A, .int .i64 x.B, .slice x.la x.xs.length x.lc, .slice x.na x.zs.length x.nc]] w fun e w' => e = .returned (.bool true) ∧ ∃ t' F' G', Two W w' p u F' G' t' t' ∧ Near t t' ∧ KpB w F G w' := by
  obtain ⟨o1, o2, o3, o4, o5⟩ := hok
  have sA : Step noF w (w.alloc (.cells #[.int .i64 x.kind, .int .i64 x.A, .int .i64 x.B, .slice x.la x.xs.length x.lc, .slice x.na x.zs.length x.nc] 32)) := (Step.refl _ _).alloc _
  have hA := hT.read sA
  have hXA : XA (w.alloc (.cells #[.int .i64 x.kind, .int .i64 x.A, .int .i64 x.B, .slice x.la x.xs.length x.lc, .slice x.na x.zs.length x.nc] 32)) w.heap.size x := block_alloc_new _ _
  have hFx : ¬ F w.heap.size := fun e => by have := hT.1.2.1.lt _ e; omega
  have hGx : ¬ G w.heap.size := fun e => by have := hT.2.1.1 _ e; omega
  have HO := hid (And.intro o2 (And.intro o3 o5))
  have HW := hid hT.1.2.1.1
  obtain ⟨xk, xA, xB, la, lc, es, na, nc, zs⟩ := x
  simp only at hL hN HO hA hXA sA o1 o4 ⊢
  have HXA := hid hXA
  obtain ⟨x0, x1, x2, x3, x4⟩ := hXA.cells
  simp only at x0 x1 x2 x3 x4
  have HKP : Hid (∀ V, Step noF (w.alloc (.cells #[.int .i64 xk, .int .i64 xA, .int .i64 xB, .slice la es.length lc, .slice na zs.length nc] 32)) V → KpB w F G V) := fun V s => ⟨(sA.trans s).size, fun k hk _ _ => (sA.trans s).block k hk (fun x => x)⟩
  have HA := hid hA
  have HS := hid (hT.1.1.trans sA)
  have hFW := hid hT.1.2.2
  have hGW := hid hT.2.2.1
  clear hA hXA hT sA o1 o2 o3 o4 o5
  simp only at hkind
  subst hkind
  obtain ⟨E, hE⟩ : ∃ E, usedE (kindsL t.l t.d) zs = E := ⟨_, rfl⟩
  obtain ⟨t', ht'⟩ : ∃ t', backT t zs = t' := ⟨_, rfl⟩
  have HN := hid (show Near t t' by rw [← ht']; exact near_back t zs)
  have CP : Hid (∀ V, KpB w F G V → Two W V p u F G t t → XA V w.heap.size ⟨8, xA, xB, la, lc, es, na, nc, zs⟩ → Calls Try.prog 29 #[.pointer (some ⟨p, 0, none⟩), .slice na zs.length nc] V fun e w2 => e = .returned (.int .i64 E) ∧ ∃ F2, Two W w2 p u F2 G t' t ∧ XA w2 w.heap.size ⟨8, xA, xB, la, lc, es, na, nc, zs⟩ ∧ KpB w F G w2) := fun V hK hV hX => by
    refine (back_call V p F t hV.1.2.1 na nc zs.length zs rfl (HO.out.2.2.step hV.1.1) (by omega) E t' hE ht').mono ?_
    rintro e w2 ⟨rfl, h2⟩
    exact ⟨rfl, _, hV.p h2, hX.keep h2.1 hFx, hK.go h2.1 (fun k hk => .inl hk)⟩
  have CU : Hid (∀ V F2, KpB w F G V → Two W V p u F2 G t' t → XA V w.heap.size ⟨8, xA, xB, la, lc, es, na, nc, zs⟩ → Calls Try.prog 37 #[.pointer (some ⟨u, 0, none⟩), .slice na zs.length nc, .int .i64 3] V fun e w2 => e = .returned (.int .i64 E) ∧ ∃ G2, Two W w2 p u F2 G2 t' t' ∧ KpB w F G w2) := fun V F2 hK hV hX => by
    refine (rback_any V u G t HW.out hV.2.1 na nc zs.length zs rfl (rowF HO.out.2.2 hV.1.1 hV.2.2.1) (by omega) E hE t' ht').mono ?_
    rintro e w2 ⟨rfl, h2⟩
    exact ⟨rfl, _, hV.u h2, hK.go h2.1 (fun k hk => .inr (.inl hk))⟩
  clear hE ht'
  go_enter Try.func10, Try.ntmps10
  go_wp2_with fail
  go_region_with (first | (refine (CP.out _ (by exact HKP.out _ (Step.refl _ _).drew) (by exact HA.out.read (Step.refl _ _).drew) (by exact HXA.out)).mono ?_; rintro e w2 ⟨rfl, F2, h2, hX2, hK2⟩; obtain ⟨z0, z1, z2, z3, z4⟩ := hX2.cells; simp only at z0 z1 z2 z3 z4; have HX2 := hid hX2; clear hX2) | (refine (CU.out _ F2 (by exact hK2) (by exact h2) (by exact HX2.out)).mono ?_; rintro e w3 ⟨rfl, G3, h3, hK3⟩))
  all_goals go_wp2_with fail
  all_goals go_ret
  all_goals exact ⟨rfl, t', _, _, h3, HN.out, hK3⟩
set_option maxHeartbeats 8000000 in
set_option maxRecDepth 100000 in
theorem does_any (W w : World) (p u : Nat) (F G : Nat → Prop) (t : Tk) (hT : Two W w p u F G t t) (hl : t.hs.length ≤ 600000) (x : ActT) (hok : x.ok W) (hL : x.xs.length ≤ 10) (hN : x.zs.length ≤ 10) :
    Calls Try.prog 10 #[.pointer (some ⟨p, 0, none⟩), .pointer (some ⟨u, 0, none⟩), .agg #[.int .i64 x.kind, .int .i64 x.A, .int .i64 x.B, .slice x.la x.xs.length x.lc, .slice x.na x.zs.length x.nc]] w fun e w' => e = .returned (.bool true) ∧ ∃ t' F' G', Two W w' p u F' G' t' t' ∧ Near t t' ∧ KpB w F G w' := by
  by_cases e1 : x.kind = 1
  · exact does1 W w p u F G t hT hl x hok hL hN e1
  by_cases e2 : x.kind = 2
  · exact does2 W w p u F G t hT hl x hok hL hN e2
  by_cases e3 : x.kind = 3
  · exact does3 W w p u F G t hT hl x hok hL hN e3
  by_cases e4 : x.kind = 4
  · exact does4 W w p u F G t hT hl x hok hL hN e4
  by_cases e5 : x.kind = 5
  · exact does5 W w p u F G t hT hl x hok hL hN e5
  by_cases e6 : x.kind = 6
  · exact does6 W w p u F G t hT hl x hok hL hN e6
  by_cases e7 : x.kind = 7
  · exact does7 W w p u F G t hT hl x hok hL hN e7
  by_cases e8 : x.kind = 8
  · exact does8 W w p u F G t hT hl x hok hL hN e8
  exact does9 W w p u F G t hT hl x hok hL hN ⟨e1, e2, e3, e4, e5, e6, e7, e8⟩
theorem does_all : DoesAll := fun W w p u F G t hT hl x hok hL hN => does_any W w p u F G t hT hl x hok hL hN
end Go.Proofs.Ytmijbplhmjledaa
namespace Go.Proofs.Ytmijbplhmjledaa.ticketExactDone
open Go.ChangeShapes Go.WideShapes Go.ChangeAt Go.RowKit
set_option linter.unusedVariables false

set_option maxRecDepth 100000 in
theorem lifted (os : Os) (started : os.Started) (H : Type) (enc : TypeId × Value → H) :
    ReturnsInHanded {} Try.checked os 3 .any (Rows.ticketExactSpec.pre6 enc Try.prog Try.f3 Rows.ticketExactRow.domain false) (Rows.ticketExactSpec.post enc Try.prog Try.f3 false true false false) := by
  refine returnsInHanded_of_change (C := Try.checked) own_okS started (by kernel_rfl) Try.func3
    (ChangeSpec.witness6 (enc := enc) (C := Try.checked) false ⟨#[], #[.int .i64 0, .int .i64 0, .int .i64 0, .slice none 0 0], []⟩ 8 (by kernel_rfl) (by kernel_rfl) (by kernel_rfl) (by kernel_rfl)) ?_
  intro W base args ds gs before hval0 hW hcnd _
  have hval : ∀ (j : Nat) t v, Try.f3.params[j]? = some t → args[j]? = some v → Value.okWide Try.prog W .any base t v := hval0
  have hW' := hW
  obtain ⟨p, q, hA0, hV, rfl, hfz, hnd⟩ := hW
  have hA : DataW.TrodAll enc Try.prog W 0 (fun _ => true) true Try.f3.params.toList args.toList ds p := hA0
  rw [Try.params3] at hA hval
  obtain ⟨v0, vs0, d0, ds0, p0, q0, hargs, rfl, rfl, h0, r0⟩ := trodAll_cons hA
  obtain ⟨v1, vs1, d1, ds1, p1, q1, rfl, rfl, rfl, h1, r1⟩ := trodAll_cons r0
  obtain ⟨v2, vs2, d2, ds2, p2, q2, rfl, rfl, rfl, h2, r2⟩ := trodAll_cons r1
  obtain ⟨v3, vs3, d3, ds3, p3, q3, rfl, rfl, rfl, h3, r3⟩ := trodAll_cons r2
  obtain ⟨rfl, rfl, rfl⟩ := trodAll_nil r3
  obtain rfl : args = #[v0, v1, v2, v3] := by cases args; simp_all
  obtain ⟨rfl, rfl⟩ := trodVars_none hV
  obtain ⟨x, rfl, rfl, rfl, wx⟩ := open_int Try.underlying3 (hval 0 3 v0 rfl rfl) h0
  obtain ⟨y, rfl, rfl, rfl, wy⟩ := open_int Try.underlying3 (hval 1 3 v1 rfl rfl) h1
  obtain ⟨z, rfl, rfl, rfl, wz⟩ := open_int Try.underlying3 (hval 2 3 v2 rfl rfl) h2
  obtain ⟨a1, len1, cap1, rfl⟩ := okWide_slice Try.underlying22 (hval 3 22 v3 rfl rfl)
  have k1 := h3
  have lt1 : ∀ x ∈ p3, x.block < W.heap.size := by obtain ⟨m, hm⟩ := k1; exact DataW.trod_lt m _ _ _ hm
  obtain ⟨hl, xs, hxl, hxs⟩ := open_actsT h3
  subst hxl
  clear hA0 hval0
  refine (exact_core does_all x y z xs (by unfold maxLen at hl; omega) a1 cap1 W hxs).mono fun e W' ⟨he, hst⟩ => ?_
  subst he
  have bel : Below W.heap.size W W' := hst.below (fun k hk => hk.elim)
  exact ⟨_, rfl, _, _, _, [], _, [], hW', trodAll_mk1 (shut_bool Try.underlying4 _), (trodAll_cons_mk (shut_int Try.underlying3 wx) (trodAll_cons_mk (shut_int Try.underlying3 wy) (trodAll_cons_mk (shut_int Try.underlying3 wz) (trodAll_cons_mk (Below.trod laidOutS (by kernel_rfl) (of_decide_eq_true (by kernel_rfl)) k1 bel lt1) trodAll_mk0)))), rfl, bel.frame _, fun h => by cases h⟩

theorem over : Rows.ticketExactRow.holds Try.pinned (OpenSpec.ofChange Rows.ticketExactSpec) :=
  OpenClaim.holds_of_wide 3 Try.f3 rfl rfl rfl rfl rfl rfl rfl ⟨rfl, rfl, rfl, rfl, rfl⟩ rfl rfl rfl rfl rfl (by kernel_rfl) Try.func3 (by kernel_rfl)
    (of_decide_eq_true (by kernel_rfl)) (by unfold Func.isWrapper; first | (rw [if_pos (by decide +kernel)]; kernel_rfl) | (rw [if_neg (by decide +kernel)]; exact ⟨rfl, rfl⟩))
    (fun os started H enc _ => lifted os started H enc)
end Go.Proofs.Ytmijbplhmjledaa.ticketExactDone
namespace Go.Proofs.Ytmijbplhmjledaa
theorem ticketExact_holds : Rows.TicketExactSaid := ticketExactDone.over
end Go.Proofs.Ytmijbplhmjledaa
