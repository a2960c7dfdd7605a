/-
  More arms of DevExact's switch: 6, 8, 9 and 10.
-/
import Derived.Test.YthgcpeibjnflaaaDevArms
namespace Go.Proofs.Ythgcpeibjnflaaa
open Go.RowKit
set_option linter.unusedVariables false

set_option maxHeartbeats 4000000 in
set_option maxRecDepth 100000 in
theorem arm6 (w0 : World) (p q n j xb : Nat) (x : ActD) (av : Value) (R : Nat → Nat) (d : Dv) (w : World) (h : Arm w0 p q n j xb x R d w) (hk : x.kind = 6) (Q : Exit → Act → World → Prop) (a : Act) (ha : Kn (armK p q n j xb x av) a)
    (hend : ∀ a' w', Kn (base p q n j av) a' → Both w0 p q n (j + 1) w' → Q .normal a' w') :
    Code.wp Try.prog (nav [1, 1, 1, 1, 1, 1, 1, 1, 0, 1, 0, 0, 1, 0, 0, 1, 1, 1, 0, 1] (Try.f3.body.getD .skip)) Q a w := by
  obtain ⟨f, rfl, hf⟩ := ha.open
  have h1 : f 1 = av := hf (1, av) (by simp [armK, base])
  have h5 : f 5 = .pointer (some ⟨p, 0, none⟩) := hf (5, _) (by simp [armK, base])
  have h6 : f 6 = .int .i64 n := hf (6, _) (by simp [armK, base])
  have h7 : f 7 = .pointer (some ⟨q, 0, none⟩) := hf (7, _) (by simp [armK, base])
  have h8 : f 8 = .int .i64 j := hf (8, _) (by simp [armK, base])
  have h9 : f 9 = .pointer (some ⟨xb, 0, none⟩) := hf (9, _) (by simp [armK, base])
  have h10 : f 10 = .bool (decide (0 ≤ x.at_) && decide (x.at_ < (n : Int))) := hf (10, _) (by simp [armK, base])
  have h67 : f 67 = .int .i64 x.kind := hf (67, _) (by simp [armK, base])
  simp only [fr, h1, h5, h6, h7, h8, h9, h10, h67, hk]
  clear hf h1 h5 h6 h7 h8 h9 h10 h67 ha
  conv => arg 2; whnf
  have HE := hid hend
  have HH := hid h
  clear hend
  obtain ⟨x0, x1, x2, x3⟩ := h.X.cells
  clear h
  cases hg : goB d
  · have E1 : Hid (flE d = 4 ∧ flD d = goD d) := ⟨by rw [flE, hg]; rfl, by rw [flD, hg]; rfl⟩
    have HG := hid hg
    clear hg
    go_wp2_with fail
    refine (flush_call w R 0 p d HH.out.D HH.out.W 4 (goD d) E1.out.1 E1.out.2).mono ?_
    rintro e w1 ⟨rfl, s1, D1⟩
    obtain ⟨t1, r1, Q1, X1, y1, row1⟩ := HH.out.dev s1 R (fun _ _ => rfl)
    have T1 := hid (show Step noF w0 w1 ∧ (∀ k, k < w0.heap.size → R k = 0) from ⟨t1, r1⟩)
    clear x0 x1 x2 x3 t1 r1
    go_wp2_with fail
    refine (burnt_any w1 R 10 q d Q1 HH.out.W).mono ?_
    rintro e w2 ⟨rfl, s2, Q2⟩
    rw [HG.out]
    obtain ⟨t2, D2⟩ := ref_step (d2 := d) T1.out.1 T1.out.2 Q1.role D1 s2
    go_wp2_with fail
    refine HE.out _ _ ?_ ⟨R, goD d, t2, T1.out.2, D2, Q2, goD_wf d HH.out.W, (goD_few d j HH.out.F).mono (by omega), (goD_len d).trans HH.out.n⟩
    refine ⟨rfl, rfl, ?_⟩
    intro x hx
    simp only [base, List.mem_cons, List.not_mem_nil, or_false] at hx
    rcases hx with rfl | rfl | rfl | rfl | rfl <;> rfl
  · have E1 : Hid (flE d = 0 ∧ flD d = flushD (goD d)) := ⟨by rw [flE, hg]; rfl, by rw [flD, hg]; rfl⟩
    have HW := hid (flD_wf d HH.out.W j HH.out.F (by have := HH.out.j5; omega))
    have HG := hid hg
    clear hg
    go_wp2_with fail
    refine (flush_call w R 0 p d HH.out.D HH.out.W 0 (flushD (goD d)) E1.out.1 E1.out.2).mono ?_
    rintro e w1 ⟨rfl, s1, D1⟩
    obtain ⟨t1, r1, Q1, X1, y1, row1⟩ := HH.out.dev s1 R (fun _ _ => rfl)
    have T1 := hid (show Step noF w0 w1 ∧ (∀ k, k < w0.heap.size → R k = 0) from ⟨t1, r1⟩)
    clear x0 x1 x2 x3 t1 r1
    go_wp2_with fail
    refine (burnt_any w1 R 10 q d Q1 HH.out.W).mono ?_
    rintro e w2 ⟨rfl, s2, Q2⟩
    rw [HG.out]
    obtain ⟨t2, D2⟩ := ref_step (d2 := d) T1.out.1 T1.out.2 Q1.role D1 s2
    go_wp2_with fail
    refine (refFlush_any w2 R 10 q (goD d) Q2 (goD_wf d HH.out.W)).mono ?_
    rintro e w3 ⟨rfl, s3, Q3⟩
    obtain ⟨t3, D3⟩ := ref_step (d2 := d) t2 T1.out.2 Q1.role D2 s3
    go_wp2_with fail
    refine HE.out _ _ ?_ ⟨R, flushD (goD d), t3, T1.out.2, D3, Q3, by rw [← E1.out.2]; exact HW.out, by rw [← E1.out.2]; exact flD_few d j HH.out.F, by rw [← E1.out.2, flD_len]; exact HH.out.n⟩
    refine ⟨rfl, rfl, ?_⟩
    intro x hx
    simp only [base, List.mem_cons, List.not_mem_nil, or_false] at hx
    rcases hx with rfl | rfl | rfl | rfl | rfl <;> rfl

theorem RHead.set {w : World} {q : Nat} {c : Array Value} (h : w.heap[q]? = some (.cells c 38 (0, 0))) (i : Nat) (v : Value) : (w.setCell ⟨q, i, none⟩ v).heap[q]? = some (.cells (c.setIfInBounds i v) 38 (0, 0)) := block_setCell h i v
theorem rowAt_setCell {w : World} {F : Nat → Prop} {a : Option Addr} {cs : List Value} (h : RowAt w F a cs) (p : Addr) (hp : F p.block) (v : Value) : RowAt (w.setCell p v) F a cs :=
  rowAt_keep h (fun k hk hF => ⟨Below.heap_setCell _ _ _ _ (fun e => hF (e ▸ hp)), hF⟩)

theorem ref_fuse {w : World} {R : Nat → Nat} {o q : Nat} {d : Dv} (h : IsRef w R o q d) (z M : Int) (ka : Option Addr) (kc : Nat) (ks : List Bool) (hr : RowAt w (fun k => R k ≠ 0) ka (bools ks)) (hM : fuI (if 0 ≤ z then some (z.toNat, ks) else none) = M) :
    IsRef ((w.setCell ⟨q, 3, none⟩ (.int .i64 M)).setCell ⟨q, 4, none⟩ (.slice ka ks.length kc)) R o q (fuseD d z ks) := by
  obtain ⟨lv, ka0, kn0, kc0, h1, h2, h3, h4, h5⟩ := h
  have hne : lv.ownBlock ≠ some q := fun e => by have := h3 q e; omega
  refine ⟨lv, ka, ks.length, kc, ?_, h2, h3, owns_setCell (owns_setCell h4 _ hne _) _ hne _, ?_⟩
  · have := RHead.set (RHead.set h1 3 (.int .i64 M)) 4 (.slice ka ks.length kc)
    rw [← hM] at this ⊢
    simpa [RHead, fuseD] using this
  · intro n ks' hfu
    have hfu : (if 0 ≤ z then some (z.toNat, ks) else none) = some (n, ks') := hfu
    split at hfu
    · injection hfu with hfu
      injection hfu with _ e
      subst e
      exact ⟨rfl, rowAt_setCell (rowAt_setCell hr _ (by show R q ≠ 0; omega) _) _ (by show R q ≠ 0; omega) _⟩
    · cases hfu
theorem ref_come {w : World} {R : Nat → Nat} {o q : Nat} {d : Dv} (h : IsRef w R o q d) (hon : d.on = false) : IsRef ((w.setCell ⟨q, 2, none⟩ (.bool true)).setCell ⟨q, 3, none⟩ (.int .i64 (-1))) R o q (comeD d) := by
  obtain ⟨lv, ka0, kn0, kc0, h1, h2, h3, h4, h5⟩ := h
  have hne : lv.ownBlock ≠ some q := fun e => by have := h3 q e; omega
  have e : comeD d = { d with on := true, fuse := none } := by simp [comeD, hon]
  rw [e]
  refine ⟨lv, ka0, kn0, kc0, ?_, h2, h3, owns_setCell (owns_setCell h4 _ hne _) _ hne _, fun n ks hfu => by cases hfu⟩
  have := RHead.set (RHead.set h1 2 (.bool true)) 3 (.int .i64 (-1))
  simpa [RHead, fuI] using this
theorem ref_reads {w : World} {R : Nat → Nat} {o q : Nat} {d : Dv} (h : IsRef w R o q d) (z : Int) (hz : z = (d.reads : Int) + 1) : IsRef (w.setCell ⟨q, 5, none⟩ (.int .i64 z)) R o q { d with reads := d.reads + 1 } := by
  obtain ⟨lv, ka0, kn0, kc0, h1, h2, h3, h4, h5⟩ := h
  have hne : lv.ownBlock ≠ some q := fun e => by have := h3 q e; omega
  subst hz
  refine ⟨lv, ka0, kn0, kc0, ?_, h2, h3, owns_setCell h4 _ hne _, fun n ks hfu => ?_⟩
  · have := RHead.set h1 5 (.int .i64 ((d.reads : Int) + 1))
    simpa [RHead] using this
  · obtain ⟨e, hr⟩ := h5 n ks hfu
    exact ⟨e, rowAt_setCell hr _ (by show R q ≠ 0; omega) _⟩
theorem Step.setRef {q : Nat} (w : World) (i : Nat) (v : Value) : Step (oneF q) w (w.setCell ⟨q, i, none⟩ v) := (Step.refl (oneF q) w).setCell (p := ⟨q, i, none⟩) (.inl rfl) v

set_option maxHeartbeats 4000000 in
set_option maxRecDepth 100000 in
theorem arm8 (w0 : World) (p q n j xb : Nat) (x : ActD) (av : Value) (R : Nat → Nat) (d : Dv) (w : World) (h : Arm w0 p q n j xb x R d w) (hk : x.kind = 8) (Q : Exit → Act → World → Prop) (a : Act) (ha : Kn (armK p q n j xb x av) a)
    (hend : ∀ a' w', Kn (base p q n j av) a' → Both w0 p q n (j + 1) w' → Q .normal a' w') :
    Code.wp Try.prog (nav [1, 1, 1, 1, 1, 1, 1, 1, 0, 1, 0, 0, 1, 0, 0, 1, 1, 1, 0, 1] (Try.f3.body.getD .skip)) Q a w := by
  obtain ⟨f, rfl, hf⟩ := ha.open
  have h1 : f 1 = av := hf (1, av) (by simp [armK, base])
  have h5 : f 5 = .pointer (some ⟨p, 0, none⟩) := hf (5, _) (by simp [armK, base])
  have h6 : f 6 = .int .i64 n := hf (6, _) (by simp [armK, base])
  have h7 : f 7 = .pointer (some ⟨q, 0, none⟩) := hf (7, _) (by simp [armK, base])
  have h8 : f 8 = .int .i64 j := hf (8, _) (by simp [armK, base])
  have h9 : f 9 = .pointer (some ⟨xb, 0, none⟩) := hf (9, _) (by simp [armK, base])
  have h10 : f 10 = .bool (decide (0 ≤ x.at_) && decide (x.at_ < (n : Int))) := hf (10, _) (by simp [armK, base])
  have h67 : f 67 = .int .i64 x.kind := hf (67, _) (by simp [armK, base])
  simp only [fr, h1, h5, h6, h7, h8, h9, h10, h67, hk]
  clear hf h1 h5 h6 h7 h8 h9 h10 h67 ha
  conv => arg 2; whnf
  have HE := hid hend
  have HH := hid h
  clear hend
  obtain ⟨x0, x1, x2, x3⟩ := h.X.cells
  clear h
  obtain ⟨M, hM⟩ : ∃ M, max x.at_ (-1) = M := ⟨_, rfl⟩
  have HM : Hid (fuI (if 0 ≤ x.at_ then some (x.at_.toNat, x.ks) else none) = M) := by
    show _ = _
    rw [← hM]
    split
    · simp only [fuI]; omega
    · simp only [fuI]; omega
  go_wp2_with fail
  refine (fuse_any w R 0 p d HH.out.D x.at_ x.ka x.kc x.ks (by have := HH.out.kl; omega) (fun k => R k ≠ 0) HH.out.row (fun hp => hp (by rw [HH.out.D.role]; omega))).mono ?_
  rintro e w1 ⟨rfl, s1, R1, hR1, D1⟩
  obtain ⟨t1, r1, Q1, X1, y1, row1⟩ := HH.out.dev s1 R1 hR1
  have T1 := hid (show Step noF w0 w1 ∧ (∀ k, k < w0.heap.size → R1 k = 0) from ⟨t1, r1⟩)
  obtain ⟨lv, rka, rkn, rkc, u1, _⟩ := id Q1
  obtain ⟨c0, c1, c2, c3, c4, c5, c6, c7⟩ := ref_cells u1
  have f3 := frozen_of_block u1 3
  have f4 := frozen_of_block u1 4
  have hqx : xb ≠ q := fun e => by have := Q1.role; rw [← e, y1] at this; omega
  obtain ⟨x0', x1', x2', x3'⟩ := X1.cells
  have HY := hid (show R1 xb = 40 ∧ XB w1 xb x from ⟨y1, X1⟩)
  clear x0 x1 x2 x3 t1 r1 u1 y1 X1
  go_wp2_with fail
  have s2 : Step (oneF q) w1 ((w1.setCell ⟨q, 3, none⟩ (.int .i64 M)).setCell ⟨q, 4, none⟩ (.slice x.ka x.ks.length x.kc)) := (Step.setRef w1 3 _).trans (Step.setRef _ 4 _)
  obtain ⟨t2, D2⟩ := ref_step (d2 := d) T1.out.1 T1.out.2 Q1.role D1 s2
  refine HE.out _ _ ?_ ⟨R1, fuseD d x.at_ x.ks, t2, T1.out.2, D2, ref_fuse Q1 x.at_ M x.ka x.kc x.ks row1 HM.out, fuseD_wf d x.at_ x.ks HH.out.W HH.out.az (by have := HH.out.kl; omega), (fuseD_few d x.at_ x.ks j HH.out.F).mono (by omega), HH.out.n⟩
  refine ⟨rfl, rfl, ?_⟩
  intro x hx
  simp only [base, List.mem_cons, List.not_mem_nil, or_false] at hx
  rcases hx with rfl | rfl | rfl | rfl | rfl <;> rfl

set_option maxHeartbeats 4000000 in
set_option maxRecDepth 100000 in
theorem arm9 (w0 : World) (p q n j xb : Nat) (x : ActD) (av : Value) (R : Nat → Nat) (d : Dv) (w : World) (h : Arm w0 p q n j xb x R d w) (K : Int) (hk : x.kind = K) (hK : K = 9 ∨ K = 10) (Q : Exit → Act → World → Prop) (a : Act) (ha : Kn (armK p q n j xb x av) a)
    (hend : ∀ a' w', Kn (base p q n j av) a' → Both w0 p q n (j + 1) w' → Q .normal a' w') :
    Code.wp Try.prog (nav [1, 1, 1, 1, 1, 1, 1, 1, 0, 1, 0, 0, 1, 0, 0, 1, 1, 1, 0, 1] (Try.f3.body.getD .skip)) Q a w := by
  obtain ⟨f, rfl, hf⟩ := ha.open
  have h1 : f 1 = av := hf (1, av) (by simp [armK, base])
  have h5 : f 5 = .pointer (some ⟨p, 0, none⟩) := hf (5, _) (by simp [armK, base])
  have h6 : f 6 = .int .i64 n := hf (6, _) (by simp [armK, base])
  have h7 : f 7 = .pointer (some ⟨q, 0, none⟩) := hf (7, _) (by simp [armK, base])
  have h8 : f 8 = .int .i64 j := hf (8, _) (by simp [armK, base])
  have h9 : f 9 = .pointer (some ⟨xb, 0, none⟩) := hf (9, _) (by simp [armK, base])
  have h10 : f 10 = .bool (decide (0 ≤ x.at_) && decide (x.at_ < (n : Int))) := hf (10, _) (by simp [armK, base])
  have h67 : f 67 = .int .i64 x.kind := hf (67, _) (by simp [armK, base])
  simp only [fr, h1, h5, h6, h7, h8, h9, h10, h67, hk]
  clear hf h1 h5 h6 h7 h8 h9 h10 h67 ha
  conv => arg 2; whnf
  have HE := hid hend
  have HH := hid h
  clear hend
  obtain ⟨x0, x1, x2, x3⟩ := h.X.cells
  clear h
  have main : ∀ (e : Ending) (w1 : World), (e = .returned (.tuple #[]) ∧ Step (Rng R 0) w w1 ∧ IsDev w1 R 0 p (comeD d)) → ∃ (lv : Value) (ka : Option Addr) (kn kc : Nat), Step noF w0 w1 ∧ (∀ k, k < w0.heap.size → R k = 0) ∧ IsDev w1 R 0 p (comeD d) ∧ IsRef w1 R 10 q d ∧ w1.heap[q]? = some (.cells #[.string (str d.safe.flatten), lv, .bool d.on, .int .i64 (fuI d.fuse), .slice ka kn kc, .int .i64 d.reads, .int .i64 d.writes, .int .i64 d.flushes] 38 (0, 0)) := by
    rintro e w1 ⟨_, s1, D1⟩
    obtain ⟨t1, r1, Q1, X1, y1, row1⟩ := HH.out.dev s1 R (fun _ _ => rfl)
    obtain ⟨lv, rka, rkn, rkc, u1, _⟩ := id Q1
    exact ⟨lv, rka, rkn, rkc, t1, r1, D1, Q1, u1⟩
  have MAIN := hid main
  clear main x0 x1 x2 x3
  cases hon : d.on
  · have HON := hid hon
    clear hon
    rcases hK with rfl | rfl
    all_goals
      go_wp2_with fail
      refine (come_any w R 0 p d HH.out.D).mono ?_
      rintro e w1 ⟨rfl, s1, D1⟩
      obtain ⟨lv, ka, kn, kc, t1, r1, _, Q1, u1⟩ := MAIN.out _ w1 ⟨rfl, s1, D1⟩
      obtain ⟨c0, c1, c2, c3, c4, c5, c6, c7⟩ := ref_cells u1
      rw [HON.out] at c2
      have f2 := frozen_of_block u1 2
      have f3 := frozen_of_block u1 3
      clear u1
      go_wp2_with fail
      have s2 : Step (oneF q) w1 ((w1.setCell ⟨q, 2, none⟩ (.bool true)).setCell ⟨q, 3, none⟩ (.int .i64 (-1))) := (Step.setRef w1 2 _).trans (Step.setRef _ 3 _)
      obtain ⟨t2, D2⟩ := ref_step (d2 := d) t1 r1 Q1.role D1 s2
      refine HE.out _ _ ?_ ⟨R, comeD d, t2, r1, D2, ref_come Q1 HON.out, comeD_wf d HH.out.W, (comeD_few d j HH.out.F).mono (by omega), by rw [comeD, HON.out]; exact HH.out.n⟩
      refine ⟨rfl, rfl, ?_⟩
      intro x hx
      simp only [base, List.mem_cons, List.not_mem_nil, or_false] at hx
      rcases hx with rfl | rfl | rfl | rfl | rfl <;> rfl
  · have HON := hid hon
    have HC : Hid (comeD d = d) := by show _ = _; rw [comeD, hon]; rfl
    clear hon
    rcases hK with rfl | rfl
    all_goals
      go_wp2_with fail
      refine (come_any w R 0 p d HH.out.D).mono ?_
      rintro e w1 ⟨rfl, s1, D1⟩
      obtain ⟨lv, ka, kn, kc, t1, r1, _, Q1, u1⟩ := MAIN.out _ w1 ⟨rfl, s1, D1⟩
      obtain ⟨c0, c1, c2, c3, c4, c5, c6, c7⟩ := ref_cells u1
      rw [HON.out] at c2
      clear u1
      rw [HC.out] at D1
      go_wp2_with fail
      refine HE.out _ _ ?_ ⟨R, d, t1, r1, D1, Q1, HH.out.W, HH.out.F.mono (by omega), HH.out.n⟩
      refine ⟨rfl, rfl, ?_⟩
      intro x hx
      simp only [base, List.mem_cons, List.not_mem_nil, or_false] at hx
      rcases hx with rfl | rfl | rfl | rfl | rfl <;> rfl

set_option maxHeartbeats 4000000 in
set_option maxRecDepth 100000 in
theorem arm11 (w0 : World) (p q n j xb : Nat) (x : ActD) (av : Value) (R : Nat → Nat) (d : Dv) (w : World) (h : Arm w0 p q n j xb x R d w) (hk : x.kind = 11) (Q : Exit → Act → World → Prop) (a : Act) (ha : Kn (armK p q n j xb x av) a)
    (hend : ∀ a' w', Kn (base p q n j av) a' → Both w0 p q n (j + 1) w' → Q .normal a' w') :
    Code.wp Try.prog (nav [1, 1, 1, 1, 1, 1, 1, 1, 0, 1, 0, 0, 1, 0, 0, 1, 1, 1, 0, 1] (Try.f3.body.getD .skip)) Q a w := by
  obtain ⟨f, rfl, hf⟩ := ha.open
  have h1 : f 1 = av := hf (1, av) (by simp [armK, base])
  have h5 : f 5 = .pointer (some ⟨p, 0, none⟩) := hf (5, _) (by simp [armK, base])
  have h6 : f 6 = .int .i64 n := hf (6, _) (by simp [armK, base])
  have h7 : f 7 = .pointer (some ⟨q, 0, none⟩) := hf (7, _) (by simp [armK, base])
  have h8 : f 8 = .int .i64 j := hf (8, _) (by simp [armK, base])
  have h9 : f 9 = .pointer (some ⟨xb, 0, none⟩) := hf (9, _) (by simp [armK, base])
  have h10 : f 10 = .bool (decide (0 ≤ x.at_) && decide (x.at_ < (n : Int))) := hf (10, _) (by simp [armK, base])
  have h67 : f 67 = .int .i64 x.kind := hf (67, _) (by simp [armK, base])
  simp only [fr, h1, h5, h6, h7, h8, h9, h10, h67, hk]
  clear hf h1 h5 h6 h7 h8 h9 h10 h67 ha
  conv => arg 2; whnf
  have HE := hid hend
  have HH := hid h
  clear hend
  obtain ⟨x0, x1, x2, x3⟩ := h.X.cells
  clear h
  have hin : inB d x.at_ = (decide (0 ≤ x.at_) && decide (x.at_ < (n : Int))) := by rw [inB, HH.out.n]
  have HIN := hid hin
  clear hin
  cases hi : (decide (0 ≤ x.at_) && decide (x.at_ < (n : Int)))
  · have HR : Hid (str (readV d x.at_) = ⟨#[]⟩ ∧ readE d x.at_ = 3 ∧ readD d x.at_ = d) := by
      have e : inB d x.at_ = false := HIN.out.trans hi
      exact ⟨by rw [readV, e]; rfl, by rw [readE, e]; rfl, by rw [readD, e]; rfl⟩
    clear hi HIN
    go_wp2_with fail
    refine (read_call w R 0 p d HH.out.D HH.out.W x.at_ _ _ d HR.out.1 HR.out.2.1 HR.out.2.2).mono ?_
    rintro e w1 ⟨rfl, s1, D1⟩
    obtain ⟨t1, r1, Q1, X1, y1, row1⟩ := HH.out.dev s1 R (fun _ _ => rfl)
    clear x0 x1 x2 x3
    go_wp2_with fail
    refine HE.out _ _ ?_ ⟨R, d, t1, r1, D1, Q1, HH.out.W, HH.out.F.mono (by omega), HH.out.n⟩
    refine ⟨rfl, rfl, ?_⟩
    intro x hx
    simp only [base, List.mem_cons, List.not_mem_nil, or_false] at hx
    rcases hx with rfl | rfl | rfl | rfl | rfl <;> rfl
  · cases hon : d.on
    · have HR : Hid (str (readV d x.at_) = ⟨#[]⟩ ∧ readE d x.at_ = 4 ∧ readD d x.at_ = d) := by
        have e : inB d x.at_ = true := HIN.out.trans hi
        exact ⟨by rw [readV, e, hon]; rfl, by rw [readE, e, hon]; rfl, by rw [readD, e, hon]; rfl⟩
      have HON := hid hon
      clear hi HIN hon
      go_wp2_with fail
      refine (read_call w R 0 p d HH.out.D HH.out.W x.at_ _ _ d HR.out.1 HR.out.2.1 HR.out.2.2).mono ?_
      rintro e w1 ⟨rfl, s1, D1⟩
      obtain ⟨t1, r1, Q1, X1, y1, row1⟩ := HH.out.dev s1 R (fun _ _ => rfl)
      obtain ⟨lv, rka, rkn, rkc, u1, _⟩ := id Q1
      obtain ⟨c0, c1, c2, c3, c4, c5, c6, c7⟩ := ref_cells u1
      rw [HON.out] at c2
      clear x0 x1 x2 x3 u1
      go_wp2_with fail
      refine HE.out _ _ ?_ ⟨R, d, t1, r1, D1, Q1, HH.out.W, HH.out.F.mono (by omega), HH.out.n⟩
      refine ⟨rfl, rfl, ?_⟩
      intro x hx
      simp only [base, List.mem_cons, List.not_mem_nil, or_false] at hx
      rcases hx with rfl | rfl | rfl | rfl | rfl <;> rfl
    · obtain ⟨V, hV⟩ : ∃ V, str ((flushL d.safe d.loose).getD x.at_.toNat []) = V := ⟨_, rfl⟩
      have HR : Hid (str (readV d x.at_) = V ∧ readE d x.at_ = 0 ∧ readD d x.at_ = { d with reads := d.reads + 1 }) := by
        have e : inB d x.at_ = true := HIN.out.trans hi
        exact ⟨by rw [readV, e, hon, ← hV]; rfl, by rw [readE, e, hon]; rfl, by rw [readD, e, hon]; rfl⟩
      have hz : 0 ≤ x.at_ ∧ x.at_ < (n : Int) := by simpa using hi
      have HZ := hid hz
      have HV := hid hV
      have HON := hid hon
      have hr1 : (d.reads : Int) ≤ 1000 := by have := HH.out.W.cr; omega
      clear hi HIN hon hV hz
      go_wp2_with fail
      refine (read_call w R 0 p d HH.out.D HH.out.W x.at_ _ _ _ HR.out.1 HR.out.2.1 HR.out.2.2).mono ?_
      rintro e w1 ⟨rfl, s1, D1⟩
      obtain ⟨t1, r1, Q1, X1, y1, row1⟩ := HH.out.dev s1 R (fun _ _ => rfl)
      obtain ⟨lv, rka, rkn, rkc, u1, _⟩ := id Q1
      obtain ⟨c0, c1, c2, c3, c4, c5, c6, c7⟩ := ref_cells u1
      rw [HON.out] at c2
      have f5 := frozen_of_block u1 5
      have hqx : xb ≠ q := fun e => by have := Q1.role; rw [← e, y1] at this; omega
      have X2 : XB (w1.setCell ⟨q, 5, none⟩ (.int .i64 ((d.reads : Int) + 1))) xb x := (Below.heap_setCell _ _ _ _ (fun e => hqx e)).trans X1
      obtain ⟨x0', x1', x2', x3'⟩ := X2.cells
      have s2 : Step (oneF q) w1 (w1.setCell ⟨q, 5, none⟩ (.int .i64 ((d.reads : Int) + 1))) := Step.setRef w1 5 _
      have Q2 := ref_reads Q1 ((d.reads : Int) + 1) rfl
      have W2 : Wf { d with reads := d.reads + 1 } := by
        have := readD_wf d x.at_ HH.out.W j HH.out.F (by have := HH.out.j5; omega)
        rw [HR.out.2.2] at this; exact this
      have F2 : Few { d with reads := d.reads + 1 } (j + 1) := by
        have := readD_few d x.at_ j HH.out.F
        rw [HR.out.2.2] at this; exact this
      have HALL := hid (show Wf { d with reads := d.reads + 1 } ∧ Few { d with reads := d.reads + 1 } (j + 1) from ⟨W2, F2⟩)
      have hrr := refRead_any _ R 10 q _ Q2 W2 x.at_.toNat (by show _ < d.safe.length; rw [HH.out.n]; have := HZ.out; omega)
      have e1 : ((x.at_.toNat : Nat) : Int) = x.at_ := by have := HZ.out; omega
      rw [e1] at hrr
      have HRR := hid hrr
      obtain ⟨t2, D2⟩ := ref_step (d2 := d) t1 r1 Q1.role D1 s2
      clear x0 x1 x2 x3 u1 hrr W2 F2 e1 X2
      go_wp2_with fail
      refine HRR.out.mono ?_
      rintro e w2 ⟨rfl, rfl⟩
      rw [HV.out]
      go_wp2_with fail
      refine HE.out _ _ ?_ ⟨R, _, t2, r1, D2, Q2, HALL.out.1, HALL.out.2, HH.out.n⟩
      refine ⟨rfl, rfl, ?_⟩
      intro x hx
      simp only [base, List.mem_cons, List.not_mem_nil, or_false] at hx
      rcases hx with rfl | rfl | rfl | rfl | rfl <;> rfl
end Go.Proofs.Ythgcpeibjnflaaa
