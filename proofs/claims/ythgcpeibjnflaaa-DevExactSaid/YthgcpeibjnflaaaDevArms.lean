/-
  The arms of DevExact's switch.
-/
import Derived.Test.YthgcpeibjnflaaaDevTail
namespace Go.Proofs.Ythgcpeibjnflaaa
open Go.RowKit
set_option linter.unusedVariables false

/-- The deed at block xb. -/
def XB (w : World) (xb : Nat) (x : ActD) : Prop := w.heap[xb]? = some (.cells #[.int .i64 x.kind, .int .i64 x.at_, .int .u8 x.n.toNat, .slice x.ka x.ks.length x.kc] 30 (0, 0))
theorem XB.mono {w w' : World} {xb : Nat} {x : ActD} {F : Nat → Prop} (h : XB w xb x) (hs : Step F w w') (hF : ¬ F xb) : XB w' xb x := (hs.block xb (lt_of_block h) hF).trans h
theorem XB.cells {w : World} {xb : Nat} {x : ActD} (h : XB w xb x) : w.cell? ⟨xb, 0, none⟩ = some (.int .i64 x.kind) ∧ w.cell? ⟨xb, 1, none⟩ = some (.int .i64 x.at_) ∧ w.cell? ⟨xb, 2, none⟩ = some (.int .u8 x.n.toNat) ∧ w.cell? ⟨xb, 3, none⟩ = some (.slice x.ka x.ks.length x.kc) :=
  ⟨cell_of_block h 0, cell_of_block h 1, cell_of_block h 2, cell_of_block h 3⟩

/-- Both sides, the deed beside them. -/
structure Arm (w0 : World) (p q n j xb : Nat) (x : ActD) (R : Nat → Nat) (d : Dv) (w : World) : Prop where
  st : Step noF w0 w
  R0 : ∀ k, k < w0.heap.size → R k = 0
  D : IsDev w R 0 p d
  Q : IsRef w R 10 q d
  W : Wf d
  F : Few d j
  n : d.safe.length = n
  X : XB w xb x
  Rx : R xb = 40
  row : RowAt w (fun k => R k ≠ 0) x.ka (bools x.ks)
  kl : x.ks.length ≤ 100
  kc : x.ks.length ≤ x.kc
  az : x.at_ ≤ 9223372036854775807
  j5 : j < 50

/-- What the frame has at the switch. -/
def armK (p q n j xb : Nat) (x : ActD) (av : Value) : List (Nat × Value) := (9, .pointer (some ⟨xb, 0, none⟩)) :: (10, .bool (decide (0 ≤ x.at_) && decide (x.at_ < (n : Int)))) :: (67, .int .i64 x.kind) :: base p q n j av

theorem cutD_len (d : Dv) (ks : List Bool) : (cutD d ks).safe.length = d.safe.length := by
  unfold cutD
  split
  · exact cutN_length _ _ _ _
  · rfl
theorem goD_len (d : Dv) : (goD d).safe.length = d.safe.length := by
  unfold goD
  split
  · split
    · rfl
    · exact cutD_len _ _
    · rfl
  · rfl
theorem flD_len (d : Dv) : (flD d).safe.length = d.safe.length := by
  unfold flD
  split
  · show (flushL _ _).length = _
    rw [flushL_length, goD_len]
  · exact goD_len d

/-- The device's step is nothing to the reference, nor to what came in. -/
theorem Arm.dev {w0 : World} {p q n j xb : Nat} {x : ActD} {R : Nat → Nat} {d : Dv} {w w1 : World} (h : Arm w0 p q n j xb x R d w) (s : Step (Rng R 0) w w1) (R1 : Nat → Nat) (hR : ∀ k, k < w.heap.size → R1 k = R k) :
    Step noF w0 w1 ∧ (∀ k, k < w0.heap.size → R1 k = 0) ∧ IsRef w1 R1 10 q d ∧ XB w1 xb x ∧ R1 xb = 40 ∧ RowAt w1 (fun k => R1 k ≠ 0) x.ka (bools x.ks) := by
  refine ⟨h.st.fresh s (fun k hk => by rw [h.R0 k hk]; omega), fun k hk => (hR k (Nat.lt_of_lt_of_le hk h.st.size)).trans (h.R0 k hk), h.Q.mono s (fun k hk x => by unfold Rng at x; omega) hR, h.X.mono s (fun x => by unfold Rng at x; rw [h.Rx] at x; omega), (hR xb (lt_of_block h.X)).trans h.Rx, rowAt_keep h.row (fun k hk hF => ?_)⟩
  have e0 : R k = 0 := Classical.not_not.1 hF
  exact ⟨s.block k hk (fun x => by unfold Rng at x; omega), fun x => x ((hR k hk).trans e0)⟩
/-- The reference's step is nothing to the device. -/
theorem ref_step {w0 : World} {p q : Nat} {R : Nat → Nat} {d d2 : Dv} {w w1 : World} (st : Step noF w0 w) (R0 : ∀ k, k < w0.heap.size → R k = 0) (hq : R q = 11) (D : IsDev w R 0 p d) (s : Step (oneF q) w w1) : Step noF w0 w1 ∧ IsDev w1 R 0 p d := by
  refine ⟨st.then s (fun i hi => ?_), D.mono s (fun k a b x => by unfold oneF at x; subst x; omega) (fun _ _ => rfl)⟩
  have : i = q := hi
  subst this
  rcases Nat.lt_or_ge i w0.heap.size with h | h
  · have := R0 i h; omega
  · exact .inr h
theorem IsRef.role {w : World} {R : Nat → Nat} {o q : Nat} {d : Dv} (h : IsRef w R o q d) : R q = o + 1 := by
  obtain ⟨lv, ka, kn, kc, h1, h2, _⟩ := h
  exact h2

set_option maxHeartbeats 4000000 in
set_option maxRecDepth 100000 in
theorem arm7 (w0 : World) (p q n j xb : Nat) (x : ActD) (av : Value) (R : Nat → Nat) (d : Dv) (w : World) (h : Arm w0 p q n j xb x R d w) (hk : x.kind = 7) (Q : Exit → Act → World → Prop) (a : Act) (ha : Kn (armK p q n j xb x av) a)
    (hend : ∀ a' w', Kn (base p q n j av) a' → Both w0 p q n (j + 1) w' → Q .normal a' w') :
    Code.wp Try.prog (nav [1, 1, 1, 1, 1, 1, 1, 1, 0, 1, 0, 0, 1, 0, 0, 1, 1, 1, 0, 1] (Try.f3.body.getD .skip)) Q a w := by
  obtain ⟨f, rfl, hf⟩ := ha.open
  have h1 : f 1 = av := hf (1, av) (by simp [armK, base])
  have h5 : f 5 = .pointer (some ⟨p, 0, none⟩) := hf (5, _) (by simp [armK, base])
  have h6 : f 6 = .int .i64 n := hf (6, _) (by simp [armK, base])
  have h7 : f 7 = .pointer (some ⟨q, 0, none⟩) := hf (7, _) (by simp [armK, base])
  have h8 : f 8 = .int .i64 j := hf (8, _) (by simp [armK, base])
  have h9 : f 9 = .pointer (some ⟨xb, 0, none⟩) := hf (9, _) (by simp [armK, base])
  have h10 : f 10 = .bool (decide (0 ≤ x.at_) && decide (x.at_ < (n : Int))) := hf (10, _) (by simp [armK, base])
  have h67 : f 67 = .int .i64 x.kind := hf (67, _) (by simp [armK, base])
  simp only [fr, h1, h5, h6, h7, h8, h9, h10, h67, hk]
  clear hf h1 h5 h6 h7 h8 h9 h10 h67 ha
  conv => arg 2; whnf
  have HE := hid hend
  have HH := hid h
  clear hend
  obtain ⟨x0, x1, x2, x3⟩ := h.X.cells
  clear h
  go_wp2_with fail
  refine (cut_call w R 0 p d HH.out.D HH.out.W x.ka _ x.kc x.ks rfl HH.out.kc (by have := HH.out.kl; omega) (rowAt_keep HH.out.row (fun k hk hF => ⟨rfl, fun y => hF (by omega)⟩)) _ rfl).mono ?_
  rintro e w1 ⟨rfl, s1, D1⟩
  obtain ⟨t1, r1, Q1, X1, y1, row1⟩ := HH.out.dev s1 R (fun _ _ => rfl)
  have T1 := hid (show Step noF w0 w1 ∧ (∀ k, k < w0.heap.size → R k = 0) from ⟨t1, r1⟩)
  obtain ⟨x0', x1', x2', x3'⟩ := X1.cells
  clear x0 x1 x2 x3 t1 r1
  go_wp2_with fail
  refine (refCut_any w1 R 10 q d Q1 HH.out.W x.ka x.kc x.ks (by have := HH.out.kl; omega) row1).mono ?_
  rintro e w2 ⟨rfl, s2, Q2⟩
  obtain ⟨t2, D2⟩ := ref_step (d2 := d) T1.out.1 T1.out.2 Q1.role D1 s2
  go_wp2_with fail
  refine HE.out _ _ ?_ ⟨R, cutD d x.ks, t2, T1.out.2, D2, Q2, cutD_wf d x.ks HH.out.W, (cutD_few d x.ks j HH.out.F).mono (by omega), (cutD_len d x.ks).trans HH.out.n⟩
  refine ⟨rfl, rfl, ?_⟩
  intro x hx
  simp only [base, List.mem_cons, List.not_mem_nil, or_false] at hx
  rcases hx with rfl | rfl | rfl | rfl | rfl <;> rfl
end Go.Proofs.Ythgcpeibjnflaaa
