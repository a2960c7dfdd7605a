/-
  The last arm of DevExact's switch: a Write.
-/
import Derived.Test.YthgcpeibjnflaaaDevArmsB
namespace Go.Proofs.Ythgcpeibjnflaaa
open Go.RowKit
set_option linter.unusedVariables false

theorem Arm.step {w0 : World} {p q n j xb : Nat} {x : ActD} {R : Nat → Nat} {d : Dv} {w w1 : World} (h : Arm w0 p q n j xb x R d w) (s : Step noF w w1) : Arm w0 p q n j xb x R d w1 :=
  { st := h.st.trans s, R0 := h.R0, D := h.D.step s, Q := h.Q.mono s (fun _ _ x => x) (fun _ _ => rfl), W := h.W, F := h.F, n := h.n, X := h.X.mono s (fun x => x), Rx := h.Rx
    row := rowAt_keep h.row (fun k hk hF => ⟨s.block k hk (fun x => x), hF⟩), kl := h.kl, kc := h.kc, az := h.az, j5 := h.j5 }

/-- Which block is written. -/
def wrB (K : Int) (N : UInt8) (b : List UInt8) : Prop := (K = 4 ∧ b = (blk N).drop 1) ∨ (K = 5 ∧ b = blk N ++ [120]) ∨ (¬ K = 4 ∧ ¬ K = 5 ∧ b = blk N)
theorem wrB_len {K : Int} {N : UInt8} {b : List UInt8} (h : wrB K N b) : b.length ≤ 257 ∧ (b.length = 256 ↔ ¬ K = 4 ∧ ¬ K = 5) := by
  rcases h with ⟨rfl, rfl⟩ | ⟨rfl, rfl⟩ | ⟨h4, h5, rfl⟩
  · rw [List.length_drop, blk_len]; simp
  · rw [List.length_append, blk_len]; simp
  · rw [blk_len]; simp [h4, h5]

set_option maxHeartbeats 4000000 in
set_option maxRecDepth 100000 in
theorem armW1 (w0 : World) (p q n j xb : Nat) (x : ActD) (av : Value) (R : Nat → Nat) (d : Dv) (w : World) (h : Arm w0 p q n j xb x R d w) (K : Int) (hk : x.kind = K) (b : List UInt8) (hb : wrB K x.n b) (h6 : ¬ K = 6) (h7 : ¬ K = 7) (h8 : ¬ K = 8) (h9 : ¬ K = 9) (h10 : ¬ K = 10) (h11 : ¬ K = 11) (e0 : Int) (d1 : Dv) (hE : wrE d x.at_ b = e0) (hD : wrD d x.at_ b = d1)
    (hcase : ((decide (0 ≤ x.at_) && decide (x.at_ < (n : Int))) = false ∧ e0 = 3 ∧ d1 = d) ∨ ((decide (0 ≤ x.at_) && decide (x.at_ < (n : Int))) = true ∧ ¬ b.length = 256 ∧ e0 = 1 ∧ d1 = d)) (Q : Exit → Act → World → Prop) (a : Act) (ha : Kn (armK p q n j xb x av) a)
    (hend : ∀ a' w', Kn (base p q n j av) a' → Both w0 p q n (j + 1) w' → Q .normal a' w') :
    Code.wp Try.prog (nav [1, 1, 1, 1, 1, 1, 1, 1, 0, 1, 0, 0, 1, 0, 0, 1, 1, 1, 0, 1] (Try.f3.body.getD .skip)) Q a w := by
  have e6 := h6
  have e7 := h7
  have e8 := h8
  have e9 := h9
  have e10 := h10
  have e11 := h11
  clear h6 h7 h8 h9 h10 h11
  obtain ⟨f, rfl, hf⟩ := ha.open
  have h1 : f 1 = av := hf (1, av) (by simp [armK, base])
  have h5 : f 5 = .pointer (some ⟨p, 0, none⟩) := hf (5, _) (by simp [armK, base])
  have h6 : f 6 = .int .i64 n := hf (6, _) (by simp [armK, base])
  have h7 : f 7 = .pointer (some ⟨q, 0, none⟩) := hf (7, _) (by simp [armK, base])
  have h8 : f 8 = .int .i64 j := hf (8, _) (by simp [armK, base])
  have h9 : f 9 = .pointer (some ⟨xb, 0, none⟩) := hf (9, _) (by simp [armK, base])
  have h10 : f 10 = .bool (decide (0 ≤ x.at_) && decide (x.at_ < (n : Int))) := hf (10, _) (by simp [armK, base])
  have h67 : f 67 = .int .i64 x.kind := hf (67, _) (by simp [armK, base])
  simp only [fr, h1, h5, h6, h7, h8, h9, h10, h67, hk]
  clear hf h1 h5 h6 h7 h8 h9 h10 h67 ha
  conv => arg 2; whnf
  have HE := hid hend
  have HH := hid h
  clear hend
  obtain ⟨x0, x1, x2, x3⟩ := h.X.cells
  clear h
  obtain ⟨X, hX⟩ : ∃ X, str (blk x.n) = X := ⟨_, rfl⟩
  have hXs : X.size = 256 := by rw [← hX, str_size, blk_len]
  have HX := hid hX
  obtain ⟨B, hB⟩ : ∃ B, str b = B := ⟨_, rfl⟩
  have hBs : B.size = b.length := by rw [← hB, str_size]
  have HBl := hid (wrB_len hb)
  have H4 : Hid (K = 4 → X.extract 1 256 = B) := by
    intro h4
    rcases hb with ⟨_, rfl⟩ | ⟨h, _⟩ | ⟨h, _⟩
    · rw [← hX, ← hB, str_extract, List.take_of_length_le (by rw [blk_len]; omega)]
    · omega
    · exact absurd h4 h
  have H5 : Hid (K = 5 → X ++ ⟨#[120]⟩ = B) := by
    intro h5
    rcases hb with ⟨h, _⟩ | ⟨_, rfl⟩ | ⟨_, h, _⟩
    · omega
    · rw [← hX, ← hB, str_append]
    · exact absurd h5 h
  have H0 : Hid (¬ K = 4 → ¬ K = 5 → X = B) := by
    intro h4 h5
    rcases hb with ⟨h, _⟩ | ⟨h, _⟩ | ⟨_, _, rfl⟩
    · exact absurd h h4
    · exact absurd h h5
    · rw [← hX, ← hB]
  have HB := hid hB
  have HW := hid (show wrE d x.at_ b = e0 ∧ wrD d x.at_ b = d1 from ⟨hE, hD⟩)
  clear hX hB hb hE hD
  rw [hk] at x0
  go_wp2_with fail
  refine (block_call _ x.n rfl X HX.out w).mono ?_
  rintro e w1 ⟨rfl, s1⟩
  have A1 := hid (HH.out.step s1)
  obtain ⟨x0', x1', x2', x3'⟩ := A1.out.X.cells
  rw [hk] at x0'
  clear x0 x1 x2 x3 s1
  have hb3 : (b.length : Int) ≤ 257 := by have := HBl.out.1; omega
  rcases (show K = 4 ∨ K = 5 ∨ (¬ K = 4 ∧ ¬ K = 5) by omega) with h4 | h5 | ⟨h4, h5⟩
  · subst h4
    have E := H4.out rfl
    clear H4 H5 H0
    go_wp2_with fail
    refine (write_call w1 R 0 p d A1.out.D A1.out.W x.at_ b (by have := HBl.out.1; omega) B HB.out e0 d1 HW.out.1 HW.out.2).mono ?_
    rintro e w2 ⟨rfl, s2, R2, hR2, D2⟩
    obtain ⟨t2, r2, Q2, X2, y2, row2⟩ := A1.out.dev s2 R2 hR2
    rcases hcase with ⟨hc, rfl, rfl⟩ | ⟨hc, hl, rfl, rfl⟩
    · rw [hc]
      go_wp2_with fail
      refine HE.out _ _ ?_ ⟨R2, _, t2, r2, D2, Q2, HH.out.W, HH.out.F.mono (by omega), HH.out.n⟩
      refine ⟨rfl, rfl, ?_⟩
      intro x hx
      simp only [base, List.mem_cons, List.not_mem_nil, or_false] at hx
      rcases hx with rfl | rfl | rfl | rfl | rfl <;> rfl
    · have hl2 : ¬ (b.length : Int) = 256 := by omega
      rw [hc]
      go_wp2_with fail
      refine HE.out _ _ ?_ ⟨R2, _, t2, r2, D2, Q2, HH.out.W, HH.out.F.mono (by omega), HH.out.n⟩
      refine ⟨rfl, rfl, ?_⟩
      intro x hx
      simp only [base, List.mem_cons, List.not_mem_nil, or_false] at hx
      rcases hx with rfl | rfl | rfl | rfl | rfl <;> rfl
  · subst h5
    have E := H5.out rfl
    clear H4 H5 H0
    go_wp2_with fail
    refine (write_call w1 R 0 p d A1.out.D A1.out.W x.at_ b (by have := HBl.out.1; omega) B HB.out e0 d1 HW.out.1 HW.out.2).mono ?_
    rintro e w2 ⟨rfl, s2, R2, hR2, D2⟩
    obtain ⟨t2, r2, Q2, X2, y2, row2⟩ := A1.out.dev s2 R2 hR2
    rcases hcase with ⟨hc, rfl, rfl⟩ | ⟨hc, hl, rfl, rfl⟩
    · rw [hc]
      go_wp2_with fail
      refine HE.out _ _ ?_ ⟨R2, _, t2, r2, D2, Q2, HH.out.W, HH.out.F.mono (by omega), HH.out.n⟩
      refine ⟨rfl, rfl, ?_⟩
      intro x hx
      simp only [base, List.mem_cons, List.not_mem_nil, or_false] at hx
      rcases hx with rfl | rfl | rfl | rfl | rfl <;> rfl
    · have hl2 : ¬ (b.length : Int) = 256 := by omega
      rw [hc]
      go_wp2_with fail
      refine HE.out _ _ ?_ ⟨R2, _, t2, r2, D2, Q2, HH.out.W, HH.out.F.mono (by omega), HH.out.n⟩
      refine ⟨rfl, rfl, ?_⟩
      intro x hx
      simp only [base, List.mem_cons, List.not_mem_nil, or_false] at hx
      rcases hx with rfl | rfl | rfl | rfl | rfl <;> rfl
  · have E := H0.out h4 h5
    have hl := HBl.out.2.2 ⟨h4, h5⟩
    clear H4 H5 H0
    subst E
    go_wp2_with fail
    refine (write_call w1 R 0 p d A1.out.D A1.out.W x.at_ b (by have := HBl.out.1; omega) X HB.out e0 d1 HW.out.1 HW.out.2).mono ?_
    rintro e w2 ⟨rfl, s2, R2, hR2, D2⟩
    obtain ⟨t2, r2, Q2, X2, y2, row2⟩ := A1.out.dev s2 R2 hR2
    rcases hcase with ⟨hc, rfl, rfl⟩ | ⟨hc, hl3, _⟩
    · rw [hc]
      go_wp2_with fail
      refine HE.out _ _ ?_ ⟨R2, _, t2, r2, D2, Q2, HH.out.W, HH.out.F.mono (by omega), HH.out.n⟩
      refine ⟨rfl, rfl, ?_⟩
      intro x hx
      simp only [base, List.mem_cons, List.not_mem_nil, or_false] at hx
      rcases hx with rfl | rfl | rfl | rfl | rfl <;> rfl
    · exact absurd hl hl3
end Go.Proofs.Ythgcpeibjnflaaa
