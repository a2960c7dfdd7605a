/-
  The last arm of DevExact's switch: a Write that is done; the switch as a whole.
-/
import Derived.Test.YthgcpeibjnflaaaDevArmsD
import Derived.Test.YthgcpeibjnflaaaDevApp
namespace Go.Proofs.Ythgcpeibjnflaaa
open Go.RowKit
set_option linter.unusedVariables false

/-- The frame around the append. -/
def appK (p q n j xb : Nat) (X : ByteArray) (av : Value) : List (Nat × Value) := (9, .pointer (some ⟨xb, 0, none⟩)) :: (14, .string X) :: (15, .int .i64 0) :: base p q n j av

set_option maxHeartbeats 4000000 in
set_option maxRecDepth 100000 in
theorem armW3 (w0 : World) (p q n j xb : Nat) (x : ActD) (av : Value) (R : Nat → Nat) (d : Dv) (w : World) (h : Arm w0 p q n j xb x R d w) (K : Int) (hk : x.kind = K) (h4 : ¬ K = 4) (h5 : ¬ K = 5) (h6 : ¬ K = 6) (h7 : ¬ K = 7) (h8 : ¬ K = 8) (h9 : ¬ K = 9) (h10 : ¬ K = 10) (h11 : ¬ K = 11)
    (hin : (decide (0 ≤ x.at_) && decide (x.at_ < (n : Int))) = true) (hgo : goB d = true) (Q : Exit → Act → World → Prop) (a : Act) (ha : Kn (armK p q n j xb x av) a)
    (hend : ∀ a' w', Kn (base p q n j av) a' → Both w0 p q n (j + 1) w' → Q .normal a' w') :
    Code.wp Try.prog (nav [1, 1, 1, 1, 1, 1, 1, 1, 0, 1, 0, 0, 1, 0, 0, 1, 1, 1, 0, 1] (Try.f3.body.getD .skip)) Q a w := by
  have e4 := h4
  have e5 := h5
  have e6 := h6
  have e7 := h7
  have e8 := h8
  have e9 := h9
  have e10 := h10
  have e11 := h11
  clear h4 h5 h6 h7 h8 h9 h10 h11
  obtain ⟨f, rfl, hf⟩ := ha.open
  have h1 : f 1 = av := hf (1, av) (by simp [armK, base])
  have h5 : f 5 = .pointer (some ⟨p, 0, none⟩) := hf (5, _) (by simp [armK, base])
  have h6 : f 6 = .int .i64 n := hf (6, _) (by simp [armK, base])
  have h7 : f 7 = .pointer (some ⟨q, 0, none⟩) := hf (7, _) (by simp [armK, base])
  have h8 : f 8 = .int .i64 j := hf (8, _) (by simp [armK, base])
  have h9 : f 9 = .pointer (some ⟨xb, 0, none⟩) := hf (9, _) (by simp [armK, base])
  have h10 : f 10 = .bool (decide (0 ≤ x.at_) && decide (x.at_ < (n : Int))) := hf (10, _) (by simp [armK, base])
  have h67 : f 67 = .int .i64 x.kind := hf (67, _) (by simp [armK, base])
  simp only [fr, h1, h5, h6, h7, h8, h9, h10, h67, hk]
  clear hf h1 h5 h6 h7 h8 h9 h10 h67 ha
  conv => arg 2; whnf
  have HE := hid hend
  have HH := hid h
  clear hend
  obtain ⟨x0, x1, x2, x3⟩ := h.X.cells
  clear h
  rw [hin]
  obtain ⟨X, hX⟩ : ∃ X, str (blk x.n) = X := ⟨_, rfl⟩
  have hXs : X.size = 256 := by rw [← hX, str_size, blk_len]
  have HX := hid hX
  have hz : 0 ≤ x.at_ ∧ x.at_ < (n : Int) := by simpa using hin
  obtain ⟨z, hz1⟩ := Int.eq_ofNat_of_zero_le hz.1
  obtain ⟨d1, hd1⟩ : ∃ d1, goD d = d1 := ⟨_, rfl⟩
  obtain ⟨g1, g2, g3, g4, g5, g6⟩ := goD_same d hgo
  rw [hd1] at g1 g2 g3 g4 g5 g6
  have HW : Hid (wrE d x.at_ (blk x.n) = 0 ∧ wrD d x.at_ (blk x.n) = { d1 with loose := d1.loose ++ [(z, blk x.n)], writes := d1.writes + 1 }) := by
    have e1 : inB d x.at_ = true := by rw [inB, HH.out.n]; exact hin
    refine ⟨by simp [wrE, e1, blk_len, hgo], ?_⟩
    have e3 : x.at_.toNat = z := by omega
    simp [wrD, e1, blk_len, hgo, hd1, g3, e3]
  have HF : Hid (Wf (wrD d x.at_ (blk x.n)) ∧ Few (wrD d x.at_ (blk x.n)) (j + 1)) := ⟨wrD_wf d _ _ HH.out.W j HH.out.F (by have := HH.out.j5; omega), wrD_few d _ _ j HH.out.F⟩
  rw [HW.out.2] at HF
  have HN : Hid (d1.safe.length = n) := by show _ = _; rw [g1]; exact HH.out.n
  have hll : d1.loose.length ≤ 1000 := by rw [g2]; exact HH.out.W.ll
  have hww : (d1.writes : Int) ≤ 1000 := by rw [g3]; have := HH.out.W.cw; omega
  have HGO := hid hgo
  have HZ1 := hid hz1
  have HD1 := hid hd1
  clear hX hgo hin g1 g2 g3 g4 g5 g6 hz hd1 hz1
  rw [hk] at x0
  go_wp2_with fail
  refine (block_call _ x.n rfl X HX.out w).mono ?_
  rintro e w1 ⟨rfl, s1⟩
  have A1 := hid (HH.out.step s1)
  obtain ⟨x0', x1', x2', x3'⟩ := A1.out.X.cells
  rw [hk] at x0'
  clear x0 x1 x2 x3 s1
  go_wp2_with fail
  refine (write_call w1 R 0 p d A1.out.D A1.out.W x.at_ (blk x.n) (by rw [blk_len]; omega) X HX.out 0 _ HW.out.1 HW.out.2).mono ?_
  rintro e w2 ⟨rfl, s2, R2, hR2, D2⟩
  obtain ⟨t2, r2, Q2, X2, y2, row2⟩ := A1.out.dev s2 R2 hR2
  have T2 := hid (show Step noF w0 w2 ∧ (∀ k, k < w0.heap.size → R2 k = 0) from ⟨t2, r2⟩)
  clear t2 r2
  go_wp2_with fail
  refine (burnt_any w2 R2 10 q d Q2 HH.out.W).mono ?_
  rintro e w3 ⟨rfl, s3, Q3⟩
  rw [HGO.out]
  rw [HD1.out] at Q3
  obtain ⟨t3, D3⟩ := ref_step (d2 := d) T2.out.1 T2.out.2 Q2.role D2 s3
  have hqx : ¬ xb = q := fun e => by have := Q2.role; rw [← e, y2] at this; omega
  have X3 := X2.mono s3 hqx
  obtain ⟨m0, m1, m2, m3⟩ := X3.cells
  rw [HZ1.out] at m1
  obtain ⟨lv, rka, rkn, rkc, u1, u2, u3, u4, u5⟩ := id Q3
  obtain ⟨la, lc, rfl⟩ := owns_form u4
  obtain ⟨c0, c1, c2, c3, c4, c5, c6, c7⟩ := ref_cells u1
  obtain ⟨i0, hi, hz0, hzz, hz2⟩ := info_three info_rwrite
  obtain ⟨m, hm⟩ : ∃ m, d1.loose.length = m := ⟨_, rfl⟩
  rw [hm] at c1 u4 hll
  have hmx : Hid (m + 1 ≤ maxLen) := by show _ ≤ _; unfold maxLen; omega
  have hmb : Hid ((m + 1) * 24 ≤ 140737488355328) := by show _ ≤ _; omega
  have hone : Hid (∀ u ∈ [Value.int .i64 (z : Int), Value.string X], u.oneCell' = true) := by
    intro u hu
    simp at hu
    rcases hu with rfl | rfl <;> rfl
  have U1 := hid u1
  have U4 := hid u4
  have HALL := hid (show Step noF w0 w3 ∧ IsDev w3 R2 0 p { d1 with loose := d1.loose ++ [(z, blk x.n)], writes := d1.writes + 1 } ∧ R2 q = 11 ∧ (∀ k, (Value.slice la d1.loose.length lc).ownBlock = some k → R2 k = 14) from ⟨t3, D3, u2, u3⟩)
  have U5 := hid u5
  clear t3 D3 u1 u2 u3 u4 u5 Q3 Q2 X2 X3 D2 row2 x0' x1' x2' x3' c0 c2 c3 c4 c5 c7
  go_wp2_with fail
  have hne : Hid (some q ≠ (Value.slice la m lc).ownBlock) := fun e => by
    have e2 := HALL.out.2.2.2 q (by rw [hm]; exact e.symm)
    have := HALL.out.2.2.1
    omega
  change Code.wp _ (Code.region 35 ((Try.f3.body.bind (regionOps 35)).getD #[]) true) _ _ _
  have U1' := U1.out
  rw [hm] at U1'
  refine app_go q xb m lc z la X w3 _ _ _ _ _ _ _ U1' hne.out _ U4.out hll m1 _ rfl rfl rfl rfl ?_
  intro a' w4 v hA hdf hs2 hfr
  have hk' : Kn (appK p q n j xb X av) a' := by
    refine ⟨hdf, hs2, ?_⟩
    intro y hy
    simp only [appK, base, List.mem_cons, List.not_mem_nil, or_false] at hy
    rcases hy with rfl | rfl | rfl | rfl | rfl | rfl | rfl | rfl <;> exact hfr _ (by dsimp only; decide)
  have hb' := grown_block hA.2.1 (show (w3.drew.alloc _).heap[q]? = _ from block_alloc_old (w := w3.drew) U1' _) hne.out
  have hb2 := RHead.set hb' 1 v
  have c6' : (w4.setCell ⟨q, 1, none⟩ v).cell? ⟨q, 6, none⟩ = some (.int .i64 d1.writes) := cell_of_block hb2 6
  have f6' := frozen_of_block hb2 6
  have HA := hid hA
  clear hb' hb2 hfr hdf hs2 hA m0 m1 m2 m3 c1 c6
  obtain ⟨f', rfl, hf⟩ := hk'.open
  have h1 : f' 1 = av := hf (1, av) (by simp [appK, base])
  have h5 : f' 5 = .pointer (some ⟨p, 0, none⟩) := hf (5, _) (by simp [appK, base])
  have h6 : f' 6 = .int .i64 n := hf (6, _) (by simp [appK, base])
  have h7 : f' 7 = .pointer (some ⟨q, 0, none⟩) := hf (7, _) (by simp [appK, base])
  have h8 : f' 8 = .int .i64 j := hf (8, _) (by simp [appK, base])
  have h9 : f' 9 = .pointer (some ⟨xb, 0, none⟩) := hf (9, _) (by simp [appK, base])
  have h14 : f' 14 = .string X := hf (14, _) (by simp [appK, base])
  have h15 : f' 15 = .int .i64 0 := hf (15, _) (by simp [appK, base])
  simp only [fr, h1, h5, h6, h7, h8, h9, h14, h15]
  clear hf h1 h5 h6 h7 h8 h9 h14 h15 hk'
  go_wp2_with fail
  obtain ⟨t3, D3, q11, q14⟩ := HALL.out
  have hm' := hm
  subst hm'
  have e3 := U4.out
  obtain ⟨R3, hR3, s4, Q4⟩ := ref_append (wa := w3.drew.alloc (.cells #[.int .i64 z, .string X] 45)) (z := z) (b := blk x.n) U1.out q11 q14 U5.out U4.out (((Step.refl noF w3).drew).alloc _) (by rw [HX.out]; exact HA.out.1) HA.out.2.1 HA.out.2.2 ((d1.writes : Int) + 1) rfl
  have r0 := T2.out.2
  have t4 : Step noF w0 ((w4.setCell ⟨q, 1, none⟩ v).setCell ⟨q, 6, none⟩ (.int .i64 ((d1.writes : Int) + 1))) := t3.then s4 (fun i hi => by
    rcases Nat.lt_or_ge i w0.heap.size with h | h
    · have := r0 i h; omega
    · exact .inr h)
  refine HE.out _ _ ?_ ⟨R3, _, t4, fun k hk => (hR3 k (Nat.lt_of_lt_of_le hk t3.size)).trans (r0 k hk), D3.mono s4 (fun k a b x => by omega) hR3, Q4, HF.out.1, HF.out.2, HN.out⟩
  refine ⟨rfl, rfl, ?_⟩
  intro x hx
  simp only [base, List.mem_cons, List.not_mem_nil, or_false] at hx
  rcases hx with rfl | rfl | rfl | rfl | rfl <;> rfl

/-- The switch, whatever the deed. -/
theorem switch_any (w0 : World) (p q n j xb : Nat) (x : ActD) (av : Value) (R : Nat → Nat) (d : Dv) (w : World) (h : Arm w0 p q n j xb x R d w) (Q : Exit → Act → World → Prop) (a : Act) (ha : Kn (armK p q n j xb x av) a)
    (hend : ∀ a' w', Kn (base p q n j av) a' → Both w0 p q n (j + 1) w' → Q .normal a' w') :
    Code.wp Try.prog (nav [1, 1, 1, 1, 1, 1, 1, 1, 0, 1, 0, 0, 1, 0, 0, 1, 1, 1, 0, 1] (Try.f3.body.getD .skip)) Q a w := by
  obtain ⟨K, hK⟩ : ∃ K, x.kind = K := ⟨_, rfl⟩
  by_cases h6 : K = 6
  · exact arm6 w0 p q n j xb x av R d w h (hK.trans h6) Q a ha hend
  by_cases h7 : K = 7
  · exact arm7 w0 p q n j xb x av R d w h (hK.trans h7) Q a ha hend
  by_cases h8 : K = 8
  · exact arm8 w0 p q n j xb x av R d w h (hK.trans h8) Q a ha hend
  by_cases h9 : K = 9
  · exact arm9 w0 p q n j xb x av R d w h K hK (.inl h9) Q a ha hend
  by_cases h10 : K = 10
  · exact arm9 w0 p q n j xb x av R d w h K hK (.inr h10) Q a ha hend
  by_cases h11 : K = 11
  · exact arm11 w0 p q n j xb x av R d w h (hK.trans h11) Q a ha hend
  have hin : inB d x.at_ = (decide (0 ≤ x.at_) && decide (x.at_ < (n : Int))) := by rw [inB, h.n]
  have bad : ∀ b, wrB K x.n b → ((decide (0 ≤ x.at_) && decide (x.at_ < (n : Int))) = false ∨ ¬ b.length = 256) → Code.wp Try.prog (nav [1, 1, 1, 1, 1, 1, 1, 1, 0, 1, 0, 0, 1, 0, 0, 1, 1, 1, 0, 1] (Try.f3.body.getD .skip)) Q a w := by
    intro b hb hc
    cases hi : (decide (0 ≤ x.at_) && decide (x.at_ < (n : Int)))
    · rw [hi] at hin
      exact armW1 w0 p q n j xb x av R d w h K hK b hb h6 h7 h8 h9 h10 h11 3 d (by simp [wrE, hin]) (by simp [wrD, hin]) (.inl ⟨hi, rfl, rfl⟩) Q a ha hend
    · have hl : ¬ b.length = 256 := by
        rcases hc with hc | hc
        · rw [hi] at hc; cases hc
        · exact hc
      rw [hi] at hin
      exact armW1 w0 p q n j xb x av R d w h K hK b hb h6 h7 h8 h9 h10 h11 1 d (by simp [wrE, hin, hl]) (by simp [wrD, hin, hl]) (.inr ⟨hi, hl, rfl, rfl⟩) Q a ha hend
  by_cases h4 : K = 4
  · exact bad ((blk x.n).drop 1) (.inl ⟨h4, rfl⟩) (.inr (by rw [List.length_drop, blk_len]; omega))
  by_cases h5 : K = 5
  · exact bad (blk x.n ++ [120]) (.inr (.inl ⟨h5, rfl⟩)) (.inr (by rw [List.length_append, blk_len]; simp))
  cases hi : (decide (0 ≤ x.at_) && decide (x.at_ < (n : Int)))
  · exact bad (blk x.n) (.inr (.inr ⟨h4, h5, rfl⟩)) (.inl hi)
  · cases hg : goB d
    · exact armW2 w0 p q n j xb x av R d w h K hK h4 h5 h6 h7 h8 h9 h10 h11 hi hg Q a ha hend
    · exact armW3 w0 p q n j xb x av R d w h K hK h4 h5 h6 h7 h8 h9 h10 h11 hi hg Q a ha hend
end Go.Proofs.Ythgcpeibjnflaaa
