/-
  The last arm of DevExact's switch: a Write of a whole block to a place that is there.
-/
import Derived.Test.YthgcpeibjnflaaaDevArmsC
namespace Go.Proofs.Ythgcpeibjnflaaa
open Go.RowKit
set_option linter.unusedVariables false

set_option maxHeartbeats 4000000 in
set_option maxRecDepth 100000 in
theorem armW2 (w0 : World) (p q n j xb : Nat) (x : ActD) (av : Value) (R : Nat → Nat) (d : Dv) (w : World) (h : Arm w0 p q n j xb x R d w) (K : Int) (hk : x.kind = K) (h4 : ¬ K = 4) (h5 : ¬ K = 5) (h6 : ¬ K = 6) (h7 : ¬ K = 7) (h8 : ¬ K = 8) (h9 : ¬ K = 9) (h10 : ¬ K = 10) (h11 : ¬ K = 11)
    (hin : (decide (0 ≤ x.at_) && decide (x.at_ < (n : Int))) = true) (hgo : goB d = false) (Q : Exit → Act → World → Prop) (a : Act) (ha : Kn (armK p q n j xb x av) a)
    (hend : ∀ a' w', Kn (base p q n j av) a' → Both w0 p q n (j + 1) w' → Q .normal a' w') :
    Code.wp Try.prog (nav [1, 1, 1, 1, 1, 1, 1, 1, 0, 1, 0, 0, 1, 0, 0, 1, 1, 1, 0, 1] (Try.f3.body.getD .skip)) Q a w := by
  have e4 := h4
  have e5 := h5
  have e6 := h6
  have e7 := h7
  have e8 := h8
  have e9 := h9
  have e10 := h10
  have e11 := h11
  clear h4 h5 h6 h7 h8 h9 h10 h11
  obtain ⟨f, rfl, hf⟩ := ha.open
  have h1 : f 1 = av := hf (1, av) (by simp [armK, base])
  have h5 : f 5 = .pointer (some ⟨p, 0, none⟩) := hf (5, _) (by simp [armK, base])
  have h6 : f 6 = .int .i64 n := hf (6, _) (by simp [armK, base])
  have h7 : f 7 = .pointer (some ⟨q, 0, none⟩) := hf (7, _) (by simp [armK, base])
  have h8 : f 8 = .int .i64 j := hf (8, _) (by simp [armK, base])
  have h9 : f 9 = .pointer (some ⟨xb, 0, none⟩) := hf (9, _) (by simp [armK, base])
  have h10 : f 10 = .bool (decide (0 ≤ x.at_) && decide (x.at_ < (n : Int))) := hf (10, _) (by simp [armK, base])
  have h67 : f 67 = .int .i64 x.kind := hf (67, _) (by simp [armK, base])
  simp only [fr, h1, h5, h6, h7, h8, h9, h10, h67, hk]
  clear hf h1 h5 h6 h7 h8 h9 h10 h67 ha
  conv => arg 2; whnf
  have HE := hid hend
  have HH := hid h
  clear hend
  obtain ⟨x0, x1, x2, x3⟩ := h.X.cells
  clear h
  rw [hin]
  obtain ⟨X, hX⟩ : ∃ X, str (blk x.n) = X := ⟨_, rfl⟩
  have hXs : X.size = 256 := by rw [← hX, str_size, blk_len]
  have HX := hid hX
  have HW : Hid (wrE d x.at_ (blk x.n) = 4 ∧ wrD d x.at_ (blk x.n) = goD d) := by
    have e1 : inB d x.at_ = true := by rw [inB, HH.out.n]; exact hin
    exact ⟨by simp [wrE, e1, blk_len, hgo], by simp [wrD, e1, blk_len, hgo]⟩
  have HGO := hid hgo
  clear hX hgo hin
  rw [hk] at x0
  go_wp2_with fail
  refine (block_call _ x.n rfl X HX.out w).mono ?_
  rintro e w1 ⟨rfl, s1⟩
  have A1 := hid (HH.out.step s1)
  obtain ⟨x0', x1', x2', x3'⟩ := A1.out.X.cells
  rw [hk] at x0'
  clear x0 x1 x2 x3 s1
  go_wp2_with fail
  refine (write_call w1 R 0 p d A1.out.D A1.out.W x.at_ (blk x.n) (by rw [blk_len]; omega) X HX.out 4 (goD d) HW.out.1 HW.out.2).mono ?_
  rintro e w2 ⟨rfl, s2, R2, hR2, D2⟩
  obtain ⟨t2, r2, Q2, X2, y2, row2⟩ := A1.out.dev s2 R2 hR2
  have T2 := hid (show Step noF w0 w2 ∧ (∀ k, k < w0.heap.size → R2 k = 0) from ⟨t2, r2⟩)
  clear t2 r2
  go_wp2_with fail
  refine (burnt_any w2 R2 10 q d Q2 HH.out.W).mono ?_
  rintro e w3 ⟨rfl, s3, Q3⟩
  rw [HGO.out]
  obtain ⟨t3, D3⟩ := ref_step (d2 := d) T2.out.1 T2.out.2 Q2.role D2 s3
  go_wp2_with fail
  refine HE.out _ _ ?_ ⟨R2, goD d, t3, T2.out.2, D3, Q3, goD_wf d HH.out.W, (goD_few d j HH.out.F).mono (by omega), (goD_len d).trans HH.out.n⟩
  refine ⟨rfl, rfl, ?_⟩
  intro x hx
  simp only [base, List.mem_cons, List.not_mem_nil, or_false] at hx
  rcases hx with rfl | rfl | rfl | rfl | rfl <;> rfl

theorem info_rwrite : (Try.prog.info? 45).map (fun i => (i.zero, i.size, i.bytes)) = some (some (.agg #[.int .i64 0, .string ⟨#[]⟩]), 2, 24) := by kernel_rfl

/-- The reference behind an append and the store of what it gave. -/
theorem ref_append {wr wa w' : World} {R : Nat → Nat} {q : Nat} {d : Dv} {lv v' : Value} {ka : Option Addr} {kn kc : Nat} {z : Nat} {b : List UInt8} (h1 : wr.heap[q]? = some (.cells #[.string (str d.safe.flatten), lv, .bool d.on, .int .i64 (fuI d.fuse), .slice ka kn kc, .int .i64 d.reads, .int .i64 d.writes, .int .i64 d.flushes] 38 (0, 0))) (h2 : R q = 11)
    (h3 : ∀ k, lv.ownBlock = some k → R k = 14) (h5 : ∀ n ks, d.fuse = some (n, ks) → kn = ks.length ∧ RowAt wr (fun k => R k ≠ 0) ka (bools ks)) (h4 : wr.ownsRow 0 45 2 lv d.loose.length (wcells d.loose))
    (hwa : Step noF wr wa) (ho : w'.ownsRow 0 45 2 v' (d.loose.length + 1) (wcells d.loose ++ [.int .i64 z, .string (str b)])) (hg : wa.grownBy w' lv.ownBlock) (hfr : Fresh wa lv v') (y : Int) (hy : y = (d.writes : Int) + 1) :
    ∃ R', (∀ k, k < wr.heap.size → R' k = R k) ∧ Step (fun k => R k = 11 ∨ R k = 14) wr ((w'.setCell ⟨q, 1, none⟩ v').setCell ⟨q, 6, none⟩ (.int .i64 y)) ∧
      IsRef ((w'.setCell ⟨q, 1, none⟩ v').setCell ⟨q, 6, none⟩ (.int .i64 y)) R' 10 q { d with loose := d.loose ++ [(z, b)], writes := d.writes + 1 } := by
  subst hy
  have hql : q < wr.heap.size := lt_of_block h1
  have hne : some q ≠ lv.ownBlock := fun e => by have := h3 q e.symm; omega
  have hb2 := (hwa.block q hql (fun h => h)).trans h1
  have hb3 := grown_block hg hb2 hne
  have hne2 : v'.ownBlock ≠ some q := by
    rcases hfr with e | e
    · rw [e]; exact fun h => hne h.symm
    · intro h; have := e q h; have := hwa.size; omega
  have s1 : Step (fun k => R k = 11 ∨ R k = 14) wr w' := (hwa.mono (fun _ h => h.elim)).grown hg (fun k hk => .inl (.inr (h3 k hk)))
  have s2 := (s1.setCell (p := ⟨q, 1, none⟩) (.inl (.inl h2)) v').setCell (p := ⟨q, 6, none⟩) (.inl (.inl h2)) (.int .i64 ((d.writes : Int) + 1))
  refine ⟨fun k => if k < wr.heap.size then R k else 14, fun k hk => if_pos hk, s2, v', ka, kn, kc, ?_, (if_pos hql).trans h2, fun k hk => ?_, ?_, fun n ks hfu => ?_⟩
  · have := RHead.set (RHead.set hb3 1 v') 6 (.int .i64 ((d.writes : Int) + 1))
    simpa [RHead] using this
  · show (if _ then _ else _) = _
    split
    · rename_i hkl
      rcases hfr with e | e
      · exact h3 k (by rw [← e]; exact hk)
      · have := e k hk; have := hwa.size; omega
    · rfl
  · rw [List.length_append, wcells_append]
    exact owns_setCell (owns_setCell ho _ hne2 _) _ hne2 _
  · obtain ⟨e, hr⟩ := h5 n ks hfu
    refine ⟨e, rowAt_keep hr (fun k hk hF => ?_)⟩
    have e0 : R k = 0 := Classical.not_not.1 hF
    exact ⟨s2.block k hk (by omega), fun x => x ((if_pos hk).trans e0)⟩
end Go.Proofs.Ythgcpeibjnflaaa
