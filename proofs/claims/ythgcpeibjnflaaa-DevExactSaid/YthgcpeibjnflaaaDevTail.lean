/-
  What stands behind DevExact's switch.
-/
import Derived.Test.YthgcpeibjnflaaaDevNav
import Derived.Test.YthgcpeibjnflaaaDevExR
namespace Go.Proofs.Ythgcpeibjnflaaa
open Go.RowKit
set_option linter.unusedVariables false

/-- Both sides, the same device. -/
def Both (w0 : World) (p q n j : Nat) (w : World) : Prop := ∃ (R : Nat → Nat) (d : Dv), Step noF w0 w ∧ (∀ k, k < w0.heap.size → R k = 0) ∧ IsDev w R 0 p d ∧ IsRef w R 10 q d ∧ Wf d ∧ Few d j ∧ d.safe.length = n

/-- What the frame has all the time. -/
def base (p q n j : Nat) (av : Value) : List (Nat × Value) := [(1, av), (5, .pointer (some ⟨p, 0, none⟩)), (6, .int .i64 n), (7, .pointer (some ⟨q, 0, none⟩)), (8, .int .i64 j)]

set_option maxHeartbeats 4000000 in
set_option maxRecDepth 100000 in
theorem round2_any (w : World) (p q n j g m lc gl : Nat) (av : Value) (w2 : World) (zs : List Nat) (hm : zs.length = m) (t : Nat) (ht : t ≤ m) (hm3 : m ≤ 1000)
    (e1 : 0 < m → w2.cell? ⟨q, 1, none⟩ = some (.slice (some ⟨gl, 0, none⟩) m lc)) (z0 : ∀ t, (h : t < m) → w2.cell? ⟨gl, t * 2, none⟩ = some (.int .i64 (zs[t]'(by omega) : Nat))) (z1 : ∀ t, (h : t < m) → w2.cell? ⟨g, t, none⟩ = some (.int .i64 (zs[t]'(by omega) : Nat)))
    (Q : Exit → Act → World → Prop) (a : Act) (ha : Kn ((16, .slice (some ⟨g, 0, none⟩) m m) :: (17, .int .i64 t) :: base p q n j av) a)
    (hend : t = m → ∀ a' w', Kn (base p q n j av) a' → w' = w2 → Q (.exit 3) a' w')
    (hgo : t < m → ∀ a' w', Kn ((16, .slice (some ⟨g, 0, none⟩) m m) :: (17, .int .i64 ((t : Int) + 1)) :: base p q n j av) a' → Step noF w2 w' → Q .normal a' w') :
    Code.wp Try.prog (nav [1, 1, 1, 1, 1, 1, 1, 1, 0, 1, 0, 0, 1, 0, 0, 1, 1, 1, 1, 1, 1, 1, 0, 0] (Try.f3.body.getD .skip)) Q a w2 := by
  obtain ⟨f, rfl, hf⟩ := ha.open
  have h1 : f 1 = av := hf (1, av) (by simp [base])
  have h5 : f 5 = .pointer (some ⟨p, 0, none⟩) := hf (5, _) (by simp [base])
  have h6 : f 6 = .int .i64 n := hf (6, _) (by simp [base])
  have h7 : f 7 = .pointer (some ⟨q, 0, none⟩) := hf (7, _) (by simp [base])
  have h8 : f 8 = .int .i64 j := hf (8, _) (by simp [base])
  have h16 : f 16 = .slice (some ⟨g, 0, none⟩) m m := hf (16, _) (by simp)
  have h17 : f 17 = .int .i64 t := hf (17, _) (by simp)
  simp only [fr, h1, h5, h6, h7, h8, h16, h17]
  clear hf h1 h5 h6 h7 h8 h16 h17 ha
  conv => arg 2; whnf
  have hm3' : (m : Int) ≤ 1000 := by omega
  by_cases htm : t < m
  · have htI : (t : Int) < (m : Int) := by omega
    have e1 := e1 (by omega)
    have y0 := z0 t htm
    have y1 := z1 t htm
    obtain ⟨z, hz⟩ : ∃ z, zs[t]'(by omega) = z := ⟨_, rfl⟩
    rw [hz] at y0 y1
    have hgo' := hid (hgo htm)
    clear hgo hend z0 z1 hz hm ht
    go_wp2_with fail
    go_quiet (fail)
    go_wp2_with fail
    refine hgo'.out _ _ ?_ ((Step.refl _ _).drewN _)
    refine ⟨rfl, rfl, ?_⟩
    intro x hx
    simp only [base, List.mem_cons, List.not_mem_nil, or_false] at hx
    rcases hx with rfl | rfl | rfl | rfl | rfl | rfl | rfl <;> rfl
  · obtain rfl : t = m := by omega
    have hend' := hid (hend rfl)
    clear hgo hend z0 z1
    go_wp2_with fail
    refine hend'.out _ _ ?_ rfl
    refine ⟨rfl, rfl, ?_⟩
    intro x hx
    simp only [base, List.mem_cons, List.not_mem_nil, or_false] at hx
    rcases hx with rfl | rfl | rfl | rfl | rfl <;> rfl

theorem loop2_any (p q n j g m lc gl : Nat) (av : Value) (w2 : World) (zs : List Nat) (hm : zs.length = m) (hm3 : m ≤ 1000)
    (e1 : 0 < m → w2.cell? ⟨q, 1, none⟩ = some (.slice (some ⟨gl, 0, none⟩) m lc)) (z0 : ∀ t, (h : t < m) → w2.cell? ⟨gl, t * 2, none⟩ = some (.int .i64 (zs[t]'(by omega) : Nat))) (z1 : ∀ t, (h : t < m) → w2.cell? ⟨g, t, none⟩ = some (.int .i64 (zs[t]'(by omega) : Nat)))
    (Q : Exit → Act → World → Prop) (a : Act) (ha : Kn ((16, .slice (some ⟨g, 0, none⟩) m m) :: (17, .int .i64 0) :: base p q n j av) a)
    (hend : ∀ a' w', Kn (base p q n j av) a' → Step noF w2 w' → Q (.exit 3) a' w') :
    Code.wp Try.prog (nav [1, 1, 1, 1, 1, 1, 1, 1, 0, 1, 0, 0, 1, 0, 0, 1, 1, 1, 1, 1, 1, 1, 0] (Try.f3.body.getD .skip)) Q a w2 := by
  change Code.wp Try.prog (Code.loop (nav [1, 1, 1, 1, 1, 1, 1, 1, 0, 1, 0, 0, 1, 0, 0, 1, 1, 1, 1, 1, 1, 1, 0, 0] (Try.f3.body.getD .skip))) Q a w2
  refine wp_loop (fun a w => ∃ t, t ≤ m ∧ Kn ((16, .slice (some ⟨g, 0, none⟩) m m) :: (17, .int .i64 (t : Nat)) :: base p q n j av) a ∧ Step noF w2 w) (fun a _ => m - (intOf (a.tmps.getD 17 undef)).toNat) ⟨0, Nat.zero_le _, ha, Step.refl _ _⟩ ?_
  rintro a w ⟨t, ht, hk, hs⟩
  have h17 : a.tmps.getD 17 undef = .int .i64 t := hk.2.2 (17, .int .i64 t) (by simp)
  refine round2_any w p q n j g m lc gl av w zs hm t ht hm3 (fun h => hs.after (e1 h)) (fun t h => hs.after (z0 t h)) (fun t h => hs.after (z1 t h)) _ a hk ?_ ?_
  · intro _ a' w' hk' hw'
    subst hw'
    exact hend a' w' hk' hs
  · intro htm a' w' hk' hw'
    refine ⟨⟨t + 1, htm, hk', hs.trans hw'⟩, ?_⟩
    have h17' : a'.tmps.getD 17 undef = .int .i64 ((t : Int) + 1) := hk'.2.2 (17, .int .i64 ((t : Int) + 1)) (by simp)
    rw [h17, h17']
    simp [intOf]
    omega

set_option maxHeartbeats 4000000 in
set_option maxRecDepth 100000 in
theorem r69_any (p q n j : Nat) (av : Value) (wc : World) (R : Nat → Nat) (d : Dv) (hD : IsDev wc R 0 p d) (hW : Wf d) (Q : Exit → Act → World → Prop) (a : Act) (ha : Kn (base p q n j av) a)
    (hend : ∀ a' w' g, Kn ((16, .slice (some ⟨g, 0, none⟩) d.loose.length d.loose.length) :: base p q n j av) a' → Step noF wc w' → RowIn w' g 3 (atsOf d.loose) → Q .normal a' w') :
    Code.wp Try.prog (nav [1, 1, 1, 1, 1, 1, 1, 1, 0, 1, 0, 0, 1, 0, 0, 1, 1, 1, 1, 0] (Try.f3.body.getD .skip)) Q a wc := by
  obtain ⟨f, rfl, hf⟩ := ha.open
  have h1 : f 1 = av := hf (1, av) (by simp [base])
  have h5 : f 5 = .pointer (some ⟨p, 0, none⟩) := hf (5, _) (by simp [base])
  have h6 : f 6 = .int .i64 n := hf (6, _) (by simp [base])
  have h7 : f 7 = .pointer (some ⟨q, 0, none⟩) := hf (7, _) (by simp [base])
  have h8 : f 8 = .int .i64 j := hf (8, _) (by simp [base])
  simp only [fr, h1, h5, h6, h7, h8]
  clear hf h1 h5 h6 h7 h8 ha
  conv => arg 2; whnf
  have HE := hid hend
  clear hend
  have hatc := at_any wc R 0 p d hD hW
  go_wp2_with fail
  refine hatc.mono ?_
  rintro e wd ⟨g, rfl, hg, sD, hrow⟩
  have HR := hid hrow
  obtain ⟨m, hm⟩ : ∃ m, d.loose.length = m := ⟨_, rfl⟩
  rw [hm] at HE ⊢
  clear hatc hrow hm
  go_wp2_with fail
  refine HE.out _ _ g ?_ sD HR.out
  refine ⟨rfl, rfl, ?_⟩
  intro x hx
  simp only [base, List.mem_cons, List.not_mem_nil, or_false] at hx
  rcases hx with rfl | rfl | rfl | rfl | rfl | rfl <;> rfl

theorem r70_any (p q n j g m : Nat) (av : Value) (wd : World) (R : Nat → Nat) (d : Dv) (hD : IsDev wd R 0 p d) (hQ : IsRef wd R 10 q d) (hW : Wf d) (hn : d.safe.length = n) (hm : d.loose.length = m) (Q : Exit → Act → World → Prop) (a : Act) (ha : Kn ((16, .slice (some ⟨g, 0, none⟩) m m) :: base p q n j av) a)
    (hend : ∀ a' w', Kn ((16, .slice (some ⟨g, 0, none⟩) m m) :: base p q n j av) a' → Step noF wd w' → Q .normal a' w') :
    Code.wp Try.prog (nav [1, 1, 1, 1, 1, 1, 1, 1, 0, 1, 0, 0, 1, 0, 0, 1, 1, 1, 1, 1, 0] (Try.f3.body.getD .skip)) Q a wd := by
  change Code.wp Try.prog (Code.seq (Code.region 70 ((Try.f3.body.bind (regionOps 70)).getD #[]) true) (nav [1] (nav [1, 1, 1, 1, 1, 1, 1, 1, 0, 1, 0, 0, 1, 0, 0, 1, 1, 1, 1, 1, 0] (Try.f3.body.getD .skip)))) Q a wd
  refine wp_seq ?_
  obtain ⟨lv, rka, rkn, rkc, r1, r2, r3, r4, r5⟩ := id hQ
  obtain ⟨la, lc, rfl⟩ := owns_form r4
  obtain ⟨c0, c1, c2, c3, c4, c5, c6, c7⟩ := ref_cells r1
  obtain ⟨I, hI⟩ : ∃ I, str d.safe.flatten = I := ⟨_, rfl⟩
  rw [hI] at c0
  rw [hm] at c1
  refine exr_go p q g m n lc d.reads d.writes d.flushes la d.on I a wd ha.2.1 (ha.2.2 (5, _) (by simp [base])) (ha.2.2 (6, _) (by simp [base])) (ha.2.2 (7, _) (by simp [base])) (ha.2.2 (16, _) (by simp [base])) ?_ ?_
  · intro w2 s2
    have D3 := hD.step s2
    refine ⟨s2.after c0, s2.after c1, s2.after c2, s2.after c5, s2.after c6, s2.after c7, (isOn_any w2 R 0 p d D3).mono (fun e w' h => ⟨h.1, h.2 ▸ Step.refl _ _⟩), ?_, ?_, ?_, count_any w2 R 0 p d D3⟩
    · have := loose_any w2 R 0 p d D3
      rw [hm] at this
      exact this.mono (fun e w' h => ⟨h.1, h.2 ▸ Step.refl _ _⟩)
    · have := image_any w2 R 0 p d D3 hW
      rw [hI] at this
      exact this
    · have := len_any w2 R 0 p d D3
      rw [hn] at this
      exact this.mono (fun e w' h => ⟨h.1, h.2 ▸ Step.refl _ _⟩)
  intro w2 s2
  have hk := ha.put exrDl (exrVals p q g m n lc d.reads d.writes d.flushes la d.on I) (by
    intro x hx
    simp only [base, List.mem_cons, List.not_mem_nil, or_false] at hx
    rcases hx with rfl | rfl | rfl | rfl | rfl | rfl <;> (dsimp only; decide))
  have h293 : (putAll a exrDl (exrVals p q g m n lc d.reads d.writes d.flushes la d.on I)).tmps.getD 293 undef = .bool false := putAll_at exrDl _ a 59 293 _ exr_nd rfl rfl (by rw [ha.2.1]; decide)
  show Code.wp Try.prog (nav [1] (nav [1, 1, 1, 1, 1, 1, 1, 1, 0, 1, 0, 0, 1, 0, 0, 1, 1, 1, 1, 1, 0] (Try.f3.body.getD .skip))) Q _ w2
  conv => arg 2; whnf
  refine wp_cond_false (by simpa [Act.eval] using h293) ?_
  exact wp_skip (hend _ _ hk s2)

set_option maxHeartbeats 4000000 in
set_option maxRecDepth 100000 in
theorem r72_any (p q n j g m lc gl : Nat) (av : Value) (w2 : World) (zs : List Nat) (hm : zs.length = m) (hm3 : m ≤ 1000)
    (e1 : 0 < m → w2.cell? ⟨q, 1, none⟩ = some (.slice (some ⟨gl, 0, none⟩) m lc)) (z0 : ∀ t, (h : t < m) → w2.cell? ⟨gl, t * 2, none⟩ = some (.int .i64 (zs[t]'(by omega) : Nat))) (z1 : ∀ t, (h : t < m) → w2.cell? ⟨g, t, none⟩ = some (.int .i64 (zs[t]'(by omega) : Nat)))
    (Q : Exit → Act → World → Prop) (a : Act) (ha : Kn ((16, .slice (some ⟨g, 0, none⟩) m m) :: base p q n j av) a)
    (hend : ∀ a' w', Kn (base p q n j av) a' → Step noF w2 w' → Q .normal a' w') :
    Code.wp Try.prog (nav [1, 1, 1, 1, 1, 1, 1, 1, 0, 1, 0, 0, 1, 0, 0, 1, 1, 1, 1, 1, 1] (Try.f3.body.getD .skip)) Q a w2 := by
  obtain ⟨f, rfl, hf⟩ := ha.open
  have h1 : f 1 = av := hf (1, av) (by simp [base])
  have h5 : f 5 = .pointer (some ⟨p, 0, none⟩) := hf (5, _) (by simp [base])
  have h6 : f 6 = .int .i64 n := hf (6, _) (by simp [base])
  have h7 : f 7 = .pointer (some ⟨q, 0, none⟩) := hf (7, _) (by simp [base])
  have h8 : f 8 = .int .i64 j := hf (8, _) (by simp [base])
  have h16 : f 16 = .slice (some ⟨g, 0, none⟩) m m := hf (16, _) (by simp)
  simp only [fr, h1, h5, h6, h7, h8, h16]
  clear hf h1 h5 h6 h7 h8 h16 ha
  conv => arg 2; whnf
  have HE := hid hend
  have E1 := hid e1
  have Z0 := hid z0
  have Z1 := hid z1
  clear hend e1 z0 z1
  go_wp2_with fail
  refine loop2_any p q n j g m lc gl av w2 zs hm hm3 E1.out Z0.out Z1.out _ _ ?_ ?_
  · refine ⟨rfl, rfl, ?_⟩
    intro x hx
    simp only [base, List.mem_cons, List.not_mem_nil, or_false] at hx
    rcases hx with rfl | rfl | rfl | rfl | rfl | rfl | rfl <;> rfl
  · intro a' w' hk hs
    exact HE.out a' w' hk hs

theorem tail_any (w : World) (p q n j j2 : Nat) (av : Value) (wc : World) (hB : Both w p q n j2 wc) (Q : Exit → Act → World → Prop) (a : Act) (ha : Kn (base p q n j av) a)
    (hend : ∀ a' w', Kn (base p q n j av) a' → Both w p q n j2 w' → Q .normal a' w') :
    Code.wp Try.prog (nav [1, 1, 1, 1, 1, 1, 1, 1, 0, 1, 0, 0, 1, 0, 0, 1, 1, 1, 1] (Try.f3.body.getD .skip)) Q a wc := by
  obtain ⟨R, d, hst, hR, hD, hQ, hW, hF, hn⟩ := hB
  change Code.wp Try.prog (Code.seq (nav [1, 1, 1, 1, 1, 1, 1, 1, 0, 1, 0, 0, 1, 0, 0, 1, 1, 1, 1, 0] (Try.f3.body.getD .skip)) (Code.seq (nav [1, 1, 1, 1, 1, 1, 1, 1, 0, 1, 0, 0, 1, 0, 0, 1, 1, 1, 1, 1, 0] (Try.f3.body.getD .skip)) (nav [1, 1, 1, 1, 1, 1, 1, 1, 0, 1, 0, 0, 1, 0, 0, 1, 1, 1, 1, 1, 1] (Try.f3.body.getD .skip)))) Q a wc
  refine wp_seq (r69_any p q n j av wc R d hD hW _ a ha ?_)
  intro a1 w1 g k1 s1 hrow
  obtain ⟨m, hm⟩ : ∃ m, d.loose.length = m := ⟨_, rfl⟩
  rw [hm] at k1
  have D1 := hD.step s1
  have Q1 := hQ.mono s1 (fun _ _ x => x) (fun _ _ => rfl)
  refine wp_seq (r70_any p q n j g m av w1 R d D1 Q1 hW hn hm _ a1 k1 ?_)
  intro a2 w2 k2 s2
  obtain ⟨lv, rka, rkn, rkc, r1, r2, r3, r4, r5⟩ := id Q1
  obtain ⟨c0, c1, c2, c3, c4, c5, c6, c7⟩ := ref_cells r1
  have hll := hW.ll
  have fin : ∀ w', Step noF w2 w' → Both w p q n j2 w' := fun w' s3 =>
    ⟨R, d, ((hst.trans s1).trans s2).trans s3, hR, (D1.step s2).step s3, (Q1.mono s2 (fun _ _ x => x) (fun _ _ => rfl)).mono s3 (fun _ _ x => x) (fun _ _ => rfl), hW, hF, hn⟩
  have hall : ∃ gl lc, (0 < m → lv = .slice (some ⟨gl, 0, none⟩) m lc) ∧ ∀ t, (h : t < m) → w1.cell? ⟨gl, t * 2, none⟩ = some (.int .i64 ((d.loose[t]'(by omega)).1 : Nat)) := by
    by_cases h0 : 0 < m
    · obtain ⟨gl, lc, hv, _, _⟩ := rloose_cells r4 0 (by omega)
      refine ⟨gl, lc, fun _ => by rw [hv, hm], fun t h => ?_⟩
      obtain ⟨gl', lc', hv', y0, _⟩ := rloose_cells r4 t (by omega)
      rw [hv] at hv'
      injection hv' with e1 _ _
      injection e1 with e1
      injection e1 with e1
      subst e1
      exact y0
    · exact ⟨0, 0, fun h => absurd h h0, fun t h => by omega⟩
  obtain ⟨gl, lc, hl1, hl2⟩ := hall
  refine r72_any p q n j g m lc gl av w2 (d.loose.map (·.1)) (by rw [List.length_map, hm]) (by omega) (fun h => ?_) (fun t h => ?_) (fun t h => ?_) Q a2 k2 (fun a' w' k s => hend a' w' k (fin w' s))
  · rw [s2.after c1, hl1 h]
  · rw [s2.after (hl2 t h)]
    simp
  · refine s2.after ((hrow.cell t (by rw [atsOf, List.length_map, hm]; exact h)).trans ?_)
    simp [atsOf]
end Go.Proofs.Ythgcpeibjnflaaa
