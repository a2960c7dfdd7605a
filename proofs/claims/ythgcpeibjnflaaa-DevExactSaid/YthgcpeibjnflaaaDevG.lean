/-
  What a device does, 5: a write that happens; Fuse; At.
-/
import Derived.Test.YthgcpeibjnflaaaDevF
namespace Go.Proofs.Ythgcpeibjnflaaa
open Go.RowKit
set_option linter.unusedVariables false

theorem two_cells (w : World) (t : TypeId) (x y : Value) (g : Nat) (hg : g = w.heap.size) : ∀ j u, [x, y][j]? = some u → (w.alloc (.cells #[x, y] t)).cell? (Addr.add ⟨g, 0, none⟩ j) = some u := by
  intro j u hj
  subst hg
  rw [Addr.add_lit, Nat.zero_add, cell_of_block (block_alloc_new _ _)]
  rw [← hj, List.getElem?_toArray]

set_option maxHeartbeats 4000000 in
theorem write_good (w : World) (R : Nat → Nat) (o p : Nat) (d : Dv) (h : IsDev w R o p d) (hw : Wf d) (z : Int) (b : List UInt8) (hin : inB d z = true) (hb : b.length = 256) (hgb : goB d = true) :
    Calls Try.prog 20 #[.pointer (some ⟨p, 0, none⟩), .int .i64 z, .string (str b)] w fun e w' => e = .returned (.int .i64 0) ∧ Step (Rng R o) w w' ∧ ∃ R', (∀ k, k < w.heap.size → R' k = R k) ∧ IsDev w' R' o p (wrD d z b) := by
  have hhas := has_any w R o p d h z
  have hg := goesOn_any w R o p d h hw
  obtain ⟨X, hX⟩ : ∃ X, str b = X := ⟨_, rfl⟩
  have hXs : X.size = 256 := by rw [← hX, str_size, hb]
  rw [hX]
  have HIN := hid hin
  unfold inB at hin
  rw [hin] at hhas
  rw [hgb] at hg
  have hz : 0 ≤ z ∧ z < (d.safe.length : Int) := by simpa using hin
  obtain ⟨n, rfl⟩ := Int.eq_ofNat_of_zero_le hz.1
  have hns : n < d.safe.length := by omega
  obtain ⟨hs1, hs2, hs3, hs4, hs5, hs6⟩ := goD_same d hgb
  obtain ⟨i0, hi, hz0, hz1, hz2⟩ := info_three info_write
  have hcw := hw.cw
  have hll := hw.ll
  have hwD : wrD d n b = { goD d with loose := d.loose ++ [(n, b)], writes := d.writes + 1 } := by simp [wrD, HIN.out, hb, hgb, hs2]
  rw [hwD]
  have HX := hid hX
  have HGB := hid hgb
  clear h hin hwD hX hgb
  go_enter Try.func20, Try.ntmps20
  go_wp2_with (first | (go_at_call 33; refine hhas.mono ?_; rintro e w' ⟨rfl, rfl⟩) | (go_at_call 29; fail))
  refine hg.mono ?_
  rintro e w1 ⟨rfl, s1, hd⟩
  obtain ⟨bs, cs, bl, cl, lv, fp, h5, hP⟩ := hd
  rw [hs1, hs3, hs4, hs5, hs6] at h5
  rw [hs1, hs2] at hP
  obtain ⟨c0, c1, c2, c3, c4, c5, c6, c7⟩ := dev_cells h5
  have hlt := lt_of_block h5
  obtain ⟨r1, r2, r3, r4, q1, q2, q3, q4, q5⟩ := hP
  obtain ⟨la, lc, rfl⟩ := owns_form q3
  have k2 := fun ob => cell_alloc c2 ob
  have hmx : Hid (d.loose.length + 1 ≤ maxLen) := by show _ ≤ _; unfold maxLen; omega
  have hmb : Hid ((d.loose.length + 1) * 24 ≤ 140737488355328) := by show _ ≤ _; omega
  have hone : Hid (∀ u ∈ [Value.int .i64 (n : Int), Value.string X], u.oneCell' = true) := by
    intro u hu
    simp at hu
    rcases hu with rfl | rfl <;> rfl
  have HP := hid (show Parts w1 R o p bs cs bl (.slice la d.loose.length lc) fp d.safe d.loose (goD d).fuse from ⟨r1, r2, r3, r4, q1, q2, q3, q4, q5⟩)
  have H5 := hid h5
  have HQ3 := hid q3
  have hblp : Hid (¬ bl = p) := fun e => by subst e; omega
  have hblp2 : ¬ p = bl := fun e => by subst e; omega
  clear h5 q1 q2 q4 q3
  obtain ⟨ob, hob⟩ : ∃ ob : Obj, ob = .cells #[.int .i64 n, .string X] 69 := ⟨_, rfl⟩
  have hnl : n < (strs (flushL d.safe d.loose)).length := by rw [strs_length, flushL_length]; exact hns
  have hafter : ∀ v' w2, w2.ownsRow 0 69 2 v' (d.loose.length + 1) (wcells d.loose ++ [.int .i64 n, .string X]) → (w1.alloc ob).grownBy w2 (Value.slice la d.loose.length lc).ownBlock → Fresh (w1.alloc ob) (.slice la d.loose.length lc) v' →
      ∃ ao cc L0, v' = .slice ao (d.loose.length + 1) cc ∧ w2.cell? ⟨p, 1, none⟩ = some (.slice (some ⟨bl, 0, none⟩) d.safe.length cl) ∧ w2.cell? ⟨p, 2, none⟩ = some (.slice la d.loose.length lc) ∧ w2.cell? ⟨p, 6, none⟩ = some (.int .i64 d.writes) ∧ w2.frozen? ⟨p, 2, none⟩ = false ∧ w2.frozen? ⟨p, 6, none⟩ = false ∧
        (∀ v, (w2.setCell ⟨p, 2, none⟩ v).cell? ⟨bl, n, none⟩ = some L0) ∧ (∀ v, (w2.setCell ⟨p, 2, none⟩ v).frozen? ⟨bl, n, none⟩ = false) ∧
        Hid (Step (Rng R o) w1 w2 ∧ Head w2 p bs cs bl cl (.slice la d.loose.length lc) fp d.safe.length d.on d.reads d.writes d.flushes ∧ (∃ R' : Nat → Nat, (∀ k, k < w1.heap.size → R' k = R k) ∧ R' p = o + 1 ∧ R' bs = o + 2 ∧ R' bl = o + 3 ∧ (∀ k, v'.ownBlock = some k → R' k = o + 4) ∧ FuseAt w2 R' o fp (goD d).fuse) ∧ RowIn w2 bs 9 (strs d.safe) ∧ RowIn w2 bl 9 (strs (flushL d.safe d.loose)) ∧ w2.ownsRow 0 69 2 v' (d.loose.length + 1) (wcells d.loose ++ [.int .i64 n, .string X])) := by
    intro v' w2 ho' hg' hfr
    obtain ⟨r1, r2, r3, r4, q1, q2, q3, q4, q5⟩ := HP.out
    have s2 : Step (fun k => R k = o + 4) w1 w2 := ((Step.refl _ w1).alloc ob).grown hg' (fun k hk => .inl (r4 k hk))
    have hb2 := (s2.block p hlt (by omega)).trans H5.out
    have hr1 := q1.step s2 (by omega)
    have hr2 := q2.step s2 (by omega)
    obtain ⟨m0, m1, m2, m3, m4, m5, m6, m7⟩ := dev_cells hb2
    obtain ⟨ao, cc, hv⟩ := owns_form ho'
    refine ⟨ao, cc, _, hv, m1, m2, m6, frozen_of_block hb2 2, frozen_of_block hb2 6, fun v => (World.cell?_of_block (w := w2) (Below.heap_setCell _ _ _ _ hblp.out)).trans (hr2.cell n hnl), fun v => (World.frozen?_of_block (w := w2) (Below.heap_setCell _ _ _ _ hblp.out)).trans (hr2.f n), ?_⟩
    refine ⟨s2.mono (fun k hk => .inl (by show o < R k ∧ R k ≤ o + 6; omega)), hb2, ⟨fun k => if k < w1.heap.size then R k else o + 4, fun k hk => if_pos hk, (if_pos hlt).trans r1, (if_pos q1.lt).trans r2, (if_pos q2.lt).trans r3, fun k hk => ?_, ?_⟩, hr1, hr2, ho'⟩
    · show (if _ then _ else _) = _
      split
      · rename_i hkl
        rcases hfr with e | e
        · exact r4 k (by rw [← e]; exact hk)
        · have := e k hk
          simp at this
          omega
      · rfl
    · exact q4.mono (fun k hk a b => s2.block k hk (by omega)) (fun k hk => if_pos hk)
  have HAF := hid hafter
  clear hafter
  subst hob
  go_wp2_with (at_builtin; refine wpList_append_fresh rfl (.tmp 23) (.tmp 27) 64 rfl 69 i0 _ 2 24 Try.underlying64 hi hz0 hz1 hz2 rfl (by decide) _ _ _ (by simp [Act.eval]; rfl) (by exact HQ3.out.alloc _) ⟨w1.heap.size, 0, none⟩ 1 1 [.int .i64 n, .string X] (by simp [Act.eval]) rfl (two_cells _ _ _ _ _ rfl) hone.out hmx.out hmb.out ?_; intro v' w2 ho' hg' hfr; obtain ⟨ao, cc, L0, rfl, m1, m2, m6, f2, f6, g1, g2, HD⟩ := HAF.out v' w2 ho' hg' hfr; clear ho' hg' hfr)
  go_ret
  obtain ⟨t1, t2, ⟨R', t3, a1, a2, a3, a4, a5⟩, t4, t5, t6⟩ := HD.out
  have hXb := HX.out
  subst hXb
  have T : Step (fun k => k = p ∨ k = bl) w2 (((w2.setCell ⟨p, 2, none⟩ (.slice ao (d.loose.length + 1) cc)).setCell ⟨bl, n, none⟩ (.string (str b))).setCell ⟨p, 6, none⟩ (.int .i64 ((d.writes : Int) + 1))) :=
    (((Step.refl _ w2).setCell (p := ⟨p, 2, none⟩) (.inl (.inl rfl)) _).setCell (p := ⟨bl, n, none⟩) (.inl (.inr rfl)) _).setCell (p := ⟨p, 6, none⟩) (.inl (.inl rfl)) _
  have hs1' := s1.size
  refine ⟨rfl, s1.trans (t1.trans (T.mono (fun k hk => .inl (by rcases hk with rfl | rfl <;> (show o < R _ ∧ R _ ≤ o + 6) <;> omega)))), R', fun k hk => t3 k (by omega), bs, cs, bl, cl, .slice ao (d.loose.length + 1) cc, fp, ?_, a1, a2, a3, a4, ?_, ?_, ?_, ?_, ?_⟩
  · have e1 := block_setCell t2 2 (.slice ao (d.loose.length + 1) cc)
    have e2 := (Below.heap_setCell (w2.setCell ⟨p, 2, none⟩ (.slice ao (d.loose.length + 1) cc)) ⟨bl, n, none⟩ (.string (str b)) p hblp2).trans e1
    have e3 := block_setCell e2 6 (.int .i64 ((d.writes : Int) + 1))
    simpa [Head, hs1, hs3, hs4, hs5, hs6] using e3
  · rw [hs1]
    exact t4.step T (fun e => by rcases e with rfl | rfl <;> omega)
  · have e1 := t5.step ((Step.refl (oneF p) w2).setOneF 2 (.slice ao (d.loose.length + 1) cc)) hblp.out
    have e2 := e1.set n hnl (.string (str b))
    have e3 := e2.step ((Step.refl (oneF p) _).setOneF 6 (.int .i64 ((d.writes : Int) + 1))) hblp.out
    rw [strs_set] at e3
    rw [hs1, flushL_snoc]
    exact e3
  · have e1 : w2.ownsRow 0 69 2 (.slice ao (d.loose.length + 1) cc) (d.loose ++ [(n, b)]).length (wcells (d.loose ++ [(n, b)])) := by
      rw [List.length_append, wcells_append]
      exact t6
    refine owns_keep e1 (fun k hk => T.block k (e1.lt k hk).2 (fun e => ?_))
    have := a4 k hk
    rcases e with rfl | rfl <;> omega
  · exact a5.mono (fun k hk u1 u2 => T.block k hk (fun e => by rcases e with rfl | rfl <;> omega)) (fun _ _ => rfl)
  · rw [hs1]; exact q5
end Go.Proofs.Ythgcpeibjnflaaa
