/-
  What a device does, 1: laidOver, Flush without its fuse, At.
-/
import Derived.Test.YthgcpeibjnflaaaDevN
import Derived.BigRegion
namespace Go.Proofs.Ythgcpeibjnflaaa
open Go.RowKit
set_option linter.unusedVariables false

theorem take_snoc {α : Type} (l : List α) (j : Nat) (h : j < l.length) : l.take (j + 1) = l.take j ++ [l[j]] := by
  rw [List.take_add_one, List.getElem?_eq_getElem h]; rfl
/-- The two cells of a write. -/
theorem loose_cells {w : World} {lv : Value} {ws : List (Nat × List UInt8)} (h : w.ownsRow 0 69 2 lv ws.length (wcells ws)) (j : Nat) (hj : j < ws.length) :
    ∃ g c, lv = .slice (some ⟨g, 0, none⟩) ws.length c ∧ w.cell? ⟨g, j * 2, none⟩ = some (.int .i64 ws[j].1) ∧ w.cell? ⟨g, j * 2 + 1, none⟩ = some (.string (str ws[j].2)) := by
  rcases h.2 with ⟨_, h0⟩ | ⟨g, cap, cur, rfl, _⟩
  · omega
  · obtain ⟨h1, h2⟩ := wcells_at ws j hj
    have e1 := h.cells (g := g) rfl _ _ h1
    have e2 := h.cells (g := g) rfl _ _ h2
    rw [Addr.add_lit, Nat.zero_add, Nat.mul_comm] at e1 e2
    exact ⟨g, cap, rfl, e1, e2⟩

/-- All is safe. -/
def flushD (d : Dv) : Dv := { d with safe := flushL d.safe d.loose, loose := [], flushes := d.flushes + 1 }

set_option maxHeartbeats 4000000 in
theorem flush_go (w : World) (R : Nat → Nat) (o p : Nat) (d : Dv) (hw : Wf d) (hgo : Calls Try.prog 29 #[.pointer (some ⟨p, 0, none⟩)] w fun e w' => e = .returned (.bool true) ∧ Step (Rng R o) w w' ∧ IsDev w' R o p d) :
    Calls Try.prog 10 #[.pointer (some ⟨p, 0, none⟩)] w fun e w' => e = .returned (.int .i64 0) ∧ Step (Rng R o) w w' ∧ IsDev w' R o p (flushD d) := by
  go_enter Try.func10, Try.ntmps10
  go_wp2_with fail
  refine hgo.mono ?_
  rintro e w1 ⟨rfl, s1, hd⟩
  obtain ⟨bs, cs, bl, cl, lv, fp, h5, hP⟩ := hd
  obtain ⟨c0, c1, c2, c3, c4, c5, c6, c7⟩ := dev_cells h5
  obtain ⟨r1, r2, r3, r4, q1, q2, q3, q4, q5⟩ := hP
  obtain ⟨a, c, rfl⟩ := owns_form q3
  have HP := hid (show Parts w1 R o p bs cs bl (.slice a d.loose.length c) fp d.safe d.loose d.fuse from ⟨r1, r2, r3, r4, q1, q2, q3, q4, q5⟩)
  have H5 := hid h5
  clear h5 q1 q2 q4
  go_wp2_with fail
  go_loopw [4, 15] (fun _ i wr => ∃ j : Nat, j ≤ d.loose.length ∧ i = .int .i64 j ∧ Step (oneF bs) w1 wr ∧ RowIn wr bs 9 (strs (flushL d.safe (d.loose.take j)))) (fun _ i _ => d.loose.length - (intOf i).toNat)
  case atStart => exact ⟨0, Nat.zero_le _, rfl, Step.refl _ _, by simpa [flushL] using HP.out.2.2.2.2.1⟩
  case round =>
    obtain ⟨j, hj, rfl, hst, hrow⟩ := hrel
    have hll := hw.ll
    by_cases hjn : j < d.loose.length
    · have hji : (j : Int) < (d.loose.length : Int) := by omega
      obtain ⟨g, c', hv, x0, x1⟩ := loose_cells q3 j hjn
      injection hv with hv1 _ hv2
      subst hv1 hv2
      have hgR := r4 g rfl
      have hgb : ¬ g = bs := fun e => by subst e; omega
      have hpb : ¬ p = bs := fun e => by subst e; omega
      have y0 := (hst.cell (p := ⟨g, j * 2, none⟩) hgb (World.block_lt_of_cell? w1 _ x0)).trans x0
      have y1 := (hst.cell (p := ⟨g, j * 2 + 1, none⟩) hgb (World.block_lt_of_cell? w1 _ x1)).trans x1
      have hp0 := (hst.cell (p := ⟨p, 0, none⟩) hpb (World.block_lt_of_cell? w1 _ c0)).trans c0
      have k0 := fun ob => cell_alloc hp0 ob
      obtain ⟨at_, hat⟩ : ∃ at_, d.loose[j].1 = at_ := ⟨_, rfl⟩
      obtain ⟨X, hX⟩ : ∃ X, str d.loose[j].2 = X := ⟨_, rfl⟩
      have hatl : at_ < d.safe.length := by rw [← hat]; exact (hw.l _ (List.getElem_mem hjn)).1
      have hati : (at_ : Int) < (d.safe.length : Int) := by omega
      rw [hat] at y0
      rw [hX] at y1
      have hl1 : at_ < (strs (flushL d.safe (d.loose.take j))).length := by rw [strs_length, flushL_length]; exact hatl
      have z0 := fun ob => cell_alloc (hrow.cell at_ hl1) ob
      have z1 : ∀ ob, (wr.alloc ob).frozen? ⟨bs, at_, none⟩ = false := fun ob => (hrow.step ((Step.refl noF wr).alloc ob) (fun x => x)).f at_
      clear x0 x1
      go_wp2_with fail
      go_region
      go_wp2_with fail
      go_roundw
      case rel =>
        refine ⟨j + 1, by omega, int_eq (by omega), ((hst.alloc _).setCell (p := ⟨bs, at_, none⟩) (.inl rfl) _).drew, ?_⟩
        have := (hrow.step ((Step.refl noF wr).alloc (.cells #[.int .i64 at_, .string X] 69)) (fun x => x)).set at_ hl1 (.string X)
        rw [← hX, strs_set] at this
        rw [take_snoc _ _ hjn, flushL_snoc, hat, ← hX]
        exact this
      case measure => simp [intOf]; omega
    · obtain rfl : j = d.loose.length := by omega
      rw [List.take_of_length_le (Nat.le_refl _)] at hrow
      have hpb : ¬ p = bs := fun e => by subst e; omega
      have hk5 := (hst.block p (lt_of_block H5.out) hpb).trans H5.out
      obtain ⟨e0, e1, e2, e3, e4, e5, e6, e7⟩ := dev_cells hk5
      have f2 := frozen_of_block hk5 2
      have f7 := frozen_of_block hk5 7
      have hcf := hw.cf
      have HK := hid hk5
      clear hk5
      go_wp2_with fail
      go_ret
      refine ⟨rfl, ?_, bs, cs, bl, cl, .slice none 0 0, fp, ?_, ?_⟩
      · exact ((s1.trans (hst.mono (fun k hk => .inl (by unfold oneF at hk; subst hk; show o < R k ∧ R k ≤ o + 6; omega)))).setHead r1 _ _).setHead r1 _ _
      · have := block_setCell (block_setCell HK.out 2 (.slice none 0 0)) 7 (.int .i64 ((d.flushes + 1 : Nat) : Int))
        simpa [Head, flushD, flushL_length] using this
      · have hs2 := ((Step.refl (oneF p) wr).setOneF 2 (.slice none 0 0)).setOneF 7 (.int .i64 ((d.flushes + 1 : Nat) : Int))
        have hpl := World.block_lt_of_cell? w1 _ c0
        have hq : Parts wr R o p bs cs bl (.slice none 0 0) fp (flushL d.safe d.loose) [] d.fuse := by
          obtain ⟨r1, r2, r3, r4, q1, q2, q3, q4, q5⟩ := HP.out
          exact ⟨r1, r2, r3, fun k hk => by simp [Value.ownBlock] at hk, hrow, q2.step hst (fun e => by unfold oneF at e; subst e; omega), ⟨rfl, .inl ⟨rfl, rfl⟩⟩, q4.mono (fun k hk a b => hst.block k hk (fun e => by unfold oneF at e; subst e; omega)) (fun _ _ => rfl), by rw [flushL_length]; exact q5⟩
        have := hq.head (lt_of_block HK.out) hs2
        simpa [flushD] using this
end Go.Proofs.Ythgcpeibjnflaaa
