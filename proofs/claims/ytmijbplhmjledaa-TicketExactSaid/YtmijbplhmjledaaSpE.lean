/-
  What Take does.
-/
import Derived.Test.YtmijbplhmjledaaSpD
import Derived.Deep.RegionWith
namespace Go.Proofs.Ytmijbplhmjledaa
open Go.RowKit
set_option linter.unusedVariables false

theorem Step.undrew {F : Nat → Prop} {a b : World} (h : Step F a.drew b) : Step F a b := ⟨h.os, h.tape, h.output, h.size, h.block⟩

set_option maxHeartbeats 1000000 in
theorem take_nil (w : World) (z : Int) : Calls Try.prog 43 #[.pointer none, .int .i64 z] w fun e w' => e = .returned (.tuple #[.agg #[.int .i64 0, .int .i64 0], .int .i64 2]) ∧ Step noF w w' := by
  go_enter Try.func43, Try.ntmps43
  go_wp2_with fail
  refine bodyPost_ret (results_cell_pair rfl _ _ w.heap.size 53 _ (0, 0) _ _ rfl (block_alloc_new _ _) Try.underlying53 rfl (by kernel_rfl) rfl) rfl ?_
  exact ⟨rfl, (Step.refl _ _).alloc _⟩
set_option maxHeartbeats 1000000 in
theorem take_arg (w : World) (p : Nat) (z : Int) (hz : z < 1) : Calls Try.prog 43 #[.pointer (some ⟨p, 0, none⟩), .int .i64 z] w fun e w' => e = .returned (.tuple #[.agg #[.int .i64 0, .int .i64 0], .int .i64 1]) ∧ Step noF w w' := by
  go_enter Try.func43, Try.ntmps43
  go_wp2_with fail
  refine bodyPost_ret (results_cell_pair rfl _ _ w.heap.size 53 _ (0, 0) _ _ rfl (block_alloc_new _ _) Try.underlying53 rfl (by kernel_rfl) rfl) rfl ?_
  exact ⟨rfl, (Step.refl _ _).alloc _⟩

set_option maxHeartbeats 4000000 in
theorem take_go (w : World) (p g : Nat) (l : List Bool) (hA : SpAt w p g l) (z : Int) (hz : 1 ≤ z) (hz2 : z ≤ 9223372036854775807) :
    Calls Try.prog 43 #[.pointer (some ⟨p, 0, none⟩), .int .i64 z] w fun e w' => e = .returned (.tuple #[.agg #[.int .i64 (takeX l z).1, .int .i64 (takeX l z).2], .int .i64 (takeE l z)]) ∧ Step (oneF p) w w' ∧ SpFrom w g w' p (takeL l z) := by
  have h := hA.sp
  have HSA := hid hA
  clear hA
  have hz1 : ¬ z < 1 := by omega
  have hrow := row_any (w.alloc (.cells #[.int .i64 0, .int .i64 0] 53)) p l (h.step ((Step.refl _ _).alloc _))
  have hsm := fun (w1 : World) a c (hx : ExtAt w1 a (rowL l)) => smallest_any w1 a c (rowL l) hx (by have := (rowL_ok l).len; have := h.2.1; omega) z
  rw [show bestT (rowL l) z (rowL l).length = bestL l z from rfl] at hsm
  have HS := hid h
  have hp := h.lt
  cases hb : bestL l z with
  | none =>
    rw [hb] at hsm
    have hE : Hid (takeE l z = 9 ∧ takeX l z = (0, 0) ∧ takeL l z = l) := by
      refine ⟨?_, ?_, ?_⟩
      · rw [takeE, if_neg hz1, hb]; rfl
      · rw [takeX, if_neg hz1, hb]
      · rw [takeL, if_neg hz1, hb]
    clear hb h
    go_enter Try.func43, Try.ntmps43
    go_wp2_with fail
    refine hrow.mono ?_
    rintro e w1 ⟨a, c, rfl, hc, hx, s1⟩
    go_wp2_with fail
    refine (hsm w1 a c hx).mono ?_
    rintro e w2 ⟨rfl, s2⟩
    have hb0 := (s2.block w.heap.size (Nat.lt_of_lt_of_le (by simp) s1.size) (fun x => x)).trans ((s1.block w.heap.size (by simp) (fun x => x)).trans (block_alloc_new _ _))
    have hb1 := block_alloc_old hb0 (.cells #[.int .i64 0, .int .i64 0] 53)
    obtain ⟨q0, q1, f0, f1⟩ := ext_cells hb1
    have HB := hid hb1
    have S2 := (((Step.refl noF w).alloc (.cells #[.int .i64 0, .int .i64 0] 53)).trans s1).trans s2
    clear hb0 hb1 hx
    go_wp2_with fail
    refine bodyPost_ret (results_cell_pair rfl _ _ w.heap.size 53 _ (0, 0) _ _ rfl (ext_set2 HB.out _ _) Try.underlying53 rfl (by kernel_rfl) rfl) rfl ?_
    obtain ⟨e1, e2, e3⟩ := hE.out
    have S3 := (S2.alloc (.cells #[.int .i64 0, .int .i64 0] 53)).set2 (Nat.le_refl _) (.int .i64 0) (.int .i64 0)
    refine ⟨by rw [e1, e2]; rfl, S3.one, by rw [e3]; exact (HSA.out.step S3).self⟩
  | some x =>
    rw [hb] at hsm
    obtain ⟨x1, x2⟩ := x
    obtain ⟨t1, t2, t3⟩ := best_set hz hb
    have hE : Hid (takeE l z = 0 ∧ takeX l z = (x1, z) ∧ takeL l z = setL false l [(x1, z)]) := by
      refine ⟨?_, ?_, ?_⟩
      · rw [takeE, if_neg hz1, hb]; rfl
      · rw [takeX, if_neg hz1, hb]
      · rw [takeL, if_neg hz1, hb]
    have hin := (best_fits hz hb).1
    obtain ⟨i1, i2, i3⟩ := inE_iff.1 hin
    have hl2 := h.2.1
    have hx9 : ∀ y ∈ [(x1, z)], y.1 ≤ 9223372036854775807 := fun y hy => by simp at hy; subst hy; simp only at i1 i2 i3 ⊢; omega
    have hta : Hid (∀ (u : World) (y c : Nat), SpAt u p g l → ExtAt u (some ⟨y, 0, none⟩) [(x1, z)] → Calls Try.prog 44 #[.pointer (some ⟨p, 0, none⟩), .slice (some ⟨y, 0, none⟩) 1 c] u fun e w' => e = .returned (.int .i64 0) ∧ Step (oneF p) u w' ∧ SpFrom u g w' p (setL false l [(x1, z)])) := fun u y c hu hx => by
      have := takeAt_at u p g l hu (some ⟨y, 0, none⟩) c 1 [(x1, z)] rfl hx hx9 (by simp)
      simp only at t1
      rw [t1] at this
      exact this
    clear hb h t1 t2 t3 hin i1 i2 i3 hx9
    go_enter Try.func43, Try.ntmps43
    go_wp2_with fail
    refine hrow.mono ?_
    rintro e w1 ⟨a, c, rfl, hc, hx, s1⟩
    go_wp2_with fail
    refine (hsm w1 a c hx).mono ?_
    rintro e w2 ⟨rfl, s2⟩
    have hb0 := (s2.block w.heap.size (Nat.lt_of_lt_of_le (by simp) s1.size) (fun x => x)).trans ((s1.block w.heap.size (by simp) (fun x => x)).trans (block_alloc_new _ _))
    have HB := hid hb0
    have S2 := (((Step.refl noF w).alloc (.cells #[.int .i64 0, .int .i64 0] 53)).trans s1).trans s2
    have hlt : w.heap.size < w2.heap.size := lt_of_block hb0
    have s5 := ((S2.alloc (.cells #[.int .i64 x1, .int .i64 x2] 53)).alloc (.cells #[.int .i64 x1, .int .i64 z] 53)).alloc (.cells #[.int .i64 x1, .int .i64 z] 53)
    have HA : Hid (ExtAt (((w2.alloc (.cells #[.int .i64 x1, .int .i64 x2] 53)).alloc (.cells #[.int .i64 x1, .int .i64 z] 53)).alloc (.cells #[.int .i64 x1, .int .i64 z] 53)) (some ⟨w2.heap.size + 1 + 1, 0, none⟩) [(x1, z)]) := by
      show ExtAt _ _ _
      have := extAt_new ((w2.alloc (.cells #[.int .i64 x1, .int .i64 x2] 53)).alloc (.cells #[.int .i64 x1, .int .i64 z] 53)) #[.int .i64 x1, .int .i64 z] 53 [(x1, z)] rfl
      simpa using this
    have HP : Hid (SpAt (((w2.alloc (.cells #[.int .i64 x1, .int .i64 x2] 53)).alloc (.cells #[.int .i64 x1, .int .i64 z] 53)).alloc (.cells #[.int .i64 x1, .int .i64 z] 53)) p g l) := HSA.out.step s5
    have HAF : Hid (∀ w3, Step (oneF p) (((w2.alloc (.cells #[.int .i64 x1, .int .i64 x2] 53)).alloc (.cells #[.int .i64 x1, .int .i64 z] 53)).alloc (.cells #[.int .i64 x1, .int .i64 z] 53)) w3 →
        w3.heap[w.heap.size]? = some (.cells #[.int .i64 0, .int .i64 0] 53 (0, 0)) ∧ w3.heap[w2.heap.size + 1]? = some (.cells #[.int .i64 x1, .int .i64 z] 53 (0, 0)) ∧ Step (oneF p) w w3) := fun w3 h3 => by
      refine ⟨?_, ?_, s5.one.trans h3⟩
      · exact (h3.block w.heap.size (by simp; omega) (by unfold oneF; omega)).trans (block_alloc_old (block_alloc_old (block_alloc_old HB.out _) _) _)
      · refine (h3.block (w2.heap.size + 1) (by simp) (by unfold oneF; omega)).trans (block_alloc_old ?_ _)
        have := block_alloc_new (w2.alloc (.cells #[.int .i64 x1, .int .i64 x2] 53)) (.cells #[.int .i64 x1, .int .i64 z] 53)
        simpa using this
    have HSz : Hid (w.heap.size ≤ (((w2.alloc (.cells #[.int .i64 x1, .int .i64 x2] 53)).alloc (.cells #[.int .i64 x1, .int .i64 z] 53)).alloc (.cells #[.int .i64 x1, .int .i64 z] 53)).heap.size) := s5.size
    have HFin : Hid (∀ w3, Step (oneF p) w w3 → SpFrom w g w3 p (setL false l [(x1, z)]) → ∀ u v, Step (oneF p) w ((w3.setCell ⟨w.heap.size, 0, none⟩ u).setCell ⟨w.heap.size, 1, none⟩ v) ∧ (w3.heap[w.heap.size]? = some (.cells #[.int .i64 0, .int .i64 0] 53 (0, 0)) → SpFrom w g ((w3.setCell ⟨w.heap.size, 0, none⟩ u).setCell ⟨w.heap.size, 1, none⟩ v) p (setL false l [(x1, z)]))) := fun w3 h3 hs u v => by
      refine ⟨(h3.setCell (p := ⟨w.heap.size, 0, none⟩) (.inr (Nat.le_refl _)) u).setCell (p := ⟨w.heap.size, 1, none⟩) (.inr (Nat.le_refl _)) v, fun hb => ?_⟩
      have hst : Step (oneF w.heap.size) w3 ((w3.setCell ⟨w.heap.size, 0, none⟩ u).setCell ⟨w.heap.size, 1, none⟩ v) := ((Step.refl _ _).setOne _ _).setOne _ _
      obtain ⟨g', eg, hs⟩ := hs
      refine ⟨g', eg, hs.keep hst (by unfold oneF; omega) (fun hg => ?_)⟩
      unfold oneF at hg
      obtain ⟨_, _, c, _, _, hr⟩ := hs
      exact hr.ne hb (by decide) hg
    clear hb0 hx s5
    go_wp2_with fail
    go_region_with (refine (hta.out _ _ _ (by exact HP.out) (by exact HA.out)).mono ?_; rintro e w3 ⟨rfl, s3, h3⟩; obtain ⟨k0, k1, k2⟩ := HAF.out w3 s3.undrew; obtain ⟨q0, q1, f0, f1⟩ := ext_cells k0; obtain ⟨r0, r1, r2, r3⟩ := ext_cells k1; have K0 := hid k0; clear k0 k1 r2 r3)
    all_goals
      go_wp2_with fail
      refine bodyPost_ret (results_cell_pair rfl _ _ w.heap.size 53 _ (0, 0) _ _ rfl (ext_set2 K0.out _ _) Try.underlying53 rfl (by kernel_rfl) rfl) rfl ?_
      obtain ⟨e1, e2, e3⟩ := hE.out
      obtain ⟨f1, f2⟩ := HFin.out w3 k2 (h3.of HSz.out) (.int .i64 x1) (.int .i64 z)
      refine ⟨by rw [e1, e2]; rfl, f1, by rw [e3]; exact f2 K0.out⟩
theorem take_at (w : World) (p g : Nat) (l : List Bool) (h : SpAt w p g l) (z : Int) (hz2 : z ≤ 9223372036854775807) :
    Calls Try.prog 43 #[.pointer (some ⟨p, 0, none⟩), .int .i64 z] w fun e w' => e = .returned (.tuple #[.agg #[.int .i64 (takeX l z).1, .int .i64 (takeX l z).2], .int .i64 (takeE l z)]) ∧ Step (oneF p) w w' ∧ SpFrom w g w' p (takeL l z) := by
  by_cases hz : z < 1
  · refine (take_arg w p z hz).mono ?_
    rintro e w1 ⟨rfl, s1⟩
    exact ⟨by rw [takeE, takeX, if_pos hz, if_pos hz], s1.one, by rw [takeL, if_pos hz]; exact (h.step s1).self⟩
  · exact take_go w p g l h z (by omega) hz2
theorem take_any (w : World) (p : Nat) (l : List Bool) (h : IsSp w p l) (z : Int) (hz2 : z ≤ 9223372036854775807) :
    Calls Try.prog 43 #[.pointer (some ⟨p, 0, none⟩), .int .i64 z] w fun e w' => e = .returned (.tuple #[.agg #[.int .i64 (takeX l z).1, .int .i64 (takeX l z).2], .int .i64 (takeE l z)]) ∧ Step (oneF p) w w' ∧ IsSp w' p (takeL l z) := by
  obtain ⟨g, hg⟩ := h.at
  refine (take_at w p g l hg z hz2).mono ?_
  rintro e w' ⟨rfl, s1, h1⟩
  exact ⟨rfl, s1, h1.sp⟩
end Go.Proofs.Ytmijbplhmjledaa
