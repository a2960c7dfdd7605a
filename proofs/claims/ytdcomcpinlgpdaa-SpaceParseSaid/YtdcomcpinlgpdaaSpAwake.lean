/-
  'awake' (of the statements of layer 5) answers true.
-/
import Derived.Test.YtdcomcpinlgpdaaSpG
import Derived.Test.YtdcomcpinlgpdaaSpAwakeR
namespace Go.Proofs.Ytdcomcpinlgpdaa
open Go.RowKit
set_option linter.unusedVariables false

def aw1 : List Bool := [true, true, true, false, false, true, true, false, false, false]
def aw2 : List Bool := [true, true, true, false, false, false, false, false, false, false]
theorem aw_a : setE true (List.replicate 10 false) [(0, 3), (5, 2)] = 0 ∧ setL true (List.replicate 10 false) [(0, 3), (5, 2)] = aw1 := by decide +kernel
theorem aw_b : setE true aw1 [(2, 2)] = 11 ∧ setL true aw1 [(2, 2)] = aw1 := by decide +kernel
theorem aw_c : takeX aw1 2 = (5, 2) ∧ takeE aw1 2 = 0 ∧ takeL aw1 2 = aw2 := by decide +kernel
theorem aw_d : takeX aw2 4 = (0, 0) ∧ takeE aw2 4 = 9 ∧ takeL aw2 4 = aw2 := by decide +kernel
theorem aw_e : freeL aw2 = 3 ∧ largL aw2 = 3 ∧ textL aw2 = [224, 0] ∧ hasL aw2 2 = true ∧ hasL aw2 5 = false := by decide +kernel
theorem small2 (x y : Int × Int) (hx : x.1 ≤ 9223372036854775807) (hy : y.1 ≤ 9223372036854775807) : ∀ z ∈ [x, y], z.1 ≤ 9223372036854775807 := fun z hz => by
  simp at hz; rcases hz with rfl | rfl <;> assumption
theorem small1 (x : Int × Int) (hx : x.1 ≤ 9223372036854775807) : ∀ z ∈ [x], z.1 ≤ 9223372036854775807 := fun z hz => by
  simp at hz; subst hz; assumption

set_option maxHeartbeats 4000000 in
set_option maxRecDepth 100000 in
theorem awake_any (w : World) : Calls Try.prog 7 #[] w fun e w' => e = .returned (.bool true) ∧ Step noF w w' := by
  go_enter Try.func7, Try.ntmps7
  go_wp2_with fail
  refine (new_any 10 10 rfl (by decide) (by decide) _).mono ?_
  rintro e w1 ⟨p, rfl, hp, s1, h1⟩
  go_wp2_with fail
  refine (new_none 0 (.inl (by decide)) _).mono ?_
  rintro e w2 ⟨rfl, rfl⟩
  go_wp2_with fail
  refine (ext_any 0 3 _).mono ?_
  rintro e w2 ⟨rfl, s2⟩
  go_wp2_with fail
  refine (ext_any 5 2 _).mono ?_
  rintro e w3 ⟨rfl, s3⟩
  go_wp2_with fail
  have s23 := s2.trans s3
  refine (give_call _ p _ (by exact (h1.step s23).step ((Step.refl _ _).alloc _)) _ _ _ [(0, 3), (5, 2)] rfl (by exact extAt_new _ _ _ _ rfl) (small2 _ _ (by decide) (by decide)) (by decide) _ _ aw_a.1 aw_a.2).mono ?_
  rintro e w4 ⟨rfl, s4, h4⟩
  have S4 : Step noF w w4 := (((s1.trans s23).alloc _).then s4 (fun i hi => .inr (by unfold oneF at hi; omega)))
  clear s1 s2 s3 s23 s4 h1
  go_wp2_with fail
  refine (ext_any 2 2 _).mono ?_
  rintro e w5 ⟨rfl, s5⟩
  go_wp2_with fail
  refine (give_call _ p _ (by exact (h4.step s5).step ((Step.refl _ _).alloc _)) _ _ _ [(2, 2)] rfl (by exact extAt_new _ _ _ _ rfl) (small1 _ (by decide)) (by decide) _ _ aw_b.1 aw_b.2).mono ?_
  rintro e w6 ⟨rfl, s6, h6⟩
  have S6 : Step noF w w6 := (((S4.trans s5).alloc _).then s6 (fun i hi => .inr (by unfold oneF at hi; omega)))
  clear s5 s6 h4 S4
  go_wp2_with fail
  refine (take_call _ p _ h6 2 (by decide) _ _ _ _ aw_c.1 aw_c.2.1 aw_c.2.2).mono ?_
  rintro e w7 ⟨rfl, s7, h7⟩
  have S7 : Step noF w w7 := S6.then s7 (fun i hi => .inr (by unfold oneF at hi; omega))
  clear s7 h6 S6
  go_wp2_with fail
  refine (take_call _ p _ (by exact h7.step ((Step.refl _ _).alloc _)) 4 (by decide) _ _ _ _ aw_d.1 aw_d.2.1 aw_d.2.2).mono ?_
  rintro e w8 ⟨rfl, s8, h8⟩
  have S8 : Step noF w w8 := (S7.alloc _).then s8 (fun i hi => .inr (by unfold oneF at hi; omega))
  have hb : w8.heap[w7.heap.size]? = some (.cells #[.int .i64 5, .int .i64 2] 31 (0, 0)) := by
    have := h7.lt
    exact (s8.block w7.heap.size (by simp) (by unfold oneF; omega)).trans (block_alloc_new _ _)
  have HB := hid hb
  have H8 := hid h8
  clear s8 h7 S7 hb h8
  go_wp2_with fail
  have S9 := S8.alloc (.cells #[.int .i64 0, .int .i64 0] 31)
  change Code.wp _ (Code.region 8 ((Try.f7.body.bind (regionOps 8)).getD #[]) true) _ _ _
  refine awr_go p w7.heap.size _ (w8.alloc (.cells #[.int .i64 0, .int .i64 0] 31)) rfl rfl rfl rfl rfl rfl rfl ?_ ?_
  · intro u hu
    have hsp := (H8.out.step ((Step.refl noF _).alloc (.cells #[.int .i64 0, .int .i64 0] 31))).step hu
    obtain ⟨c0, c1, _, _⟩ := ext_cells (block_alloc_old HB.out (.cells #[.int .i64 0, .int .i64 0] 31))
    exact ⟨hu.after c0, hu.after c1, ext_any 5 2 u, free_call u p _ hsp 3 aw_e.1, larg_call u p _ hsp 3 aw_e.2.1, text_call u p _ hsp _ (by rw [aw_e.2.2.1]; rfl), has_step u p _ hsp 2 true aw_e.2.2.2.1, has_step u p _ hsp 5 false aw_e.2.2.2.2⟩
  · intro u hu
    simp only [Exit.then]
    refine ‹∀ (a : Act) (w : World), Code.wp _ Code.ret _ a w → _› _ u ?_
    refine wp_ret ?_
    change bodyPost Try.prog Try.f7 _ Exit.ret _ u
    refine bodyPost_ret (v := .bool true) ((results_tmp rfl _ _ _).trans ?_) ((putAll_size awrDl _ _).2.trans rfl) ⟨rfl, S9.trans hu⟩
    rw [putAll_at awrDl (awrVals p w7.heap.size) _ 43 0 (.bool true) awr_nd rfl rfl ?_]
    exact (show 0 < 77 by decide)
end Go.Proofs.Ytdcomcpinlgpdaa
