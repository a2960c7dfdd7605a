/-
  What the reference's Meet does. Written by genmeet.py.
-/
import Derived.Test.YtipgbpopcamllaaGreatKeyC
namespace Go.Proofs.YtipgbpopcamllaaGreat
open Go.RowKit
set_option linter.unusedVariables false
set_option linter.unusedSimpArgs false

set_option maxHeartbeats 8000000 in
set_option maxRecDepth 100000 in
theorem refMeet_any (r o : Rg) (w : World) : Calls Tryz.prog 72 #[r.val, o.val] w fun e w' => e = .returned (r.meet o).val ∧ Step noF w w' := by
  have e0 : r.val = .agg #[.string (str r.lo), .string (str r.hi)] := rfl
  have e1 : o.val = .agg #[.string (str o.lo), .string (str o.hi)] := rfl
  have h0 := nil_str
  have hE := same_str
  have hL := less_str
  have hG := gt_dec
  have hN : ∀ x : List UInt8, (x < []) = False := fun x => by simp
  rw [e0, e1]
  clear e0 e1
  obtain ⟨a, b⟩ := r
  obtain ⟨c, d⟩ := o
  simp only
  by_cases h1 : a < c
  · by_cases h2 : b = []
    · by_cases h3 : d = []
      · subst h2 h3
        have HE : Hid ((Rg.mk a []).meet ⟨c, []⟩ = ⟨c, []⟩) := by show _ = _; simp [Rg.meet, Rg.turned, maxL, minH, h1]
        go_enter Tryz.func72, Tryz.ntmps72
        go_wp2
        refine bodyPost_ret (v := .agg #[.string (str c), .string (str [])]) (by simp [results, Tryz.results72, go_sem, *]) rfl ⟨by rw [HE.out]; rfl, ((((Step.refl noF w).alloc _).alloc _).alloc _).alloc _⟩
      · subst h2
        by_cases h5 : d < c
        · have HE : Hid ((Rg.mk a []).meet ⟨c, d⟩ = ⟨c, c⟩) := by show _ = _; simp [Rg.meet, Rg.turned, maxL, minH, h1, h3, h5]
          go_enter Tryz.func72, Tryz.ntmps72
          go_wp2
          refine bodyPost_ret (v := .agg #[.string (str c), .string (str c)]) (by simp [results, Tryz.results72, go_sem, *]) rfl ⟨by rw [HE.out]; rfl, ((((Step.refl noF w).alloc _).alloc _).alloc _).alloc _⟩
        · have HE : Hid ((Rg.mk a []).meet ⟨c, d⟩ = ⟨c, d⟩) := by show _ = _; simp [Rg.meet, Rg.turned, maxL, minH, h1, h3, h5]
          go_enter Tryz.func72, Tryz.ntmps72
          go_wp2
          refine bodyPost_ret (v := .agg #[.string (str c), .string (str d)]) (by simp [results, Tryz.results72, go_sem, *]) rfl ⟨by rw [HE.out]; rfl, ((((Step.refl noF w).alloc _).alloc _).alloc _).alloc _⟩
    · by_cases h3 : d = []
      · subst h3
        by_cases h5 : b < c
        · have HE : Hid ((Rg.mk a b).meet ⟨c, []⟩ = ⟨c, c⟩) := by show _ = _; simp [Rg.meet, Rg.turned, maxL, minH, h1, h2, h5]
          go_enter Tryz.func72, Tryz.ntmps72
          go_wp2
          refine bodyPost_ret (v := .agg #[.string (str c), .string (str c)]) (by simp [results, Tryz.results72, go_sem, *]) rfl ⟨by rw [HE.out]; rfl, ((((Step.refl noF w).alloc _).alloc _).alloc _).alloc _⟩
        · have HE : Hid ((Rg.mk a b).meet ⟨c, []⟩ = ⟨c, b⟩) := by show _ = _; simp [Rg.meet, Rg.turned, maxL, minH, h1, h2, h5]
          go_enter Tryz.func72, Tryz.ntmps72
          go_wp2
          refine bodyPost_ret (v := .agg #[.string (str c), .string (str b)]) (by simp [results, Tryz.results72, go_sem, *]) rfl ⟨by rw [HE.out]; rfl, ((((Step.refl noF w).alloc _).alloc _).alloc _).alloc _⟩
      · by_cases h4 : d < b
        · by_cases h5 : d < c
          · have HE : Hid ((Rg.mk a b).meet ⟨c, d⟩ = ⟨c, c⟩) := by show _ = _; simp [Rg.meet, Rg.turned, maxL, minH, h1, h2, h3, h4, h5]
            go_enter Tryz.func72, Tryz.ntmps72
            go_wp2
            refine bodyPost_ret (v := .agg #[.string (str c), .string (str c)]) (by simp [results, Tryz.results72, go_sem, *]) rfl ⟨by rw [HE.out]; rfl, ((((Step.refl noF w).alloc _).alloc _).alloc _).alloc _⟩
          · have HE : Hid ((Rg.mk a b).meet ⟨c, d⟩ = ⟨c, d⟩) := by show _ = _; simp [Rg.meet, Rg.turned, maxL, minH, h1, h2, h3, h4, h5]
            go_enter Tryz.func72, Tryz.ntmps72
            go_wp2
            refine bodyPost_ret (v := .agg #[.string (str c), .string (str d)]) (by simp [results, Tryz.results72, go_sem, *]) rfl ⟨by rw [HE.out]; rfl, ((((Step.refl noF w).alloc _).alloc _).alloc _).alloc _⟩
        · by_cases h5 : b < c
          · have HE : Hid ((Rg.mk a b).meet ⟨c, d⟩ = ⟨c, c⟩) := by show _ = _; simp [Rg.meet, Rg.turned, maxL, minH, h1, h2, h3, h4, h5]
            go_enter Tryz.func72, Tryz.ntmps72
            go_wp2
            refine bodyPost_ret (v := .agg #[.string (str c), .string (str c)]) (by simp [results, Tryz.results72, go_sem, *]) rfl ⟨by rw [HE.out]; rfl, ((((Step.refl noF w).alloc _).alloc _).alloc _).alloc _⟩
          · have HE : Hid ((Rg.mk a b).meet ⟨c, d⟩ = ⟨c, b⟩) := by show _ = _; simp [Rg.meet, Rg.turned, maxL, minH, h1, h2, h3, h4, h5]
            go_enter Tryz.func72, Tryz.ntmps72
            go_wp2
            refine bodyPost_ret (v := .agg #[.string (str c), .string (str b)]) (by simp [results, Tryz.results72, go_sem, *]) rfl ⟨by rw [HE.out]; rfl, ((((Step.refl noF w).alloc _).alloc _).alloc _).alloc _⟩
  · by_cases h2 : b = []
    · by_cases h3 : d = []
      · subst h2 h3
        have HE : Hid ((Rg.mk a []).meet ⟨c, []⟩ = ⟨a, []⟩) := by show _ = _; simp [Rg.meet, Rg.turned, maxL, minH, h1]
        go_enter Tryz.func72, Tryz.ntmps72
        go_wp2
        refine bodyPost_ret (v := .agg #[.string (str a), .string (str [])]) (by simp [results, Tryz.results72, go_sem, *]) rfl ⟨by rw [HE.out]; rfl, ((((Step.refl noF w).alloc _).alloc _).alloc _).alloc _⟩
      · subst h2
        by_cases h5 : d < a
        · have HE : Hid ((Rg.mk a []).meet ⟨c, d⟩ = ⟨a, a⟩) := by show _ = _; simp [Rg.meet, Rg.turned, maxL, minH, h1, h3, h5]
          go_enter Tryz.func72, Tryz.ntmps72
          go_wp2
          refine bodyPost_ret (v := .agg #[.string (str a), .string (str a)]) (by simp [results, Tryz.results72, go_sem, *]) rfl ⟨by rw [HE.out]; rfl, ((((Step.refl noF w).alloc _).alloc _).alloc _).alloc _⟩
        · have HE : Hid ((Rg.mk a []).meet ⟨c, d⟩ = ⟨a, d⟩) := by show _ = _; simp [Rg.meet, Rg.turned, maxL, minH, h1, h3, h5]
          go_enter Tryz.func72, Tryz.ntmps72
          go_wp2
          refine bodyPost_ret (v := .agg #[.string (str a), .string (str d)]) (by simp [results, Tryz.results72, go_sem, *]) rfl ⟨by rw [HE.out]; rfl, ((((Step.refl noF w).alloc _).alloc _).alloc _).alloc _⟩
    · by_cases h3 : d = []
      · subst h3
        by_cases h5 : b < a
        · have HE : Hid ((Rg.mk a b).meet ⟨c, []⟩ = ⟨a, a⟩) := by show _ = _; simp [Rg.meet, Rg.turned, maxL, minH, h1, h2, h5]
          go_enter Tryz.func72, Tryz.ntmps72
          go_wp2
          refine bodyPost_ret (v := .agg #[.string (str a), .string (str a)]) (by simp [results, Tryz.results72, go_sem, *]) rfl ⟨by rw [HE.out]; rfl, ((((Step.refl noF w).alloc _).alloc _).alloc _).alloc _⟩
        · have HE : Hid ((Rg.mk a b).meet ⟨c, []⟩ = ⟨a, b⟩) := by show _ = _; simp [Rg.meet, Rg.turned, maxL, minH, h1, h2, h5]
          go_enter Tryz.func72, Tryz.ntmps72
          go_wp2
          refine bodyPost_ret (v := .agg #[.string (str a), .string (str b)]) (by simp [results, Tryz.results72, go_sem, *]) rfl ⟨by rw [HE.out]; rfl, ((((Step.refl noF w).alloc _).alloc _).alloc _).alloc _⟩
      · by_cases h4 : d < b
        · by_cases h5 : d < a
          · have HE : Hid ((Rg.mk a b).meet ⟨c, d⟩ = ⟨a, a⟩) := by show _ = _; simp [Rg.meet, Rg.turned, maxL, minH, h1, h2, h3, h4, h5]
            go_enter Tryz.func72, Tryz.ntmps72
            go_wp2
            refine bodyPost_ret (v := .agg #[.string (str a), .string (str a)]) (by simp [results, Tryz.results72, go_sem, *]) rfl ⟨by rw [HE.out]; rfl, ((((Step.refl noF w).alloc _).alloc _).alloc _).alloc _⟩
          · have HE : Hid ((Rg.mk a b).meet ⟨c, d⟩ = ⟨a, d⟩) := by show _ = _; simp [Rg.meet, Rg.turned, maxL, minH, h1, h2, h3, h4, h5]
            go_enter Tryz.func72, Tryz.ntmps72
            go_wp2
            refine bodyPost_ret (v := .agg #[.string (str a), .string (str d)]) (by simp [results, Tryz.results72, go_sem, *]) rfl ⟨by rw [HE.out]; rfl, ((((Step.refl noF w).alloc _).alloc _).alloc _).alloc _⟩
        · by_cases h5 : b < a
          · have HE : Hid ((Rg.mk a b).meet ⟨c, d⟩ = ⟨a, a⟩) := by show _ = _; simp [Rg.meet, Rg.turned, maxL, minH, h1, h2, h3, h4, h5]
            go_enter Tryz.func72, Tryz.ntmps72
            go_wp2
            refine bodyPost_ret (v := .agg #[.string (str a), .string (str a)]) (by simp [results, Tryz.results72, go_sem, *]) rfl ⟨by rw [HE.out]; rfl, ((((Step.refl noF w).alloc _).alloc _).alloc _).alloc _⟩
          · have HE : Hid ((Rg.mk a b).meet ⟨c, d⟩ = ⟨a, b⟩) := by show _ = _; simp [Rg.meet, Rg.turned, maxL, minH, h1, h2, h3, h4, h5]
            go_enter Tryz.func72, Tryz.ntmps72
            go_wp2
            refine bodyPost_ret (v := .agg #[.string (str a), .string (str b)]) (by simp [results, Tryz.results72, go_sem, *]) rfl ⟨by rw [HE.out]; rfl, ((((Step.refl noF w).alloc _).alloc _).alloc _).alloc _⟩
end Go.Proofs.YtipgbpopcamllaaGreat
