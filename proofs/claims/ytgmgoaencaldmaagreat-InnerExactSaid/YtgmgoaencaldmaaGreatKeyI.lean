/-
  What the reference's Meet does. Written by genmeet.py.
  What the reference's Cut does.
-/
import Derived.Test.YtgmgoaencaldmaaGreatKeyC
import Derived.Test.YtgmgoaencaldmaaGreatKeyG
namespace Go.Proofs.YtgmgoaencaldmaaGreat
open Go.RowKit
set_option linter.unusedVariables false
set_option linter.unusedSimpArgs false

set_option maxHeartbeats 8000000 in
set_option maxRecDepth 100000 in
theorem refMeet_any (r o : Rg) (w : World) : Calls Tryz.prog 75 #[r.val, o.val] w fun e w' => e = .returned (r.meet o).val ∧ Step noF w w' := by
  have e0 : r.val = .agg #[.string (str r.lo), .string (str r.hi)] := rfl
  have e1 : o.val = .agg #[.string (str o.lo), .string (str o.hi)] := rfl
  have h0 := nil_str
  have hE := same_str
  have hL := less_str
  have hG := gt_dec
  have hN : ∀ x : List UInt8, (x < []) = False := fun x => by simp
  rw [e0, e1]
  clear e0 e1
  obtain ⟨a, b⟩ := r
  obtain ⟨c, d⟩ := o
  simp only
  by_cases h1 : a < c
  · by_cases h2 : b = []
    · by_cases h3 : d = []
      · subst h2 h3
        have HE : Hid ((Rg.mk a []).meet ⟨c, []⟩ = ⟨c, []⟩) := by show _ = _; simp [Rg.meet, Rg.turned, maxL, minH, h1]
        go_enter Tryz.func75, Tryz.ntmps75
        go_wp2
        refine bodyPost_ret (v := .agg #[.string (str c), .string (str [])]) (by simp [results, Tryz.results75, go_sem, *]) rfl ⟨by rw [HE.out]; rfl, ((((Step.refl noF w).alloc _).alloc _).alloc _).alloc _⟩
      · subst h2
        by_cases h5 : d < c
        · have HE : Hid ((Rg.mk a []).meet ⟨c, d⟩ = ⟨c, c⟩) := by show _ = _; simp [Rg.meet, Rg.turned, maxL, minH, h1, h3, h5]
          go_enter Tryz.func75, Tryz.ntmps75
          go_wp2
          refine bodyPost_ret (v := .agg #[.string (str c), .string (str c)]) (by simp [results, Tryz.results75, go_sem, *]) rfl ⟨by rw [HE.out]; rfl, ((((Step.refl noF w).alloc _).alloc _).alloc _).alloc _⟩
        · have HE : Hid ((Rg.mk a []).meet ⟨c, d⟩ = ⟨c, d⟩) := by show _ = _; simp [Rg.meet, Rg.turned, maxL, minH, h1, h3, h5]
          go_enter Tryz.func75, Tryz.ntmps75
          go_wp2
          refine bodyPost_ret (v := .agg #[.string (str c), .string (str d)]) (by simp [results, Tryz.results75, go_sem, *]) rfl ⟨by rw [HE.out]; rfl, ((((Step.refl noF w).alloc _).alloc _).alloc _).alloc _⟩
    · by_cases h3 : d = []
      · subst h3
        by_cases h5 : b < c
        · have HE : Hid ((Rg.mk a b).meet ⟨c, []⟩ = ⟨c, c⟩) := by show _ = _; simp [Rg.meet, Rg.turned, maxL, minH, h1, h2, h5]
          go_enter Tryz.func75, Tryz.ntmps75
          go_wp2
          refine bodyPost_ret (v := .agg #[.string (str c), .string (str c)]) (by simp [results, Tryz.results75, go_sem, *]) rfl ⟨by rw [HE.out]; rfl, ((((Step.refl noF w).alloc _).alloc _).alloc _).alloc _⟩
        · have HE : Hid ((Rg.mk a b).meet ⟨c, []⟩ = ⟨c, b⟩) := by show _ = _; simp [Rg.meet, Rg.turned, maxL, minH, h1, h2, h5]
          go_enter Tryz.func75, Tryz.ntmps75
          go_wp2
          refine bodyPost_ret (v := .agg #[.string (str c), .string (str b)]) (by simp [results, Tryz.results75, go_sem, *]) rfl ⟨by rw [HE.out]; rfl, ((((Step.refl noF w).alloc _).alloc _).alloc _).alloc _⟩
      · by_cases h4 : d < b
        · by_cases h5 : d < c
          · have HE : Hid ((Rg.mk a b).meet ⟨c, d⟩ = ⟨c, c⟩) := by show _ = _; simp [Rg.meet, Rg.turned, maxL, minH, h1, h2, h3, h4, h5]
            go_enter Tryz.func75, Tryz.ntmps75
            go_wp2
            refine bodyPost_ret (v := .agg #[.string (str c), .string (str c)]) (by simp [results, Tryz.results75, go_sem, *]) rfl ⟨by rw [HE.out]; rfl, ((((Step.refl noF w).alloc _).alloc _).alloc _).alloc _⟩
          · have HE : Hid ((Rg.mk a b).meet ⟨c, d⟩ = ⟨c, d⟩) := by show _ = _; simp [Rg.meet, Rg.turned, maxL, minH, h1, h2, h3, h4, h5]
            go_enter Tryz.func75, Tryz.ntmps75
            go_wp2
            refine bodyPost_ret (v := .agg #[.string (str c), .string (str d)]) (by simp [results, Tryz.results75, go_sem, *]) rfl ⟨by rw [HE.out]; rfl, ((((Step.refl noF w).alloc _).alloc _).alloc _).alloc _⟩
        · by_cases h5 : b < c
          · have HE : Hid ((Rg.mk a b).meet ⟨c, d⟩ = ⟨c, c⟩) := by show _ = _; simp [Rg.meet, Rg.turned, maxL, minH, h1, h2, h3, h4, h5]
            go_enter Tryz.func75, Tryz.ntmps75
            go_wp2
            refine bodyPost_ret (v := .agg #[.string (str c), .string (str c)]) (by simp [results, Tryz.results75, go_sem, *]) rfl ⟨by rw [HE.out]; rfl, ((((Step.refl noF w).alloc _).alloc _).alloc _).alloc _⟩
          · have HE : Hid ((Rg.mk a b).meet ⟨c, d⟩ = ⟨c, b⟩) := by show _ = _; simp [Rg.meet, Rg.turned, maxL, minH, h1, h2, h3, h4, h5]
            go_enter Tryz.func75, Tryz.ntmps75
            go_wp2
            refine bodyPost_ret (v := .agg #[.string (str c), .string (str b)]) (by simp [results, Tryz.results75, go_sem, *]) rfl ⟨by rw [HE.out]; rfl, ((((Step.refl noF w).alloc _).alloc _).alloc _).alloc _⟩
  · by_cases h2 : b = []
    · by_cases h3 : d = []
      · subst h2 h3
        have HE : Hid ((Rg.mk a []).meet ⟨c, []⟩ = ⟨a, []⟩) := by show _ = _; simp [Rg.meet, Rg.turned, maxL, minH, h1]
        go_enter Tryz.func75, Tryz.ntmps75
        go_wp2
        refine bodyPost_ret (v := .agg #[.string (str a), .string (str [])]) (by simp [results, Tryz.results75, go_sem, *]) rfl ⟨by rw [HE.out]; rfl, ((((Step.refl noF w).alloc _).alloc _).alloc _).alloc _⟩
      · subst h2
        by_cases h5 : d < a
        · have HE : Hid ((Rg.mk a []).meet ⟨c, d⟩ = ⟨a, a⟩) := by show _ = _; simp [Rg.meet, Rg.turned, maxL, minH, h1, h3, h5]
          go_enter Tryz.func75, Tryz.ntmps75
          go_wp2
          refine bodyPost_ret (v := .agg #[.string (str a), .string (str a)]) (by simp [results, Tryz.results75, go_sem, *]) rfl ⟨by rw [HE.out]; rfl, ((((Step.refl noF w).alloc _).alloc _).alloc _).alloc _⟩
        · have HE : Hid ((Rg.mk a []).meet ⟨c, d⟩ = ⟨a, d⟩) := by show _ = _; simp [Rg.meet, Rg.turned, maxL, minH, h1, h3, h5]
          go_enter Tryz.func75, Tryz.ntmps75
          go_wp2
          refine bodyPost_ret (v := .agg #[.string (str a), .string (str d)]) (by simp [results, Tryz.results75, go_sem, *]) rfl ⟨by rw [HE.out]; rfl, ((((Step.refl noF w).alloc _).alloc _).alloc _).alloc _⟩
    · by_cases h3 : d = []
      · subst h3
        by_cases h5 : b < a
        · have HE : Hid ((Rg.mk a b).meet ⟨c, []⟩ = ⟨a, a⟩) := by show _ = _; simp [Rg.meet, Rg.turned, maxL, minH, h1, h2, h5]
          go_enter Tryz.func75, Tryz.ntmps75
          go_wp2
          refine bodyPost_ret (v := .agg #[.string (str a), .string (str a)]) (by simp [results, Tryz.results75, go_sem, *]) rfl ⟨by rw [HE.out]; rfl, ((((Step.refl noF w).alloc _).alloc _).alloc _).alloc _⟩
        · have HE : Hid ((Rg.mk a b).meet ⟨c, []⟩ = ⟨a, b⟩) := by show _ = _; simp [Rg.meet, Rg.turned, maxL, minH, h1, h2, h5]
          go_enter Tryz.func75, Tryz.ntmps75
          go_wp2
          refine bodyPost_ret (v := .agg #[.string (str a), .string (str b)]) (by simp [results, Tryz.results75, go_sem, *]) rfl ⟨by rw [HE.out]; rfl, ((((Step.refl noF w).alloc _).alloc _).alloc _).alloc _⟩
      · by_cases h4 : d < b
        · by_cases h5 : d < a
          · have HE : Hid ((Rg.mk a b).meet ⟨c, d⟩ = ⟨a, a⟩) := by show _ = _; simp [Rg.meet, Rg.turned, maxL, minH, h1, h2, h3, h4, h5]
            go_enter Tryz.func75, Tryz.ntmps75
            go_wp2
            refine bodyPost_ret (v := .agg #[.string (str a), .string (str a)]) (by simp [results, Tryz.results75, go_sem, *]) rfl ⟨by rw [HE.out]; rfl, ((((Step.refl noF w).alloc _).alloc _).alloc _).alloc _⟩
          · have HE : Hid ((Rg.mk a b).meet ⟨c, d⟩ = ⟨a, d⟩) := by show _ = _; simp [Rg.meet, Rg.turned, maxL, minH, h1, h2, h3, h4, h5]
            go_enter Tryz.func75, Tryz.ntmps75
            go_wp2
            refine bodyPost_ret (v := .agg #[.string (str a), .string (str d)]) (by simp [results, Tryz.results75, go_sem, *]) rfl ⟨by rw [HE.out]; rfl, ((((Step.refl noF w).alloc _).alloc _).alloc _).alloc _⟩
        · by_cases h5 : b < a
          · have HE : Hid ((Rg.mk a b).meet ⟨c, d⟩ = ⟨a, a⟩) := by show _ = _; simp [Rg.meet, Rg.turned, maxL, minH, h1, h2, h3, h4, h5]
            go_enter Tryz.func75, Tryz.ntmps75
            go_wp2
            refine bodyPost_ret (v := .agg #[.string (str a), .string (str a)]) (by simp [results, Tryz.results75, go_sem, *]) rfl ⟨by rw [HE.out]; rfl, ((((Step.refl noF w).alloc _).alloc _).alloc _).alloc _⟩
          · have HE : Hid ((Rg.mk a b).meet ⟨c, d⟩ = ⟨a, b⟩) := by show _ = _; simp [Rg.meet, Rg.turned, maxL, minH, h1, h2, h3, h4, h5]
            go_enter Tryz.func75, Tryz.ntmps75
            go_wp2
            refine bodyPost_ret (v := .agg #[.string (str a), .string (str b)]) (by simp [results, Tryz.results75, go_sem, *]) rfl ⟨by rw [HE.out]; rfl, ((((Step.refl noF w).alloc _).alloc _).alloc _).alloc _⟩
end Go.Proofs.YtgmgoaencaldmaaGreat
namespace Go.Proofs.YtgmgoaencaldmaaGreat
open Go.RowKit
set_option linter.unusedVariables false
set_option linter.unusedSimpArgs false

theorem info_rrg : (Tryz.prog.info? 42).map (fun i => (i.zero, i.size, i.bytes)) = some (some (.agg #[.string ⟨#[]⟩, .string ⟨#[]⟩]), 2, 32) := by kernel_rfl

set_option maxHeartbeats 8000000 in
set_option maxRecDepth 100000 in
theorem refCut_in (r : Rg) (ps : List (List UInt8)) (hl : ps.length ≤ 1000) (hp0 : ps.length ≠ 0) (a : Option Addr) (cap : Nat) (w : World) (h : RowAt w noF a (texts ps)) :
    Calls Tryz.prog 46 #[r.val, .slice a ps.length cap] w fun e w' => ∃ a' c, e = .returned (.slice a' (ps.length + 1) c) ∧ ps.length + 1 ≤ c ∧ RgsAt w' a' (r.cut ps) ∧ Step noF w w' := by
  have e0 : r.val = .agg #[.string (str r.lo), .string (str r.hi)] := rfl
  have h0 := nil_str
  obtain ⟨i0, hi, hz0, hz1, hz2⟩ := info_of info_rrg
  have HR := hid h
  have hp : ps ≠ [] := fun h => hp0 (by rw [h]; rfl)
  have HC : Hid (r.cut ps = (partsL [] ps).map r.meet) := by show _ = _; simp [Rg.cut, hp]
  have HM : ∀ (x y : List UInt8) (u : World), Calls Tryz.prog 75 #[.agg #[.string (str r.lo), .string (str r.hi)], .agg #[.string (str x), .string (str y)]] u fun e w' => e = .returned (.agg #[.string (str (r.meet ⟨x, y⟩).lo), .string (str (r.meet ⟨x, y⟩).hi)]) ∧ Step noF u w' := by
    intro x y u
    exact refMeet_any r ⟨x, y⟩ u
  rw [e0]
  clear h hp e0
  have S1 : Hid (Step noF w (w.alloc (.cells #[.string (str r.lo), .string (str r.hi)] 42))) := (Step.refl noF w).alloc _
  have P1 : Hid (PairAt (w.alloc (.cells #[.string (str r.lo), .string (str r.hi)] 42)) w.heap.size 42 r.lo r.hi) := pair_new _ _ _ _
  have hne : ((ps.length : Int) == 0) = false := by rw [beq_eq_false_iff_ne]; omega
  obtain ⟨W1, hW1⟩ : ∃ W1, w.alloc (.cells #[.string (str r.lo), .string (str r.hi)] 42) = W1 := ⟨_, rfl⟩
  go_enter Tryz.func46, Tryz.ntmps46
  go_wp2_with fail
  have S2 : Hid (Step noF w (W1.alloc (.cells #[] 42))) := by rw [← hW1]; exact S1.out.alloc _
  have O1 : Hid ((W1.alloc (.cells #[] 42)).ownsRow 0 42 2 (.slice (some ⟨W1.heap.size, 0, none⟩) 0 0) 0 []) := ⟨rfl, .inr ⟨_, 0, #[], rfl, Nat.zero_le _, block_alloc_new W1 _, Nat.le_refl _, Nat.zero_le _, rfl, rfl⟩⟩
  have hW2 : Hid (w.heap.size + 1 = W1.heap.size) := by show _ = _; rw [← hW1, World.size_alloc]
  have HP : Hid (∀ wr, Step noF W1 wr → PairAt wr w.heap.size 42 r.lo r.hi) := by
    intro wr hs
    refine PairAt.step ?_ hs
    rw [← hW1]
    exact P1.out
  clear P1 S1 hW1
  go_loopw [5, 6] (fun v i wr => ∃ j : Nat, j ≤ ps.length + 1 ∧ i = .int .i64 j ∧ Step noF W1 wr ∧ wr.ownsRow 0 42 2 v j (rgs (((partsL [] ps).take j).map r.meet)) ∧ (∀ k, v.ownBlock = some k → W1.heap.size ≤ k) ∧ Step noF w wr) (fun _ i _ => ps.length + 1 - (intOf i).toNat)
  case atStart => exact ⟨0, Nat.zero_le _, rfl, (Step.refl _ _).alloc _, O1.out, fun k hk => by simp [Value.ownBlock] at hk; omega, S2.out⟩
  case round =>
    obtain ⟨j, hj, rfl, hst, hown, hfr, hsw⟩ := hrel
    by_cases hjn : j ≤ ps.length
    · have hji : (j : Int) ≤ (ps.length : Int) := by omega
      have hpl : j < (partsL [] ps).length := by rw [partsL_length]; omega
      obtain ⟨lo, hlo⟩ : ∃ lo, ([] :: ps).getD j [] = lo := ⟨_, rfl⟩
      obtain ⟨hh, hhi⟩ : ∃ hh, ps.getD j [] = hh := ⟨_, rfl⟩
      obtain ⟨M, hM⟩ : ∃ M, r.meet ⟨lo, hh⟩ = M := ⟨_, rfl⟩
      have hT : Hid (((partsL [] ps).take (j + 1)).map r.meet = ((partsL [] ps).take j).map r.meet ++ [M]) := by show _ = _; rw [List.take_succ_eq_append_getElem hpl, List.map_append, partsL_at, hlo, hhi, List.map_singleton, hM]
      have hc := HM lo hh
      rw [hM] at hc
      have hone : Hid (∀ u ∈ [Value.string (str M.lo), Value.string (str M.hi)], u.oneCell' = true) := fun u hu => by
        simp at hu; rcases hu with rfl | rfl <;> rfl
      have hmx : Hid (j + 1 ≤ maxLen) := le_max (by omega)
      have hmb : Hid ((j + 1) * 32 ≤ 140737488355328) := by show _ ≤ _; omega
      have q0 : ∀ o, (wr.alloc o).cell? ⟨w.heap.size, 0, none⟩ = some (.string (str r.lo)) := fun o => cell_alloc (HP.out wr hst).c0 o
      have q1 : ∀ o, (wr.alloc o).cell? ⟨w.heap.size, 1, none⟩ = some (.string (str r.hi)) := fun o => cell_alloc (HP.out wr hst).c1 o
      by_cases hj0 : j = 0
      · have hlt : (0 : Int) < (ps.length : Int) := by omega
        obtain ⟨b, off, rfl, c0'⟩ := texts_at (HR.out.step hsw) 0 (by omega)
        have e1 : lo = [] := by rw [← hlo, hj0]; rfl
        have e2 : ps[0] = hh := by rw [← hhi, hj0]; simp [List.getD, List.getElem?_eq_getElem (show 0 < ps.length by omega)]
        subst e1
        have c0 : ∀ o, (wr.alloc o).cell? ⟨b, off, none⟩ = some (.string (str hh)) := fun o => by rw [← e2]; exact cell_alloc c0' o
        have hjz : (j : Int) = 0 := by omega
        clear hlo hhi hM e2 c0'
        go_wp2_with fail
        refine (hc _).mono ?_
        rintro e w2 ⟨rfl, s2⟩
        clear q0 q1
        have s3 : Step noF wr w2 := ((Step.refl noF wr).alloc _).trans s2
        have hown2 : w2.ownsRow 0 42 2 u5 j (rgs (((partsL [] ps).take j).map r.meet)) := owns_keep hown (fun k hk => s3.block k (hown.lt k hk).2 (fun x => x))
        go_wp2_with (at_builtin; refine wpList_append_fresh rfl (.tmp 38) (.tmp 42) 91 rfl 42 i0 _ 2 32 Tryz.underlying91 hi hz0 hz1 hz2 rfl (by decide) _ _ _ (by simp [Act.eval]; rfl) (by exact hown2.alloc _) ⟨w2.heap.size, 0, none⟩ 1 1 [.string (str M.lo), .string (str M.hi)] (by simp [Act.eval]) rfl (pair_row _ _ _ _ _ rfl) hone.out hmx.out hmb.out ?_; intro v' w' ho' hg' hfr')
        go_roundw
        case rel =>
          refine ⟨j + 1, by omega, int_eq (by omega), ?_, ?_, ?_, ?_⟩
          · exact ((hst.trans s3).alloc _).grown hg' (fun k hk => .inr (hfr k hk))
          · rw [hT.out, rgs_append]
            exact ho'
          · intro k hk
            rcases hfr' with e | e
            · exact hfr k (by rw [← e]; exact hk)
            · exact Nat.le_trans ((hst.trans s3).alloc _).size (e k hk)
          · exact ((hsw.trans s3).alloc _).grown hg' (fun k hk => .inr (by have := hfr k hk; have := hW2.out; omega))
        case measure => simp [intOf]; omega
      · obtain ⟨m, rfl⟩ : ∃ m, j = m + 1 := ⟨j - 1, by omega⟩
        obtain ⟨b, off, rfl, c0'⟩ := texts_at (HR.out.step hsw) m (by omega)
        have e1 : ps[m] = lo := by rw [← hlo]; simp [List.getD, List.getElem?_eq_getElem (show m < ps.length by omega)]
        have c0 : ∀ o, (wr.alloc o).cell? ⟨b, off + m, none⟩ = some (.string (str lo)) := fun o => by rw [← e1]; exact cell_alloc c0' o
        have g1 : (0 : Int) < ((m + 1 : Nat) : Int) := by omega
        have g2 : ((m + 1 : Nat) : Int) - 1 = (m : Int) := by omega
        have g3 : (m : Int) < (ps.length : Int) := by omega
        by_cases hj1 : m + 1 < ps.length
        · have hlt : ((m + 1 : Nat) : Int) < (ps.length : Int) := by omega
          obtain ⟨b2, off2, hb2, c1'⟩ := texts_at (HR.out.step hsw) (m + 1) hj1
          injection hb2 with hb2
          injection hb2 with hb2 hb3
          subst hb2 hb3
          have e2 : ps[m + 1] = hh := by rw [← hhi]; simp [List.getD, List.getElem?_eq_getElem hj1]
          have c1 : ∀ o, (wr.alloc o).cell? ⟨b, off + (m + 1), none⟩ = some (.string (str hh)) := fun o => by rw [← e2]; exact cell_alloc c1' o
          clear hlo hhi hM e1 e2 c0' c1' hj0
          go_wp2_with fail
          refine (hc _).mono ?_
          rintro e w2 ⟨rfl, s2⟩
          clear q0 q1
          have s3 : Step noF wr w2 := ((Step.refl noF wr).alloc _).trans s2
          have hown2 : w2.ownsRow 0 42 2 u5 (m + 1) (rgs (((partsL [] ps).take (m + 1)).map r.meet)) := owns_keep hown (fun k hk => s3.block k (hown.lt k hk).2 (fun x => x))
          go_wp2_with (at_builtin; refine wpList_append_fresh rfl (.tmp 38) (.tmp 42) 91 rfl 42 i0 _ 2 32 Tryz.underlying91 hi hz0 hz1 hz2 rfl (by decide) _ _ _ (by simp [Act.eval]; rfl) (by exact hown2.alloc _) ⟨w2.heap.size, 0, none⟩ 1 1 [.string (str M.lo), .string (str M.hi)] (by simp [Act.eval]) rfl (pair_row _ _ _ _ _ rfl) hone.out hmx.out hmb.out ?_; intro v' w' ho' hg' hfr')
          go_roundw
          case rel =>
            refine ⟨m + 1 + 1, by omega, int_eq (by omega), ?_, ?_, ?_, ?_⟩
            · exact ((hst.trans s3).alloc _).grown hg' (fun k hk => .inr (hfr k hk))
            · rw [hT.out, rgs_append]
              exact ho'
            · intro k hk
              rcases hfr' with e | e
              · exact hfr k (by rw [← e]; exact hk)
              · exact Nat.le_trans ((hst.trans s3).alloc _).size (e k hk)
            · exact ((hsw.trans s3).alloc _).grown hg' (fun k hk => .inr (by have := hfr k hk; have := hW2.out; omega))
          case measure => simp [intOf]; omega
        · have hlt : ¬ ((m + 1 : Nat) : Int) < (ps.length : Int) := by omega
          have e2 : hh = [] := by rw [← hhi]; simp [List.getD, List.getElem?_eq_none (show ps.length ≤ m + 1 by omega)]
          subst e2
          clear hlo hhi hM e1 c0' hj0
          go_wp2_with fail
          refine (hc _).mono ?_
          rintro e w2 ⟨rfl, s2⟩
          clear q0 q1
          have s3 : Step noF wr w2 := ((Step.refl noF wr).alloc _).trans s2
          have hown2 : w2.ownsRow 0 42 2 u5 (m + 1) (rgs (((partsL [] ps).take (m + 1)).map r.meet)) := owns_keep hown (fun k hk => s3.block k (hown.lt k hk).2 (fun x => x))
          go_wp2_with (at_builtin; refine wpList_append_fresh rfl (.tmp 38) (.tmp 42) 91 rfl 42 i0 _ 2 32 Tryz.underlying91 hi hz0 hz1 hz2 rfl (by decide) _ _ _ (by simp [Act.eval]; rfl) (by exact hown2.alloc _) ⟨w2.heap.size, 0, none⟩ 1 1 [.string (str M.lo), .string (str M.hi)] (by simp [Act.eval]) rfl (pair_row _ _ _ _ _ rfl) hone.out hmx.out hmb.out ?_; intro v' w' ho' hg' hfr')
          go_roundw
          case rel =>
            refine ⟨m + 1 + 1, by omega, int_eq (by omega), ?_, ?_, ?_, ?_⟩
            · exact ((hst.trans s3).alloc _).grown hg' (fun k hk => .inr (hfr k hk))
            · rw [hT.out, rgs_append]
              exact ho'
            · intro k hk
              rcases hfr' with e | e
              · exact hfr k (by rw [← e]; exact hk)
              · exact Nat.le_trans ((hst.trans s3).alloc _).size (e k hk)
            · exact ((hsw.trans s3).alloc _).grown hg' (fun k hk => .inr (by have := hfr k hk; have := hW2.out; omega))
          case measure => simp [intOf]; omega
    · obtain rfl : j = ps.length + 1 := by omega
      go_wp2_with fail
      go_ret
      rw [List.take_of_length_le (by rw [partsL_length]; omega)] at hown
      obtain ⟨a', c, rfl, hc', hr⟩ := rgsAt_owns hown (by rw [List.length_map, partsL_length])
      exact ⟨a', c, rfl, hc', by rw [HC.out]; exact hr, hsw⟩
theorem refCut_any (r : Rg) (ps : List (List UInt8)) (hl : ps.length ≤ 1000) (a : Option Addr) (cap : Nat) (w : World) (h : RowAt w noF a (texts ps)) :
    Calls Tryz.prog 46 #[r.val, .slice a ps.length cap] w fun e w' => ∃ a' c, e = .returned (.slice a' (ps.length + 1) c) ∧ ps.length + 1 ≤ c ∧ RgsAt w' a' (r.cut ps) ∧ Step noF w w' := by
  by_cases hp : ps.length = 0
  · have hp2 := List.eq_nil_of_length_eq_zero hp
    subst hp2
    have HC : Hid (r.cut [] = [r]) := rfl
    have e0 : r.val = .agg #[.string (str r.lo), .string (str r.hi)] := rfl
    have HB : Hid (RgsAt ((w.alloc (.cells #[.string (str r.lo), .string (str r.hi)] 42)).alloc (.cells #[.string (str r.lo), .string (str r.hi)] 42)) (some ⟨w.heap.size + 1, 0, none⟩) [r]) := by
      have hb := block_alloc_new (w.alloc (.cells #[.string (str r.lo), .string (str r.hi)] 42)) (.cells #[.string (str r.lo), .string (str r.hi)] 42)
      rw [World.size_alloc] at hb
      exact rgsAt_block hb (rest := []) rfl
    rw [e0]
    clear h
    go_enter Tryz.func46, Tryz.ntmps46
    go_wp2_with fail
    go_ret
    exact ⟨_, _, rfl, Nat.le_refl _, by rw [HC.out]; exact HB.out, ((Step.refl noF w).alloc _).alloc _⟩
  · exact refCut_in r ps hl hp a cap w h
end Go.Proofs.YtgmgoaencaldmaaGreat
