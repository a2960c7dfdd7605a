/-
  sort.Search: the least place from which on a function says yes.
  span, Take and Without: the messages whose keys a range has stand side by side.
  Take and Without; Loads.
-/
import Derived.Test.YtoobelcphcndoaaGreatFrame
import Derived.Test.YtoobelcphcndoaaGreatLfSwap
import Derived.Deep.LoopGhost
import Derived.Test.YtoobelcphcndoaaGreatBfC
import Derived.Test.YtoobelcphcndoaaGreatBfA
import Derived.Test.YtoobelcphcndoaaGreatKeyM
import Derived.Test.YtoobelcphcndoaaGreatKeyC
import Derived.Test.YtoobelcphcndoaaGreatDraw
import Derived.BigQuiet
import Derived.Deep.RegionLaw
namespace Go.Proofs.YtoobelcphcndoaaGreat
open Go.RowKit Go.Sort
set_option linter.unusedVariables false
set_option linter.unusedSimpArgs false

/-- What sort.Search answers. -/
def SearchPost (n : Nat) (p : Nat → Bool) (e : Ending) : Prop := ∃ m : Nat, e = .returned (.int .i64 m) ∧ m ≤ n ∧ (∀ i, i < m → p i = false) ∧ (∀ i, m ≤ i → i < n → p i = true)

set_option maxHeartbeats 2000000 in
theorem search_any (n : Nat) (hn : n ≤ 1000000) (p : Nat → Bool) (hm : ∀ i j, i ≤ j → j < n → p i = true → p j = true) (g : Nat) (cb : Array Value) (eg : ∀ args w, (callFunc g args).run Tryz.prog w = .ok (.enter g args) w) (w : World)
    (hc : ∀ i : Nat, i < n → ∀ w', Step noF w w' → Calls Tryz.prog g (#[.int .i64 i] ++ cb) w' fun e w'' => e = .returned (.bool (p i)) ∧ Step noF w' w'') :
    Calls Tryz.prog 177 #[.int .i64 n, .func (.func g) #[] cb] w fun e w' => SearchPost n p e ∧ Step noF w w' := by
  have HC := hid hc
  have HM := hid hm
  clear hc hm
  go_enter Tryz.func177, Tryz.ntmps177
  go_wp2
  go_loopg [5, 6] n (fun kx s5 s6 wr => ∃ (i j : Nat), s5 = .int .i64 i ∧ s6 = .int .i64 j ∧ i ≤ j ∧ j ≤ n ∧ j - i ≤ kx ∧ Hid (Step noF w wr) ∧ Hid ((∀ t, t < i → p t = false) ∧ (∀ t, j ≤ t → t < n → p t = true)))
  case atStart => exact ⟨0, n, rfl, rfl, Nat.zero_le _, Nat.le_refl _, by omega, Step.refl _ _, ⟨fun t h => absurd h (by omega), fun t h h2 => absurd h (by omega)⟩⟩
  case round =>
    obtain ⟨i, j, rfl, rfl, hij, hjn, hkx, ST, HI⟩ := hrel
    by_cases hlt : i < j
    · have hltz : (i : Int) < (j : Int) := by omega
      obtain ⟨m, hm⟩ : ∃ m, (i + j) / 2 = m := ⟨_, rfl⟩
      have em : ((i : Int) + (j : Int)) / 2 = (m : Int) := by omega
      have him : i ≤ m := by omega
      have hmj : m < j := by omega
      clear hm
      have hcg := HC.out m (by omega) wr ST.out
      obtain ⟨P, hP⟩ : ∃ P, p m = P := ⟨_, rfl⟩
      rw [hP] at hcg
      have HP := hid hP
      clear hP
      cases P
      · go_wp2_with (go_at_fn g; refine hcg.mono ?_; rintro e w2 ⟨rfl, s2⟩)
        have S2 := hid s2
        clear s2
        go_wp2
        go_roundg (j - (m + 1))
        case measure => omega
        case rel =>
          refine ⟨m + 1, j, by simp, rfl, by omega, by omega, Nat.le_refl _, ST.out.trans S2.out, ⟨fun t ht => ?_, HI.out.2⟩⟩
          cases hb : p t with
          | false => rfl
          | true => exact absurd (HM.out t m (by omega) (by omega) hb) (by rw [HP.out]; simp)
      · go_wp2_with (go_at_fn g; refine hcg.mono ?_; rintro e w2 ⟨rfl, s2⟩)
        have S2 := hid s2
        clear s2
        go_wp2
        go_roundg (m - i)
        case measure => omega
        case rel => exact ⟨i, m, rfl, rfl, by omega, by omega, Nat.le_refl _, ST.out.trans S2.out, ⟨HI.out.1, fun t ht htn => HM.out m t ht htn HP.out⟩⟩
    · obtain rfl : i = j := by omega
      have hltz : ¬ (i : Int) < (i : Int) := by omega
      go_wp2_with fail
      go_ret
      exact ⟨⟨i, rfl, hjn, HI.out⟩, ST.out⟩
end Go.Proofs.YtoobelcphcndoaaGreat
namespace Go.Proofs.YtoobelcphcndoaaGreat
open Go.RowKit Go.Sort
set_option linter.unusedVariables false
set_option linter.unusedSimpArgs false
set_option maxRecDepth 20000

theorem enterS1 : ∀ args w, (callFunc 178 args).run Tryz.prog w = .ok (.enter 178 args) w := enters_of Tryz.func178 (by kernel_rfl) rfl
theorem enterS2 : ∀ args w, (callFunc 179 args).run Tryz.prog w = .ok (.enter 179 args) w := enters_of Tryz.func179 (by kernel_rfl) rfl

set_option maxHeartbeats 1000000 in
/-- Whether a place is none ahead of the range. -/
theorem span1_any (w : World) (p bp br : Nat) (xs : List Mg) (hl : xs.length ≤ 1000000) (r : Rg) (h : BuffAt w p xs) (hbp : w.cell? ⟨bp, 0, none⟩ = some (.pointer (some ⟨p, 0, none⟩))) (hr0 : w.cell? ⟨br, 0, none⟩ = some (.string (str r.lo))) (i : Nat) (hi : i < xs.length) :
    Calls Tryz.prog 178 #[.int .i64 i, .pointer (some ⟨bp, 0, none⟩), .pointer (some ⟨br, 0, none⟩)] w fun e w' => e = .returned (.bool (!decide (xs[i].key < r.lo))) ∧ Step noF w w' := by
  obtain ⟨a, c, k0, _, _, kr⟩ := h.cell
  obtain ⟨g, off, rfl, c0, c1, c2⟩ := kr.at i hi
  have hiz : (i : Int) < (xs.length : Int) := by omega
  obtain ⟨y, hy⟩ : ∃ y, xs[i].key = y := ⟨_, rfl⟩
  rw [hy] at c1 ⊢
  obtain ⟨lo, hlo⟩ : ∃ lo, r.lo = lo := ⟨_, rfl⟩
  rw [hlo] at hr0 ⊢
  clear h kr c0 c2 hy hlo
  have hL := less_str
  go_enter Tryz.func178, Tryz.ntmps178
  go_wp2_with fail
  go_quiet (fail)
  go_wp2_with fail
  go_ret
  exact ⟨rfl, (Step.refl _ _).drewN _⟩
set_option maxHeartbeats 1000000 in
/-- Whether a place behind the first one is none of the range. -/
theorem span2_any (w : World) (p bp br bf f : Nat) (xs : List Mg) (hl : xs.length ≤ 1000000) (r : Rg) (h : BuffAt w p xs) (hbp : w.cell? ⟨bp, 0, none⟩ = some (.pointer (some ⟨p, 0, none⟩))) (hr0 : w.cell? ⟨br, 0, none⟩ = some (.string (str r.lo))) (hr1 : w.cell? ⟨br, 1, none⟩ = some (.string (str r.hi))) (hbf : w.cell? ⟨bf, 0, none⟩ = some (.int .i64 f)) (i : Nat) (hi : f + i < xs.length) :
    Calls Tryz.prog 179 #[.int .i64 i, .pointer (some ⟨br, 0, none⟩), .pointer (some ⟨bp, 0, none⟩), .pointer (some ⟨bf, 0, none⟩)] w fun e w' => e = .returned (.bool (!r.has xs[f + i].key)) ∧ Step noF w w' := by
  obtain ⟨a, c, k0, _, _, kr⟩ := h.cell
  obtain ⟨g, off, rfl, c0, c1, c2⟩ := kr.at (f + i) hi
  obtain ⟨t, ht⟩ : ∃ t, f + i = t := ⟨_, rfl⟩
  have hiz : (t : Int) < (xs.length : Int) := by omega
  have hsum : (f : Int) + (i : Int) = (t : Int) := by omega
  have hfb : f ≤ 1000000 := by omega
  have hib : i ≤ 1000000 := by omega
  have rw1 : IntKind.i64.wrap (t : Int) = (t : Int) := by rw [IntKind.wrap_i64]; omega
  have htn : ¬ (t : Int) < 0 := by omega
  have cH := has_any r xs[f + i].key
  have er : r.val = .agg #[.string (str r.lo), .string (str r.hi)] := rfl
  rw [er] at cH
  obtain ⟨y, hy⟩ : ∃ y, xs[f + i].key = y := ⟨_, rfl⟩
  rw [hy] at c1 cH ⊢
  rw [ht] at c1
  obtain ⟨B, hB⟩ : ∃ B, r.has y = B := ⟨_, rfl⟩
  rw [hB] at cH ⊢
  obtain ⟨rlo, rhi⟩ := r
  simp only at hr0 hr1 cH
  clear h kr c0 c2 hy hB er ht hi
  go_enter Tryz.func179, Tryz.ntmps179
  go_wp2_with fail
  go_region_law (refine step_calls rfl rfl Tryz.func180 (by kernel_rfl) (by kernel_rfl) (args := #[.agg #[.string (str rlo), .string (str rhi)], .string (str y)]) (by first | rfl | (simp [Act.eval, Act.put]; done)) ?_; refine (cH _).mono ?_; rintro e w2 ⟨rfl, s2⟩; have S2 : Hid (Step noF w w2) := (by first | exact s2 | exact ((Step.refl noF w).drew).trans s2 | exact ((Step.refl noF w).drewN _).trans s2); clear s2; refine ⟨_, rfl, ?_⟩)
  all_goals go_wp2_with fail
  all_goals go_ret
  all_goals exact ⟨rfl, S2.out⟩

/-- From where on the messages of a range stand, and how many. -/
def SpanPost (r : Rg) (xs : List Mg) (e : Ending) : Prop := ∃ f t : Nat, e = .returned (.tuple #[.int .i64 f, .int .i64 t]) ∧ f ≤ t ∧ t ≤ xs.length ∧ (xs.take t).drop f = takeM r xs ∧ xs.take f ++ xs.drop t = dropM r xs
set_option maxHeartbeats 4000000 in
theorem span_any (p : Nat) (xs : List Mg) (hl : xs.length ≤ 1000000) (hR : RisingM xs) (hG : GoodM xs) (r : Rg) (w : World) (h : BuffAt w p xs) :
    Calls Tryz.prog 159 #[.pointer (some ⟨p, 0, none⟩), .agg #[.string (str r.lo), .string (str r.hi)]] w fun e w' => SpanPost r xs e ∧ Step noF w w' := by
  have hs1 : Step noF w (w.alloc (.cells #[.pointer (some ⟨p, 0, none⟩)] 64)) := (Step.refl noF w).alloc _
  have b0 : (w.alloc (.cells #[.pointer (some ⟨p, 0, none⟩)] 64)).cell? ⟨w.heap.size, 0, none⟩ = some (.pointer (some ⟨p, 0, none⟩)) := by rw [cell_of_block (block_alloc_new w _)]; rfl
  have hsz : (w.alloc (.cells #[.pointer (some ⟨p, 0, none⟩)] 64)).heap.size = w.heap.size + 1 := World.size_alloc _ _
  obtain ⟨w1, hw1⟩ : ∃ w1, w1 = w.alloc (.cells #[.pointer (some ⟨p, 0, none⟩)] 64) := ⟨_, rfl⟩
  obtain ⟨w2, hw2⟩ : ∃ w2, w2 = w1.alloc (.cells #[.string (str r.lo), .string (str r.hi)] 166) := ⟨_, rfl⟩
  rw [← hw1] at hs1 b0 hsz
  have hs2 : Step noF w w2 := by rw [hw2]; exact hs1.alloc _
  have q0 : w2.cell? ⟨w.heap.size + 1, 0, none⟩ = some (.string (str r.lo)) := by rw [hw2, ← hsz]; exact (two_new w1 _ _ _).1
  have q1 : w2.cell? ⟨w.heap.size + 1, 1, none⟩ = some (.string (str r.hi)) := by rw [hw2, ← hsz]; exact (two_new w1 _ _ _).2
  have b1 : w2.cell? ⟨w.heap.size, 0, none⟩ = some (.pointer (some ⟨p, 0, none⟩)) := by rw [hw2]; exact cell_alloc b0 _
  have HRI := hid hR
  have HGG := hid hG
  have HS2 := hid hs2
  have HBT := hid (h.step hs2)
  obtain ⟨a, c, k0, _, _, _⟩ := HBT.out.cell
  have cS1 := search_any xs.length hl (fun i => if hi : i < xs.length then !decide (xs[i].key < r.lo) else true) (fun i j hij hj hpi => by
      have hi : i < xs.length := by omega
      simp only [hi, hj, dite_true] at hpi ⊢
      cases hd : decide (xs[j].key < r.lo) with
      | false => rfl
      | true =>
        have := risingM_at HRI.out hj hij r.lo (of_decide_eq_true hd)
        simp [this] at hpi) 178 #[.pointer (some ⟨w.heap.size, 0, none⟩), .pointer (some ⟨w.heap.size + 1, 0, none⟩)] enterS1 w2 (fun i hi w' hst => by
      refine (span1_any w' p w.heap.size (w.heap.size + 1) xs hl r (HBT.out.step hst) (hst.after b1) (hst.after q0) i hi).mono ?_
      rintro e w'' ⟨rfl, s⟩
      exact ⟨by simp [hi], s⟩)
  have CS1 := hid cS1
  clear h hR hG hs1 hs2 b0 cS1
  have hwe : (w.alloc (.cells #[.pointer (some ⟨p, 0, none⟩)] 64)).alloc (.cells #[.string (str r.lo), .string (str r.hi)] 166) = w2 := by rw [hw2, hw1]
  clear hw2 hw1
  go_enter Tryz.func159, Tryz.ntmps159
  go_wp2_with fail
  refine CS1.out.mono ?_
  rintro e w3 ⟨⟨f, rfl, hfn, hf1, hf2⟩, s3⟩
  have S3 := hid (HS2.out.trans s3)
  have q0' := s3.after q0
  have q1' := s3.after q1
  have b1' := s3.after b1
  have k0' := s3.after k0
  have HB3 := hid (HBT.out.step s3)
  have HF1 := hid hf1
  have HF2 := hid hf2
  clear hf1 hf2 s3 CS1 hwe q0 q1 b1 k0
  have hw4 : Step noF w3 (w3.alloc (.cells #[.int .i64 f] 3)) := (Step.refl noF w3).alloc _
  have f0 : (w3.alloc (.cells #[.int .i64 f] 3)).cell? ⟨w3.heap.size, 0, none⟩ = some (.int .i64 f) := by rw [cell_of_block (block_alloc_new w3 _)]; rfl
  obtain ⟨n, hn⟩ : ∃ n, xs.length - f = n := ⟨_, rfl⟩
  have en : (xs.length : Int) - (f : Int) = (n : Int) := by omega
  have rn : IntKind.i64.wrap (n : Int) = (n : Int) := by rw [IntKind.wrap_i64]; omega
  have k4 := hw4.after k0'
  have b4 := hw4.after b1'
  have p4 := hw4.after q0'
  have p5 := hw4.after q1'
  have HB4 := hid (HB3.out.step hw4)
  have S4 := hid (S3.out.trans hw4)
  have HN := hid hn
  clear k0' b1' q0' q1' hw4 HB3 S3
  obtain ⟨w4, hwe4⟩ : ∃ w4, w3.alloc (.cells #[.int .i64 f] 3) = w4 := ⟨_, rfl⟩
  rw [hwe4] at k4 b4 p4 p5 HB4 S4 f0
  have cS2 := fun w5 (h5 : Step noF w4 w5) => search_any n (by omega) (fun i => if hi : f + i < xs.length then !r.has xs[f + i].key else true) (fun i j hij hj hpi => by
      have hnn := HN.out
      have hj2 : f + j < xs.length := by omega
      have hi2 : f + i < xs.length := by omega
      simp only [hi2, hj2, dite_true] at hpi ⊢
      have hlo : ¬ xs[f + i].key < r.lo := by
        have := HF2.out (f + i) (by omega) hi2
        simpa [hi2] using this
      have hki : isK xs[f + i].key = true := ((is_iff _).1 (HGG.out _ (List.getElem_mem hi2))).1
      by_cases hije : i = j
      · subst hije; exact hpi
      · have hlt : xs[f + i].key < xs[f + j].key := List.pairwise_iff_getElem.1 HRI.out (f + i) (f + j) hi2 hj2 (by omega)
        simp [Rg.has, hki, hlo] at hpi ⊢
        grind) 179 #[.pointer (some ⟨w.heap.size + 1, 0, none⟩), .pointer (some ⟨w.heap.size, 0, none⟩), .pointer (some ⟨w3.heap.size, 0, none⟩)] enterS2 w5 (fun i hi w' hst => by
      have hi2 : f + i < xs.length := by have := HN.out; omega
      refine (span2_any w' p w.heap.size (w.heap.size + 1) w3.heap.size f xs hl r (HB4.out.step (h5.trans hst)) ((h5.trans hst).after b4) ((h5.trans hst).after p4) ((h5.trans hst).after p5) ((h5.trans hst).after f0) i hi2).mono ?_
      rintro e w'' ⟨rfl, s⟩
      exact ⟨by simp [hi2], s⟩)
  go_upto_region 2 with fail
  go_cut [7] from 15 (fun s7 wx => ∃ m : Nat, s7 = .int .i64 m ∧ m ≤ n ∧ Hid ((∀ i, i < m → (if hi : f + i < xs.length then !r.has xs[f + i].key else true) = false) ∧ (∀ i, m ≤ i → i < n → (if hi : f + i < xs.length then !r.has xs[f + i].key else true) = true)) ∧ Hid (Step noF w4 wx))
  case first =>
    go_region_law (refine step_calls rfl rfl Tryz.func177 (by kernel_rfl) (by kernel_rfl) (args := #[.int .i64 n, .func (.func 179) #[] #[.pointer (some ⟨w.heap.size + 1, 0, none⟩), .pointer (some ⟨w.heap.size, 0, none⟩), .pointer (some ⟨w3.heap.size, 0, none⟩)]]) (by first | rfl | (simp [Act.eval, Act.put]; done)) ?_; refine (cS2 _ (by first | exact Step.refl noF w4 | exact (Step.refl noF w4).drew | exact (Step.refl noF w4).drewN _)).mono ?_; rintro e w5 ⟨⟨m, rfl, hmn, hm1, hm2⟩, s5⟩; have S5 : Hid (Step noF w4 w5) := (by first | exact s5 | exact ((Step.refl noF w4).drew).trans s5 | exact ((Step.refl noF w4).drewN _).trans s5); have HM := hid (And.intro hm1 hm2); clear s5 hm1 hm2; refine ⟨_, rfl, ?_⟩)
    all_goals
      go_wp2_with fail
      go_meet
      exact ⟨m, rfl, hmn, HM, S5⟩
  case rest =>
    obtain ⟨m, rfl, hmn, HM, S5⟩ := hcut
    have f5 := S5.out.after f0
    have hfm : f + m ≤ 1000000 := by have := HN.out; omega
    obtain ⟨t, ht⟩ : ∃ t, f + m = t := ⟨_, rfl⟩
    have et : (f : Int) + (m : Int) = (t : Int) := by omega
    have rt : IntKind.i64.wrap (t : Int) = (t : Int) := by rw [IntKind.wrap_i64]; omega
    have HT := hid ht
    clear ht cS2
    go_wp2_with fail
    go_quiet (fail)
    go_wp2_with fail
    go_ret2
    have hnn := HN.out
    have htt := HT.out
    have hsp := span_take r xs HRI.out HGG.out f m (by omega) (fun t ht htf => by
        have := HF1.out t htf
        simpa [ht] using this) (fun hff => by
        have := HF2.out f (Nat.le_refl _) hff
        simpa [hff] using this) (fun t ht htm => by
        have := HM.out.1 t htm
        simpa [ht] using this) (fun hfm => by
        have := HM.out.2 m (Nat.le_refl _) (by omega)
        simpa [hfm] using this)
    rw [htt] at hsp
    exact ⟨⟨f, t, rfl, by omega, by omega, hsp.1, hsp.2⟩, S4.out.trans (S5.out.drewN _)⟩
end Go.Proofs.YtoobelcphcndoaaGreat
namespace Go.Proofs.YtoobelcphcndoaaGreat
open Go.RowKit Go.Sort
set_option linter.unusedVariables false
set_option linter.unusedSimpArgs false
set_option maxRecDepth 20000

theorem MsgsAt.sub {w : World} {g off : Nat} {xs : List Mg} (h : MsgsAt w noF (some ⟨g, off, none⟩) xs) (f t : Nat) (ht : t ≤ xs.length) : MsgsAt w noF (some ⟨g, off + f * 3, none⟩) ((xs.take t).drop f) := by
  rcases h with rfl | ⟨g', off', h1, h2, h3, h4⟩
  · left; simp
  · injection h1 with h1
    injection h1 with e1 e2
    subst e1
    subst e2
    refine .inr ⟨g, off + f * 3, rfl, h2, h3, fun j hj => ?_⟩
    simp at hj
    rw [List.getElem_drop, List.getElem_take]
    have := h4 (f + j) (by omega)
    rw [show off + (f + j) * 3 = off + f * 3 + j * 3 by omega] at this
    exact this
theorem sub_len (xs : List Mg) (f t : Nat) (ht : t ≤ xs.length) : ((xs.take t).drop f).length = t - f := by simp; omega
theorem msgs_none {w : World} {xs : List Mg} (h : MsgsAt w noF none xs) : xs = [] := by
  rcases h with h | ⟨b, off, h, _⟩
  · exact h
  · cases h
theorem msgs_some {w : World} {ad : Addr} {c : Nat} (h : NilOk w (some ad) c) : ∃ g off, ad = ⟨g, off, none⟩ := by
  obtain ⟨g, off, h, _⟩ := h.2 ad rfl
  exact ⟨g, off, h⟩

theorem takeB_nil (r : Rg) (w : World) : Calls Tryz.prog 116 #[.pointer none, .agg #[.string (str r.lo), .string (str r.hi)]] w fun e w' => e = .returned (.slice none 0 0) ∧ Step noF w w' := by
  go_enter Tryz.func116, Tryz.ntmps116
  go_wp2
  go_ret
  exact ⟨rfl, (Step.refl _ w).alloc _⟩
set_option maxHeartbeats 2000000 in
theorem takeB_any (p : Nat) (xs : List Mg) (hl : xs.length ≤ 1000000) (hR : RisingM xs) (hG : GoodM xs) (r : Rg) (w : World) (h : BuffAt w p xs) :
    Calls Tryz.prog 116 #[.pointer (some ⟨p, 0, none⟩), .agg #[.string (str r.lo), .string (str r.hi)]] w fun e w' => ∃ v, e = .returned v ∧ w'.ownsRow w.heap.size 73 3 v (takeM r xs).length (msgs (takeM r xs)) ∧ Step noF w w' := by
  have hs0 : Step noF w (w.alloc (.cells #[.string (str r.lo), .string (str r.hi)] 166)) := (Step.refl noF w).alloc _
  have cS := span_any p xs hl hR hG r _ (h.step hs0)
  have HB := hid (h.step hs0)
  have S0 := hid hs0
  have ⟨b0, b1⟩ := two_new w (.string (str r.lo)) (.string (str r.hi)) 166
  clear h hs0 hR hG
  go_enter Tryz.func116, Tryz.ntmps116
  go_wp2_with fail
  refine cS.mono ?_
  rintro e w2 ⟨⟨f, t, rfl, hft, htn, hs1, hs2⟩, s2⟩
  obtain ⟨a, c, k0, hc, hn, hm⟩ := (HB.out.step s2).cell
  have S2 := hid (S0.out.trans s2)
  have HM := hid hm
  have HS1 := hid hs1
  have HN := hid hn
  have HSS : Hid (w.heap.size ≤ w2.heap.size) := S2.out.size
  clear s2 hs1 hs2 hm b0 b1 cS hn
  cases a with
  | none =>
    obtain rfl := msgs_none HM.out
    obtain rfl := HN.out.1 rfl
    obtain rfl : t = 0 := by simpa using htn
    obtain rfl : f = 0 := by omega
    have cC := cloneMs_any [] (by simp) none 0 w2 (.inl rfl) (fun _ => rfl)
    rw [List.length_nil] at cC k0
    go_wp2_with fail
    refine cC.mono ?_
    rintro e w3 ⟨v, rfl, o3, s3⟩
    have O3 := hid o3
    have S3 := hid s3
    clear o3 s3 cC
    go_wp2_with fail
    go_ret
    refine ⟨v, rfl, ?_, S2.out.trans S3.out⟩
    rw [← HS1.out]
    exact owns_base O3.out HSS.out
  | some ad =>
    obtain ⟨g, off, rfl⟩ := msgs_some HN.out
    have hsub := HM.out.sub f t htn
    have hln := sub_len xs f t htn
    rw [HS1.out] at hsub hln
    have cC := fun off' c' hh => cloneMs_any (takeM r xs) (by omega) (some ⟨g, off', none⟩) c' w2 hh (fun e => by cases e)
    have HLN := hid hln
    have HSUB := hid hsub
    rw [hln] at cC
    have ef : (t : Int) - (f : Int) = ((t - f : Nat) : Int) := by omega
    have ec : (c : Int) - (f : Int) = ((c - f : Nat) : Int) := by omega
    have q1 : (0 : Int) ≤ (f : Int) := by omega
    have q2 : (f : Int) ≤ (t : Int) := by omega
    have q3 : (t : Int) ≤ (c : Int) := by omega
    clear hsub hln
    go_wp2_with fail
    all_goals
      refine (cC _ _ (by first | exact HSUB.out | exact .inl (List.eq_nil_of_length_eq_zero (by rw [HLN.out]; omega)))).mono ?_
      rintro e w3 ⟨v, rfl, o3, s3⟩
      have O3 := hid o3
      have S3 := hid s3
      clear o3 s3
      go_wp2_with fail
      go_ret
      refine ⟨v, rfl, ?_, S2.out.trans S3.out⟩
      rw [HLN.out]
      exact owns_base O3.out HSS.out

end Go.Proofs.YtoobelcphcndoaaGreat
