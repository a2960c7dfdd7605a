/-
  What a device does, 3: Cut.
-/
import Derived.Test.YthgcpeibjnflaaaDevCutR
import Derived.Test.YthgcpeibjnflaaaDevCutS
import Derived.BigRegion
namespace Go.Proofs.Ythgcpeibjnflaaa
open Go.RowKit
set_option linter.unusedVariables false

/-- The first j writes, as far as they are kept. -/
def cutN (safe : List (List UInt8)) (ws : List (Nat × List UInt8)) (ks : List Bool) : Nat → List (List UInt8)
  | 0 => safe
  | j + 1 => (cutN safe ws ks j).set (ws.getD j (0, [])).1 (laidN ((cutN safe ws ks j).getD (ws.getD j (0, [])).1 []) (ws.getD j (0, [])).2 (ks.drop (4 * j)) 4)
theorem cutN_length (safe : List (List UInt8)) (ws : List (Nat × List UInt8)) (ks : List Bool) (j : Nat) : (cutN safe ws ks j).length = safe.length := by
  induction j with
  | zero => rfl
  | succ j ih => rw [cutN, List.length_set, ih]
theorem mem_set {α : Type} {l : List α} {i : Nat} {a x : α} (h : x ∈ l.set i a) : x = a ∨ x ∈ l := by
  rcases List.mem_or_eq_of_mem_set h with h | h
  · exact .inr h
  · exact .inl h
theorem cutN_256 (safe : List (List UInt8)) (ws : List (Nat × List UInt8)) (ks : List Bool) (j : Nat) (hj : j ≤ ws.length) (hs : ∀ x ∈ safe, x.length = 256) (hl : ∀ x ∈ ws, x.1 < safe.length ∧ x.2.length = 256) : ∀ x ∈ cutN safe ws ks j, x.length = 256 := by
  induction j with
  | zero => exact hs
  | succ j ih =>
    intro x hx
    have ih := ih (by omega)
    have hm : ws.getD j (0, []) ∈ ws := by rw [List.getD_eq_getElem?_getD, List.getElem?_eq_getElem (by omega)]; exact List.getElem_mem _
    obtain ⟨h1, h2⟩ := hl _ hm
    rw [cutN] at hx
    rcases mem_set hx with rfl | hx
    · refine laidN_len _ _ _ _ ?_ h2 (Nat.le_refl _)
      rw [List.getD_eq_getElem?_getD, List.getElem?_eq_getElem (by rw [cutN_length]; exact h1)]
      exact ih _ (List.getElem_mem _)
    · exact ih x hx
/-- Those blocks of the first j writes taken from elsewhere. -/
def copyN (last from_ : List (List UInt8)) (ws : List (Nat × List UInt8)) : Nat → List (List UInt8)
  | 0 => last
  | j + 1 => (copyN last from_ ws j).set (ws.getD j (0, [])).1 (from_.getD (ws.getD j (0, [])).1 [])
theorem copyN_length (last from_ : List (List UInt8)) (ws : List (Nat × List UInt8)) (j : Nat) : (copyN last from_ ws j).length = last.length := by
  induction j with
  | zero => rfl
  | succ j ih => rw [copyN, List.length_set, ih]
theorem getD_mem {α : Type} (l : List α) (j : Nat) (h : j < l.length) (z : α) : l.getD j z = l[j] := by simp [List.getD_eq_getElem?_getD, h]
theorem copyN_at (last from_ : List (List UInt8)) (ws : List (Nat × List UInt8)) (j q : Nat) (hj : j ≤ ws.length) (hl : last.length = from_.length) (hq : q < last.length) :
    (copyN last from_ ws j)[q]? = if q ∈ (ws.take j).map (·.1) then from_[q]? else last[q]? := by
  induction j with
  | zero => simp [copyN]
  | succ j ih =>
    have ih := ih (by omega)
    rw [copyN, take_snoc _ _ (show j < ws.length by omega), List.map_append, getD_mem ws j (by omega)]
    by_cases e : ws[j].1 = q
    · subst e
      rw [List.getElem?_set_self (by rw [copyN_length]; exact hq), if_pos (by simp), List.getD_eq_getElem?_getD, List.getElem?_eq_getElem (by omega)]
      rfl
    · rw [List.getElem?_set_ne e, ih]
      simp [Ne.symm e]
theorem flushL_at (safe : List (List UInt8)) (ws : List (Nat × List UInt8)) (q : Nat) (h : q ∉ ws.map (·.1)) : (flushL safe ws)[q]? = safe[q]? := by
  induction ws generalizing safe with
  | nil => rfl
  | cons x ws ih =>
    simp only [List.map_cons, List.mem_cons, not_or] at h
    rw [show flushL safe (x :: ws) = flushL (safe.set x.1 x.2) ws from rfl, ih _ h.2, List.getElem?_set_ne (Ne.symm h.1)]
theorem cutN_at (safe : List (List UInt8)) (ws : List (Nat × List UInt8)) (ks : List Bool) (j q : Nat) (hj : j ≤ ws.length) (h : q ∉ (ws.take j).map (·.1)) : (cutN safe ws ks j)[q]? = safe[q]? := by
  induction j with
  | zero => rfl
  | succ j ih =>
    rw [take_snoc _ _ (show j < ws.length by omega), List.map_append] at h
    simp only [List.mem_append, List.map_cons, List.map_nil, List.mem_singleton, not_or] at h
    rw [cutN, getD_mem ws j (by omega), List.getElem?_set_ne (Ne.symm h.2), ih (by omega) h.1]
theorem copy_all (safe : List (List UInt8)) (ws : List (Nat × List UInt8)) (ks : List Bool) : copyN (flushL safe ws) (cutN safe ws ks ws.length) ws ws.length = cutN safe ws ks ws.length := by
  apply List.ext_getElem?
  intro q
  by_cases hq : q < safe.length
  · rw [copyN_at _ _ _ _ _ (Nat.le_refl _) (by rw [flushL_length, cutN_length]) (by rw [flushL_length]; exact hq)]
    split
    · rfl
    · rename_i h
      rw [List.take_of_length_le (Nat.le_refl _)] at h
      rw [flushL_at _ _ _ h, cutN_at _ _ _ _ _ (Nat.le_refl _) (by rw [List.take_of_length_le (Nat.le_refl _)]; exact h)]
  · rw [List.getElem?_eq_none (by rw [copyN_length, flushL_length]; omega), List.getElem?_eq_none (by rw [cutN_length]; omega)]

/-- The power goes. -/
def cutD (d : Dv) (ks : List Bool) : Dv := if d.on then { d with safe := cutN d.safe d.loose ks d.loose.length, loose := [], on := false } else d

theorem Step.ofDrew {F : Nat → Prop} {u w2 : World} (h : Step F u.drew w2) : Step F u w2 := ⟨h.os, h.tape, h.output, h.size, h.block⟩
theorem Step.after {u w2 : World} {a : Addr} {v : Value} (s : Step noF u w2) (h : u.cell? a = some v) : w2.cell? a = some v := (s.cell (fun x => x) (World.block_lt_of_cell? u _ h)).trans h

theorem rowAt_drop {w : World} {G : Nat → Prop} {a : Option Addr} {cs : List Value} (h : RowAt w G a cs) (k : Nat) : RowAt w G (a.map (fun x => x.add k)) (cs.drop k) := by
  rcases h with h | ⟨b, off, rfl, h2, h3⟩
  · subst h; exact .inl (by simp)
  · refine .inr ⟨b, off + k, by simp [Addr.add_lit], h2, fun j hj => ?_⟩
    rw [List.getElem_drop, Nat.add_assoc]
    exact h3 (k + j) (by simp at hj; omega)
set_option maxHeartbeats 8000000 in
theorem cut_on (w : World) (R : Nat → Nat) (o p : Nat) (d : Dv) (h : IsDev w R o p d) (hw : Wf d) (hon : d.on = true) (a : Option Addr) (c : Nat) (ks : List Bool) (hc : ks.length ≤ c) (hkl : ks.length ≤ 1000) (hr : RowAt w (fun k => o < R k ∧ R k ≤ o + 3) a (bools ks)) :
    Calls Try.prog 13 #[.pointer (some ⟨p, 0, none⟩), .slice a ks.length c] w fun e w' => e = .returned (.tuple #[]) ∧ Step (Rng R o) w w' ∧ IsDev w' R o p (cutD d ks) := by
  obtain ⟨bs, cs, bl, cl, lv, fp, h5, hP⟩ := h
  obtain ⟨c0, c1, c2, c3, c4, c5, c6, c7⟩ := dev_cells h5
  obtain ⟨r1, r2, r3, r4, q1, q2, q3, q4, q5⟩ := hP
  obtain ⟨la, lc, rfl⟩ := owns_form q3
  rw [hon] at c3
  have HP := hid (show Parts w R o p bs cs bl (.slice la d.loose.length lc) fp d.safe d.loose d.fuse from ⟨r1, r2, r3, r4, q1, q2, q3, q4, q5⟩)
  have H5 := hid h5
  have hll := hw.ll
  have hpb : ¬ p = bs := fun e => by subst e; omega
  clear h5 q1 q2 q4
  go_enter Try.func13, Try.ntmps13
  go_wp2_with fail
  go_loopw [1, 5, 6, 23] (fun kv _ _ i wr => ∃ (j : Nat) (a1 : Option Addr) (c1 : Nat), j ≤ d.loose.length ∧ i = .int .i64 j ∧ kv = .slice a1 (ks.drop (4 * j)).length c1 ∧ (ks.drop (4 * j)).length ≤ c1 ∧ RowAt w (fun k => o < R k ∧ R k ≤ o + 3) a1 (bools (ks.drop (4 * j))) ∧ Step (oneF bs) w wr ∧ RowIn wr bs 9 (strs (cutN d.safe d.loose ks j))) (fun _ _ _ i _ => d.loose.length - (intOf i).toNat)
  case atStart => exact ⟨0, a, c, Nat.zero_le _, rfl, by simp, by simpa using hc, by simpa using hr, Step.refl _ _, HP.out.2.2.2.2.1⟩
  case round =>
    obtain ⟨j, a1, c1', hj, rfl, rfl, hc1, hr1, hst, hrow⟩ := hrel
    by_cases hjn : j < d.loose.length
    · have hji : (j : Int) < (d.loose.length : Int) := by omega
      obtain ⟨g, c', hv, x0, x1⟩ := loose_cells q3 j hjn
      injection hv with hv1 _ hv2
      subst hv1 hv2
      have hgR := r4 g rfl
      have hgb : ¬ g = bs := fun e => by subst e; omega
      have y0 := (hst.cell (p := ⟨g, j * 2, none⟩) hgb (World.block_lt_of_cell? w _ x0)).trans x0
      have y1 := (hst.cell (p := ⟨g, j * 2 + 1, none⟩) hgb (World.block_lt_of_cell? w _ x1)).trans x1
      have hp0 := (hst.cell (p := ⟨p, 0, none⟩) hpb (World.block_lt_of_cell? w _ c0)).trans c0
      obtain ⟨at_, hat⟩ : ∃ at_, d.loose[j].1 = at_ := ⟨_, rfl⟩
      obtain ⟨X, hX⟩ : ∃ X, str d.loose[j].2 = X := ⟨_, rfl⟩
      have hatl : at_ < d.safe.length := by rw [← hat]; exact (hw.l _ (List.getElem_mem hjn)).1
      have hati : (at_ : Int) < (d.safe.length : Int) := by omega
      have hl1 : at_ < (strs (cutN d.safe d.loose ks j)).length := by rw [strs_length, cutN_length]; exact hatl
      have hl2 : at_ < (cutN d.safe d.loose ks j).length := by rw [cutN_length]; exact hatl
      obtain ⟨O, hO⟩ : ∃ O, str (cutN d.safe d.loose ks j)[at_] = O := ⟨_, rfl⟩
      have hcell := hrow.cell at_ hl1
      rw [strs_at, hO] at hcell
      obtain ⟨m, hm⟩ : ∃ m, (ks.drop (4 * j)).length = m := ⟨_, rfl⟩
      rw [hm] at hc1
      obtain ⟨tl, htl⟩ : ∃ tl, min m 4 = tl := ⟨_, rfl⟩
      have htlm : tl ≤ m := by omega
      have htl4 : tl ≤ 4 := by omega
      have htli : min (m : Int) 4 = (tl : Int) := by omega
      have htlc : tl ≤ c1' := by omega
      obtain ⟨Y, hY⟩ : ∃ Y, str (laidN (cutN d.safe d.loose ks j)[at_] d.loose[j].2 (ks.drop (4 * j)) 4) = Y := ⟨_, rfl⟩
      have hlo : ∀ (u : World) (c9 : Nat), Step (oneF bs) w u → ∃ W, Step noF u W ∧ Calls Try.prog 31 #[.string O, .string X, .slice a1 tl c9] u fun e w' => e = .returned (.string Y) ∧ W = w' := fun u c9 su => by
        have := laidOver_any (cutN d.safe d.loose ks j)[at_] d.loose[j].2 (cutN_256 _ _ _ _ hj hw.s hw.l _ (List.getElem_mem _)) (hw.l _ (List.getElem_mem hjn)).2 a1 c9 ((ks.drop (4 * j)).take 4) (by rw [List.length_take]; omega) noF u (by
          rcases hr1 with h | ⟨b, off, h1, h2, h3⟩
          · exact .inl (by simp [bools] at h ⊢; omega)
          · by_cases h0 : (ks.drop (4 * j)) = []
            · exact .inl (by rw [h0]; rfl)
            · refine .inr ⟨b, off, h1, fun x => x, fun q hq => ?_⟩
              have hq2 : q < (bools (ks.drop (4 * j))).length := by simp [bools] at hq ⊢; omega
              have hbs : ¬ b = bs := fun e => h2 (by rw [e]; omega)
              have := h3 q hq2
              rw [su.cell (p := ⟨b, off + q, none⟩) hbs (World.block_lt_of_cell? w _ this), this]
              simp [bools])
        rw [hO, hX, laidN_take _ _ _ _ _ (Nat.le_refl _), hY, List.length_take, hm, Nat.min_comm, htl] at this
        exact this
      rw [hat] at y0
      rw [hX] at y1
      have hz1 := hrow.f at_
      clear x0 x1
      rw [hm]
      go_wp2_with fail
      have hstu : Step (oneF bs) w (wr.alloc (.cells #[.int .i64 at_, .string X] 69)) := hst.alloc _
      have u0 := cell_of_block (block_alloc_new wr (.cells #[.int .i64 at_, .string X] 69)) 0
      have u1 := cell_of_block (block_alloc_new wr (.cells #[.int .i64 at_, .string X] 69)) 1
      have u2 := cell_alloc hp0 (.cells #[.int .i64 at_, .string X] 69)
      have u3 := cell_alloc hcell (.cells #[.int .i64 at_, .string X] 69)
      have hrow2 := hrow.step ((Step.refl noF wr).alloc (.cells #[.int .i64 at_, .string X] 69)) (fun x => x)
      have u4 := hrow2.f at_
      simp only [List.getElem?_toArray, List.getElem?_cons_zero, List.getElem?_cons_succ] at u0 u1
      generalize (wr.alloc (.cells #[.int .i64 at_, .string X] 69)) = u at *
      have HR2 := hid hrow2
      have HST := hid hstu
      clear hrow2 hstu hrow hcell hp0 y0 y1 hst hz1
      generalize wr.heap.size = gw at *
      have HLO := hid hlo
      clear hlo
      change Code.wp _ (Code.region 5 ((Try.f13.body.bind (regionOps 5)).getD #[]) true) _ _ _
      refine cutr_go p bs d.safe.length cs gw at_ X O Y a1 m c1' tl hati hatl htlm htlc _ u rfl rfl rfl rfl rfl ?_ ?_
      · intro w2 s2
        refine ⟨s2.after u0, s2.after u1, s2.after u2, s2.after u3, ?_, ⟨_, s2.after u3⟩, (HR2.out.step s2 (fun x => x)).f at_⟩
        obtain ⟨W, sW, hcall⟩ := HLO.out w2 c1' (HST.out.then s2 (fun i hi => hi.elim))
        exact hcall.mono (fun e w' h => ⟨h.1, h.2 ▸ sW⟩)
      intro w2 s2
      simp only [putAll, cutrDl, cutrVals]
      go_wp2_with fail
      go_roundw
      case rel =>
        have hdl : (ks.drop (4 * (j + 1))).length = m - tl := by rw [List.length_drop]; rw [List.length_drop] at hm; omega
        refine ⟨j + 1, _, _, by omega, int_eq (by omega), by rw [hdl], by omega, ?_, ?_, ?_⟩
        · by_cases h4 : m ≤ 4
          · exact .inl (by have : ks.drop (4 * (j + 1)) = [] := List.eq_nil_of_length_eq_zero (by omega); rw [this]; rfl)
          · have ht : tl = 4 := by omega
            subst ht
            rw [if_neg (by omega)]
            have := rowAt_drop hr1 4
            rw [show (bools (ks.drop (4 * j))).drop 4 = bools (ks.drop (4 * (j + 1))) by rw [bools, ← List.map_drop, List.drop_drop, bools, show 4 * j + 4 = 4 * (j + 1) by omega]] at this
            exact this
        · exact (HST.out.then s2 (fun i hi => hi.elim)).setCell (p := ⟨bs, at_, none⟩) (.inl rfl) _
        · have := (HR2.out.step s2 (fun x => x)).set at_ hl1 (.string Y)
          rw [← hY, strs_set] at this
          rw [cutN, getD_mem _ _ hjn, hat, getD_mem _ _ hl2, ← hY]
          exact this
      case measure => simp [intOf]; omega
    · obtain rfl : j = d.loose.length := by omega
      obtain ⟨wA, hwA⟩ : ∃ x, x = wr := ⟨_, rfl⟩
      subst hwA
      clear hr1
      generalize (ks.drop (4 * d.loose.length)).length = mm at *
      obtain ⟨S', hS⟩ : ∃ S', cutN d.safe d.loose ks d.loose.length = S' := ⟨_, rfl⟩
      have hSl : S'.length = d.safe.length := by rw [← hS, cutN_length]
      rw [hS] at hrow
      have hP1 := (hst.block p (lt_of_block H5.out) hpb).trans H5.out
      obtain ⟨e0, e1, e2, e3, e4, e5, e6, e7⟩ := dev_cells hP1
      have hbl : ¬ bl = bs := fun e => by subst e; omega
      have hpl : ¬ p = bl := fun e => by subst e; omega
      have hrl := HP.out.2.2.2.2.2.1.step hst hbl
      have HK := hid hP1
      clear hP1
      go_wp2_with fail
      go_loopw [8, 60] (fun _ i wr => ∃ j : Nat, j ≤ d.loose.length ∧ i = .int .i64 j ∧ Step (oneF bl) wA wr ∧ RowIn wr bl 9 (strs (copyN (flushL d.safe d.loose) S' d.loose j))) (fun _ i _ => d.loose.length - (intOf i).toNat)
      case atStart => exact ⟨0, Nat.zero_le _, rfl, Step.refl _ _, hrl⟩
      case round =>
        obtain ⟨j, hj, rfl, hst2, hrow2⟩ := hrel
        by_cases hjn2 : j < d.loose.length
        · have hji : (j : Int) < (d.loose.length : Int) := by omega
          obtain ⟨g, c', hv, x0, x1⟩ := loose_cells q3 j hjn2
          injection hv with hv1 _ hv2
          subst hv1 hv2
          have hgR := r4 g rfl
          have hgb : ¬ g = bs := fun e => by subst e; omega
          have hgl : ¬ g = bl := fun e => by subst e; omega
          have y0 := (hst.cell (p := ⟨g, j * 2, none⟩) hgb (World.block_lt_of_cell? w _ x0)).trans x0
          have y1 := (hst.cell (p := ⟨g, j * 2 + 1, none⟩) hgb (World.block_lt_of_cell? w _ x1)).trans x1
          have z0 := (hst2.cell (p := ⟨g, j * 2, none⟩) hgl (World.block_lt_of_cell? wA _ y0)).trans y0
          have z1 := (hst2.cell (p := ⟨g, j * 2 + 1, none⟩) hgl (World.block_lt_of_cell? wA _ y1)).trans y1
          have hp0 := (hst2.cell (p := ⟨p, 0, none⟩) hpl (World.block_lt_of_cell? wA _ e0)).trans e0
          have hp1 := (hst2.cell (p := ⟨p, 1, none⟩) hpl (World.block_lt_of_cell? wA _ e1)).trans e1
          obtain ⟨at_, hat⟩ : ∃ at_, d.loose[j].1 = at_ := ⟨_, rfl⟩
          obtain ⟨X, hX⟩ : ∃ X, str d.loose[j].2 = X := ⟨_, rfl⟩
          have hatl : at_ < d.safe.length := by rw [← hat]; exact (hw.l _ (List.getElem_mem hjn2)).1
          have hati : (at_ : Int) < (d.safe.length : Int) := by omega
          rw [hat] at z0
          rw [hX] at z1
          have hl2 : at_ < S'.length := by rw [hSl]; exact hatl
          obtain ⟨O, hO⟩ : ∃ O, str S'[at_] = O := ⟨_, rfl⟩
          have hro := hrow.step hst2 (fun e => hbl (by unfold oneF at e; exact e.symm))
          have hcell := hro.cell at_ (by rw [strs_length]; exact hl2)
          rw [strs_at, hO] at hcell
          have hl1 : at_ < (strs (copyN (flushL d.safe d.loose) S' d.loose j)).length := by rw [strs_length, copyN_length, flushL_length]; exact hatl
          have HRO := hid hrow2
          have HST := hid hst2
          clear x0 x1 y0 y1 hro hrow2 hst2
          go_wp2_with fail
          have u0 := cell_of_block (block_alloc_new wr (.cells #[.int .i64 at_, .string X] 69)) 0
          have u2 := cell_alloc hp0 (.cells #[.int .i64 at_, .string X] 69)
          have u1 := cell_alloc hp1 (.cells #[.int .i64 at_, .string X] 69)
          have u3 := cell_alloc hcell (.cells #[.int .i64 at_, .string X] 69)
          simp only [List.getElem?_toArray, List.getElem?_cons_zero] at u0
          have hrb := HRO.out.step ((Step.refl noF wr).alloc (.cells #[.int .i64 at_, .string X] 69)) (fun x => x)
          have hsb := HST.out.alloc (.cells #[.int .i64 at_, .string X] 69)
          change Code.wp _ (Code.region 11 ((Try.f13.body.bind (regionOps 11)).getD #[]) true) _ _ _
          refine cuts_go p bs bl d.safe.length cs cl wr.heap.size at_ O hati hatl _ _ rfl rfl rfl ?_ ?_
          · intro w2 s2
            exact ⟨s2.after u0, s2.after u1, s2.after u2, s2.after u3, ⟨_, (hrb.step s2 (fun x => x)).cell at_ hl1⟩, (hrb.step s2 (fun x => x)).f at_⟩
          intro w2 s2
          simp only [putAll, cutsDl, cutsVals]
          go_wp2_with fail
          go_roundw
          case rel =>
            refine ⟨j + 1, by omega, int_eq (by omega), (hsb.then s2 (fun i hi => hi.elim)).setCell (p := ⟨bl, at_, none⟩) (.inl rfl) _, ?_⟩
            have := (hrb.step s2 (fun x => x)).set at_ hl1 (.string O)
            rw [← hO, strs_set] at this
            rw [copyN, getD_mem _ _ hjn2, hat, getD_mem _ _ hl2, ← hO]
            exact this
          case measure => simp [intOf]; omega
        · obtain rfl : j = d.loose.length := by omega
          rw [← hS, copy_all, hS] at hrow2
          have hk5 := (hst2.block p (lt_of_block HK.out) hpl).trans HK.out
          obtain ⟨g0, g1, g2, g3, g4, g5, g6, g7⟩ := dev_cells hk5
          have f2 := frozen_of_block hk5 2
          have f3 := frozen_of_block hk5 3
          have HK5 := hid hk5
          have s12 : Step (Rng R o) w wr := (hst.mono (fun k hk => .inl (by unfold oneF at hk; subst hk; show o < R k ∧ R k ≤ o + 6; omega))).trans (Step.mono hst2 (fun k hk => .inl (by unfold oneF at hk; subst hk; show o < R k ∧ R k ≤ o + 6; omega)))
          clear hk5
          go_wp2_with fail
          go_end0
          refine ⟨rfl, (s12.setHead r1 _ _).setHead r1 _ _, bs, cs, bl, cl, .slice none 0 0, fp, ?_, ?_⟩
          · have := block_setCell (block_setCell HK5.out 2 (.slice none 0 0)) 3 (.bool false)
            simpa [Head, cutD, hon, hS, hSl] using this
          · have hs2 := ((Step.refl (oneF p) wr).setOneF 2 (.slice none 0 0)).setOneF 3 (.bool false)
            have hq : Parts wr R o p bs cs bl (.slice none 0 0) fp S' [] d.fuse := by
              obtain ⟨r1, r2, r3, r4, q1, q2, q3, q4, q5⟩ := HP.out
              refine ⟨r1, r2, r3, fun k hk => by simp [Value.ownBlock] at hk, hrow.step hst2 (fun e => hbl (by unfold oneF at e; exact e.symm)), hrow2, ⟨rfl, .inl ⟨rfl, rfl⟩⟩, ?_, by rw [hSl]; exact q5⟩
              exact q4.mono (fun k hk a b => (hst2.block k (Nat.lt_of_lt_of_le hk hst.size) (fun e => by unfold oneF at e; subst e; omega)).trans (hst.block k hk (fun e => by unfold oneF at e; subst e; omega))) (fun _ _ => rfl)
            have := hq.head (lt_of_block HK5.out) hs2
            simpa [cutD, hon, hS] using this
end Go.Proofs.Ythgcpeibjnflaaa
