/-
  What Change, Draw, Drop, Use do.
-/
import Derived.Test.YtmijbplhmjledaaTkF
namespace Go.Proofs.Ytmijbplhmjledaa
open Go.RowKit
set_option linter.unusedVariables false
set_option linter.unusedSimpArgs false

def idx (z : Int) : Nat := (z - 1).toNat
def hasB (hs : List Int) (z : Int) : Bool := decide (1 ≤ z) && (decide (z ≤ (hs.length : Int)) && decide (0 ≤ hs.getD (idx z) 0))
theorem hasB_yes {hs : List Int} {z : Int} (h : hasB hs z = true) : HasT hs z (idx z) := by
  simp only [hasB, Bool.and_eq_true, decide_eq_true_eq] at h
  obtain ⟨h1, h2, h3⟩ := h
  exact ⟨by unfold idx; omega, by unfold idx; omega, h3⟩
theorem hasB_of {hs : List Int} {z : Int} {i : Nat} (h : HasT hs z i) : hasB hs z = true ∧ idx z = i := by
  obtain ⟨rfl, h1, h2⟩ := h
  have e : idx ((i : Int) + 1) = i := by unfold idx; omega
  refine ⟨?_, e⟩
  simp only [hasB, Bool.and_eq_true, decide_eq_true_eq, e]
  exact ⟨by omega, by omega, h2⟩
theorem hasB_no {hs : List Int} (hm : ∀ z ∈ hs, -1 ≤ z) {z : Int} (h : hasB hs z = false) : NoT hs z := by
  rcases has_or hs hm z with ⟨i, hi⟩ | hn
  · rw [(hasB_of hi).1] at h; cases h
  · exact hn
/-- Change. -/
def changeE (t : Tk) (z n : Int) : Int := if hasB t.hs z then (if n < 0 then 1 else if t.hs.getD (idx z) 0 + leftT t < n then 9 else 0) else 7
def changeT (t : Tk) (z n : Int) : Tk := if changeE t z n = 0 then ⟨t.l, t.d, t.r, t.hs.set (idx z) n⟩ else t
theorem step_noF {F : Nat → Prop} {w w' : World} (h : Step noF w w') : Step F w w' := h.mono (fun _ x => x.elim)
/-- Reading, then a turn. -/
theorem after_read {w w1 w2 : World} {p : Nat} {F : Nat → Prop} {t : Tk} (hF : ∀ k, F k → k < w.heap.size) (s1 : Step noF w w1) (h : Step F w1 w2 ∧ IsPool w2 p (Grew F w1 w2) t) : Step F w w2 ∧ IsPool w2 p (Grew F w w2) t := by
  refine ⟨(step_noF s1).trans h.1, h.2.1, h.2.2.mono (fun k hk => ?_) (grew_lt hF (Nat.le_trans s1.size h.1.size))⟩
  rcases hk with hk | hk
  · exact .inl hk
  · exact .inr ⟨Nat.le_trans s1.size hk.1, hk.2⟩
theorem same_pool {w w1 : World} {p : Nat} {F : Nat → Prop} {t : Tk} (h : IsPool w p F t) (s1 : Step noF w w1) : Step F w w1 ∧ IsPool w1 p (Grew F w w1) t := ⟨step_noF s1, h.grew s1⟩
theorem after_pool {w w1 w2 : World} {p : Nat} {F : Nat → Prop} {t : Tk} (hw : Wf t) (hF : ∀ k, F k → k < w.heap.size) (s1 : Step F w w1) (s2 : Step (Grew F w w1) w1 w2) (h : PoolM w2 p (Grew (Grew F w w1) w1 w2) t) : Step F w w2 ∧ IsPool w2 p (Grew F w w2) t :=
  IsPool.of hw (PoolM.then hF s1 s2 h)
set_option maxHeartbeats 1000000 in
theorem change_any (w : World) (p : Nat) (F : Nat → Prop) (t : Tk) (h : IsPool w p F t) (z n : Int) (hl : t.hs.length ≤ 700000) :
    Calls Try.prog 26 #[.pointer (some ⟨p, 0, none⟩), .int .i64 z, .int .i64 n] w fun e w' => e = .returned (.int .i64 (changeE t z n)) ∧ Step F w w' ∧ IsPool w' p (Grew F w w') (changeT t z n) := by
  obtain ⟨b1, b2, b3, b4, b5, b6⟩ := h.1.held
  have HP := hid h
  cases hb : hasB t.hs z
  · have co := of_none w p F t h.2 z (hasB_no h.1.hm hb) (by omega)
    have hE : Hid (changeE t z n = 7 ∧ changeT t z n = t) := by
      have e : changeE t z n = 7 := by rw [changeE, hb]; rfl
      exact ⟨e, by rw [changeT, e]; rfl⟩
    clear h b1 b2 b3 b4 b5 b6 hb
    go_enter Try.func26, Try.ntmps26
    go_wp2_with fail
    refine co.mono ?_
    rintro e w1 ⟨rfl, s1⟩
    go_wp2_with fail
    go_ret
    rw [hE.out.1, hE.out.2]
    exact ⟨rfl, same_pool HP.out s1⟩
  · obtain ⟨hz, hi, hy⟩ := hasB_yes hb
    have hE0 : changeE t z n = (if n < 0 then 1 else if t.hs.getD (idx z) 0 + leftT t < n then 9 else 0) := by rw [changeE, hb]; rfl
    have hT0 : changeT t z n = if changeE t z n = 0 then ⟨t.l, t.d, t.r, t.hs.set (idx z) n⟩ else t := rfl
    generalize idx z = i at hz hi hy hE0 hT0
    subst hz
    have hy5 := h.1.has hi
    have co := of_some w p F t h.2 _ i ⟨rfl, hi, hy⟩ (by omega)
    obtain ⟨L, hL⟩ : ∃ L, leftT t = L := ⟨_, rfl⟩
    obtain ⟨y, hyy⟩ : ∃ y, t.hs.getD i 0 = y := ⟨_, rfl⟩
    have hroom := h.1.room
    have hset : Hid (y + L ≥ n → -1 ≤ n → Wf ⟨t.l, t.d, t.r, t.hs.set i n⟩) := fun a b => h.1.set hi hy b (by rw [hyy, hL]; exact a)
    have HI := hid hi
    have HYY := hid hyy
    have HL := hid hL
    rw [hyy] at co hE0 hy hy5
    rw [hL] at hE0 b6 hroom
    have HE0 := hid hE0
    have HT0 := hid hT0
    have B2 := hid b2
    have B3 := hid b3
    clear h b1 b2 b3 b4 b5 hb hyy hL hE0 hT0
    by_cases k1 : n < 0
    · have hE : Hid (changeE t ((i : Int) + 1) n = 1 ∧ changeT t ((i : Int) + 1) n = t) := by
        have e : changeE t ((i : Int) + 1) n = 1 := by rw [HE0.out, if_pos k1]
        exact ⟨e, by rw [HT0.out, e]; rfl⟩
      go_enter Try.func26, Try.ntmps26
      go_wp2_with fail
      refine co.mono ?_
      rintro e w1 ⟨rfl, s1⟩
      go_wp2_with fail
      go_ret
      rw [hE.out.1, hE.out.2]
      exact ⟨rfl, same_pool HP.out s1⟩
    · by_cases k2 : y + L < n
      · have hE : Hid (changeE t ((i : Int) + 1) n = 9 ∧ changeT t ((i : Int) + 1) n = t) := by
          have e : changeE t ((i : Int) + 1) n = 9 := by rw [HE0.out, if_neg k1, if_pos k2]
          exact ⟨e, by rw [HT0.out, e]; rfl⟩
        go_enter Try.func26, Try.ntmps26
        go_wp2_with fail
        refine co.mono ?_
        rintro e w1 ⟨rfl, s1⟩
        have cl := left_any w1 p F t (HP.out.2.step s1) ⟨HP.out.1.r0, by have := B3.out; omega⟩ (by have := B2.out; omega) L HL.out
        go_wp2_with fail
        refine cl.mono ?_
        rintro e w2 ⟨rfl, s2⟩
        go_wp2_with fail
        go_ret
        rw [hE.out.1, hE.out.2]
        exact ⟨rfl, same_pool HP.out (s1.trans s2)⟩
      · have hE : Hid (changeE t ((i : Int) + 1) n = 0 ∧ changeT t ((i : Int) + 1) n = ⟨t.l, t.d, t.r, t.hs.set i n⟩) := by
          have e : changeE t ((i : Int) + 1) n = 0 := by rw [HE0.out, if_neg k1, if_neg k2]
          exact ⟨e, by rw [HT0.out, if_pos e]⟩
        have hn5 : 0 ≤ n ∧ n ≤ 2000 := by have := hroom; have := hy5; omega
        have HN5 := hid hn5
        clear hn5
        go_enter Try.func26, Try.ntmps26
        go_wp2_with fail
        refine co.mono ?_
        rintro e w1 ⟨rfl, s1⟩
        have cl := left_any w1 p F t (HP.out.2.step s1) ⟨HP.out.1.r0, by have := B3.out; omega⟩ (by have := B2.out; omega) L HL.out
        go_wp2_with fail
        refine cl.mono ?_
        rintro e w2 ⟨rfl, s2⟩
        have cs := set_any w2 p F t (HP.out.2.step (s1.trans s2)) i HI.out (by omega) (by rw [HYY.out]; omega) n HN5.out (by have := B2.out; omega) _ rfl
        go_wp2_with fail
        refine cs.mono ?_
        rintro e w3 ⟨rfl, s3, h3⟩
        go_wp2_with fail
        go_ret
        rw [hE.out.1, hE.out.2]
        exact ⟨rfl, after_read HP.out.lt (s1.trans s2) ⟨s3, hset.out (by omega) (by omega), h3⟩⟩

/-- Drop. -/
def dropE (t : Tk) (z : Int) : Int := if hasB t.hs z then 0 else 7
def dropT (t : Tk) (z : Int) : Tk := if hasB t.hs z then ⟨t.l, t.d, t.r, t.hs.set (idx z) (-1)⟩ else t
theorem held_drop {hs : List Int} {i : Nat} (hi : i < hs.length) : heldL (hs.set i (-1)) = heldL (hs.set i 0) := by
  rw [heldL_set _ _ _ hi, heldL_set _ _ _ hi]; omega
set_option maxHeartbeats 2000000 in
theorem drop_any (w : World) (p : Nat) (F : Nat → Prop) (t : Tk) (h : IsPool w p F t) (z : Int) (hl : t.hs.length ≤ 700000) :
    Calls Try.prog 27 #[.pointer (some ⟨p, 0, none⟩), .int .i64 z] w fun e w' => e = .returned (.int .i64 (dropE t z)) ∧ Step F w w' ∧ IsPool w' p (Grew F w w') (dropT t z) := by
  obtain ⟨b1, b2, b3, b4, b5, b6⟩ := h.1.held
  have HP := hid h
  cases hb : hasB t.hs z
  · have co := of_none w p F t h.2 z (hasB_no h.1.hm hb) (by omega)
    have hE : Hid (dropE t z = 7 ∧ dropT t z = t) := by exact ⟨by rw [dropE, hb]; rfl, by rw [dropT, hb]; rfl⟩
    clear h b1 b2 b3 b4 b5 b6 hb
    go_enter Try.func27, Try.ntmps27
    go_wp2_with fail
    refine co.mono ?_
    rintro e w1 ⟨rfl, s1⟩
    go_wp2_with fail
    go_ret
    rw [hE.out.1, hE.out.2]
    exact ⟨rfl, same_pool HP.out s1⟩
  · obtain ⟨hz, hi, hy⟩ := hasB_yes hb
    have hE : Hid (dropE t z = 0 ∧ dropT t z = ⟨t.l, t.d, t.r, t.hs.set (idx z) (-1)⟩) := by exact ⟨by rw [dropE, hb]; rfl, by rw [dropT, hb]; rfl⟩
    generalize idx z = i at hz hi hy hE
    subst hz
    have hy5 := h.1.has hi
    have co := of_some w p F t h.2 _ i ⟨rfl, hi, hy⟩ (by omega)
    have hwf := hid (h.1.set (n := -1) hi hy (by omega) (by have := h.1.room; omega))
    have HI := hid hi
    have B2 := hid b2
    obtain ⟨y, hyy⟩ : ∃ y, t.hs.getD i 0 = y := ⟨_, rfl⟩
    rw [hyy] at co hy hy5
    have HYY := hid hyy
    have HY := hid hy
    have HY5 := hid hy5
    clear h b1 b2 b3 b4 b5 b6 hb hyy hy hy5
    have k3 : (i : Int) + 1 - 1 = (i : Int) := by omega
    have k4 : (i : Int) < (t.hs.length : Int) := by omega
    have k5 : i ≤ 700000 := by omega
    go_enter Try.func27, Try.ntmps27
    go_wp2_with fail
    refine co.mono ?_
    rintro e w1 ⟨rfl, s1⟩
    have cs := set_any w1 p F t (HP.out.2.step s1) i HI.out (by omega) (by rw [HYY.out]; have := HY.out; have := HY5.out; omega) 0 (by decide) (by have := B2.out; omega) _ rfl
    go_wp2_with fail
    refine cs.mono ?_
    rintro e w2 ⟨rfl, s2, h2⟩
    obtain ⟨hF2, q, gs, gd, c, hv, nv, ns, hf, hp, hg, hr⟩ := h2
    simp only at hg hr
    have hsl : (t.hs.set i 0).length = t.hs.length := List.length_set
    have HR := hid hr
    obtain ⟨h1, _, _, _, _, h6, h7, _, h9⟩ := hr
    have HNE : Hid (∀ k, hv.ownBlock = some k → k ≠ p) := fun k hk => (HR.out.apart.2.2.2.2.2.1 k hk).1
    obtain ⟨gh, hc, rfl, hcl, hcell, hfz⟩ := owns_cell h6 i (by rw [hsl]; exact HI.out)
    have hgp : ¬ gh = p := HNE.out gh rfl
    obtain ⟨_, _, _, c3, _, c5⟩ := cells6 h1
    have HB := hid h1
    have HO := hid h6
    have HF2 := hid hF2
    have HFT := hid hf
    have HPP := hid hp
    have HG := hid hg
    have HSL := hid hsl
    rw [hsl] at c3 hcl
    -- what it has is -1
    have HW3 : Hid (Step (Grew F w1 w2) w2 (w2.setCell ⟨gh, i, none⟩ (.int .i64 (-1))) ∧ Foot (Grew (Grew F w1 w2) w2 (w2.setCell ⟨gh, i, none⟩ (.int .i64 (-1)))) p q gs gd (.slice (some ⟨gh, 0, none⟩) (t.hs.set i 0).length hc) nv ∧ RawAt (w2.setCell ⟨gh, i, none⟩ (.int .i64 (-1))) p q gs gd c (.slice (some ⟨gh, 0, none⟩) (t.hs.set i 0).length hc) nv t.l t.d t.r (t.hs.set i (-1)) (heldL (t.hs.set i 0)) ns) := by
      refine new_has (hs' := t.hs.set i (-1)) (h' := heldL (t.hs.set i 0)) HR.out HFT.out ((Step.refl _ w2).setCell (p := ⟨gh, i, none⟩) (.inl (.inr rfl)) _) (heap_other HB.out (fun e => hgp e.symm)) ?_ (.inl rfl)
      have := owns_put HO.out i (by rw [intsOf_length, HSL.out]; exact HI.out) (.int .i64 (-1))
      rw [intsOf_set, List.set_set] at this
      rw [show (t.hs.set i (-1)).length = t.hs.length from List.length_set, HSL.out]
      rw [HSL.out] at this
      exact this
    have hgl := gone_len hg
    have hp3 := HW3.out.2.2
    have hne5 : nv.ownBlock ≠ some p := fun e => (HW3.out.2.2.apart.2.2.2.2.2.2 p e).1 rfl
    have cp := hpush_any _ p _ 59 hp3.1 nv ns rfl hp3.2.2.2.2.2.2.1 hne5 (by rw [hsl] at hgl; omega) hp ((i : Int) + 1)
    have HS2 := hid s2
    clear h1 h6 h7 h9 hf hp hg hF2 hsl hgl hp3 hne5 c5 s2
    go_wp2_with fail
    refine cp.mono ?_
    rintro e w3 ⟨rfl, nv', ms, hb3, ho3, s3, hf3, hpm, hhp⟩
    go_wp2_with fail
    go_ret
    obtain ⟨a1, a2, a3⟩ := HW3.out
    obtain ⟨r1, r2, r3⟩ := new_num (ns' := ms) a3 a2 s3 hb3 ho3 hf3
    rw [hE.out.1, hE.out.2]
    refine ⟨rfl, ?_⟩
    have hF1 : ∀ k, F k → k < w1.heap.size := fun k hk => Nat.lt_of_lt_of_le (HP.out.lt k hk) s1.size
    -- from w2 on
    have hpool : PoolM w3 p (Grew (Grew (Grew F w1 w2) w2 (w2.setCell ⟨gh, i, none⟩ (.int .i64 (-1)))) (w2.setCell ⟨gh, i, none⟩ (.int .i64 (-1))) w3) ⟨t.l, t.d, t.r, t.hs.set i (-1)⟩ := by
      refine ⟨grew_lt (grew_lt HF2.out a1.size) r1.size, q, gs, gd, c, _, nv', ms, r2, hhp, ?_, ?_⟩
      · simp only
        have := gone_push (i := i) HG.out (by rw [HSL.out]; exact HI.out) (by rw [getD_set _ _ _ _ _ HI.out, if_pos rfl]; decide) hpm
        rw [List.set_set] at this
        exact this
      · simp only
        rw [held_drop HI.out]; exact r3
    obtain ⟨x1, x2⟩ := PoolM.then HF2.out a1 r1 hpool
    exact after_read HP.out.lt s1 (after_pool hwf.out hF1 HS2.out x1 x2)
end Go.Proofs.Ytmijbplhmjledaa
