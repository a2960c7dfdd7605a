/-
  What newTicket, Hold, Change do.
-/
import Derived.Test.YtmijbplhmjledaaTkE
namespace Go.Proofs.Ytmijbplhmjledaa
open Go.RowKit
set_option linter.unusedVariables false
set_option linter.unusedSimpArgs false

theorem IsPool.of {w w' : World} {p : Nat} {F : Nat → Prop} {t' : Tk} (hw : Wf t') (h : Step F w w' ∧ PoolM w' p (Grew F w w') t') : Step F w w' ∧ IsPool w' p (Grew F w w') t' := ⟨h.1, hw, h.2⟩
theorem gone_held {hs : List Int} : heldL (holdL hs 0) = heldL hs := by rw [heldL_hold _ _ (Int.le_refl _), Int.add_zero]
theorem nodup_le : ∀ (ns L : List Int), ns.Nodup → (∀ z ∈ ns, z ∈ L) → ns.length ≤ L.length
  | [], _, _, _ => Nat.zero_le _
  | z :: ns, L, hn, h => by
    have hn2 := List.nodup_cons.1 hn
    have hz := h z (by simp)
    have := nodup_le ns (L.erase z) hn2.2 (fun y hy => (List.mem_erase_of_ne (fun (e : y = z) => hn2.1 (by rw [← e]; exact hy))).2 (h y (by simp [hy])))
    rw [List.length_erase_of_mem hz] at this
    have := List.length_pos_of_mem hz
    simp
    omega
theorem gone_len {hs ns : List Int} (h : Gone hs ns) : ns.length ≤ hs.length := by
  have := nodup_le ns ((List.range hs.length).map (fun (i : Nat) => (i : Int) + 1)) h.1 (fun z hz => by
    obtain ⟨i, hi, _, rfl⟩ := (h.2 z).1 hz
    exact List.mem_map.2 ⟨i, List.mem_range.2 hi, rfl⟩)
  simpa using this

set_option maxHeartbeats 2000000 in
theorem newT_any (w : World) (p : Nat) (F : Nat → Prop) (t : Tk) (h : PoolM w p F t) (hm : ∀ z ∈ t.hs, -1 ≤ z) (hl : t.hs.length ≤ 800000) (I : Int) (hI : (firstG t.hs : Int) + 1 = I) :
    Calls Try.prog 41 #[.pointer (some ⟨p, 0, none⟩)] w fun e w' => e = .returned (.int .i64 I) ∧ Step F w w' ∧ PoolM w' p (Grew F w w') ⟨t.l, t.d, t.r, holdL t.hs 0⟩ := by
  subst hI
  obtain ⟨hF, q, gs, gd, c, hv, nv, ns, hf, hp, hg, hr⟩ := h
  have HR := hid hr
  obtain ⟨h1, _, _, _, _, h6, h7, _⟩ := hr
  have HNE : Hid (∀ k, hv.ownBlock = some k → k ≠ p) := fun k hk => (HR.out.apart.2.2.2.2.2.1 k hk).1
  have HNE2 : Hid (∀ k, nv.ownBlock = some k → k ≠ p) := fun k hk => (HR.out.apart.2.2.2.2.2.2 k hk).1
  obtain ⟨_, _, _, c3, _, c5⟩ := cells6 h1
  have HB := hid h1
  have HO := hid h6
  have HO2 := hid h7
  have HG := hid hg
  have HM := hid hm
  have HP := hid hp
  rcases hns : ns with _ | ⟨n0, nt⟩
  · subst hns
    have HFG : Hid (firstG t.hs = t.hs.length) := gone_nil hg hm
    have HHL : Hid (holdL t.hs 0 = t.hs ++ [0]) := by show _ = _; rw [holdL, if_neg (by rw [HFG.out]; omega)]
    obtain ⟨na, nc, rfl⟩ := owns_form h7
    obtain ⟨ha, hc, rfl⟩ := owns_form h6
    have cn := nlen_any w na 0 nc
    obtain ⟨i0, hi, hz0, hz1, hz2⟩ := info_three info_int
    have hone : Hid (∀ u ∈ [Value.int .i64 0], u.oneCell' = true) := fun u hu => by simp at hu; rw [hu]; rfl
    have hmx : Hid (t.hs.length + 1 ≤ maxLen) := le_max (by omega)
    have hmb : Hid ((t.hs.length + 1) * 8 ≤ 140737488355328) := by show _ ≤ _; omega
    have f3 := frozen_of_block h1 3
    have c5' : w.cell? ⟨p, 5, none⟩ = some (.slice na 0 nc) := c5
    clear h1 h6 h7 hg hm hp c5
    go_enter Try.func41, Try.ntmps41
    go_wp2_with fail
    refine cn.mono ?_
    rintro e w1 ⟨rfl, rfl⟩
    go_wp2_with (at_builtin; refine wpList_append_fresh rfl (.tmp 14) (.tmp 15) 30 rfl 3 i0 _ 1 8 Try.underlying30 hi hz0 hz1 hz2 rfl (by decide) _ _ _ (by simp [Act.eval]; rfl) (by exact HO.out.alloc _) ⟨w.heap.size, 0, none⟩ 1 1 [.int .i64 0] (by simp [Act.eval]) rfl (cell_one_new _ _ _) hone.out hmx.out hmb.out ?_; intro v' w' ho' hg' hfr'; have hb' := grown_block hg' (block_alloc_old HB.out _) (fun e => HNE.out p e.symm rfl); obtain ⟨_, _, _, hc', _, _⟩ := cells6 hb'; have hf' := frozen_of_block hb' 3; have HB' := hid hb'; clear hb'; obtain ⟨ao, cc, rfl⟩ := owns_form ho')
    go_ret
    have sA : Step (pvF p (.slice ha t.hs.length hc)) w (w.alloc (.cells #[.int .i64 0] 3)) := (Step.refl _ w).alloc _
    have sB := sA.grown hg' (fun k hk => .inl (.inr hk))
    have hFr : Fresh w (.slice ha t.hs.length hc) (.slice ao (t.hs.length + 1) cc) := hfr'.imp id (fun e k hk => Nat.le_trans sA.size (e k hk))
    have sC := sB.setCell (p := ⟨p, 3, none⟩) (.inl (.inl rfl)) (.slice ao (t.hs.length + 1) cc)
    obtain ⟨r1, r2, r3⟩ := new_has (hs' := t.hs ++ [0]) (h' := heldL t.hs) HR.out hf sC (block_setCell HB'.out 3 _)
      (by
        rw [show (t.hs ++ [(0 : Int)]).length = t.hs.length + 1 by simp, intsOf_append]
        exact owns_setCell ho' ⟨p, 3, none⟩ (fun e => by
          rcases hFr with x | x
          · rw [x] at e; exact HNE.out p e rfl
          · have := x p e; have := lt_of_block HB.out; omega) _)
      hFr
    refine ⟨ret_int ?_, r1, grew_lt hF sC.size, q, gs, gd, c, _, _, [], r2, HP.out, ?_, ?_⟩
    · rw [HFG.out]
    · simp only; rw [HHL.out]; exact gone_snoc HG.out (by decide)
    · simp only
      rw [gone_held, HHL.out]; exact r3
  · obtain ⟨m, hmm⟩ : ∃ m, ns.length = m + 1 := ⟨nt.length, by rw [hns]; rfl⟩
    have hm8 : m ≤ 800000 := by have := gone_len hg; omega
    have HMM := hid hmm
    obtain ⟨g, nc, rfl, hnc, hrow, hob⟩ := rowIn_owns h7 (by omega)
    have hpg : p ≠ g := fun e => HNE2.out g rfl e.symm
    rw [hmm] at h7 c5 h1
    have cp := hpop_any w p _ 59 h1 g nc ns m hmm (by omega) rfl h7 hpg hp
    have cn := nlen_any w (some ⟨g, 0, none⟩) (m + 1) nc
    have k0 : ¬ ((m : Int) + 1 = 0) := by omega
    have hta := assert_int
    clear h1 h6 h7 hg hm hp hmm hns hrow hob hnc
    go_enter Try.func41, Try.ntmps41
    go_wp2_with fail
    refine cn.mono ?_
    rintro e w1 ⟨rfl, rfl⟩
    go_wp2_with fail
    refine cp.mono ?_
    rintro e w1 ⟨x, rfl, ms, hb1, ho1, s1, hperm, hhp, hmin⟩
    obtain ⟨hlt, hx⟩ := gone_min HG.out HM.out (hperm.mem_iff.2 (by simp)) hmin
    subst hx
    have hlm : ms.length = m := by have := hperm.length_eq; rw [HMM.out] at this; simp at this; omega
    have s1' : Step (pvF p (.slice (some ⟨g, 0, none⟩) ns.length nc)) w w1 := by rw [HMM.out]; exact s1
    obtain ⟨r1, r2, r3⟩ := new_num (ns' := ms) HR.out hf s1' hb1 (by rw [hlm]; exact ho1) (.inl rfl)
    have HR1 := hid r3
    have HMS := hid (show ns.Perm ((((firstG t.hs : Nat) : Int) + 1) :: ms) from hperm)
    have HHP := hid hhp
    have HLT := hid hlt
    have HLM := hid hlm
    have sz1 := s1'.size
    have HSZ := hid sz1
    obtain ⟨i, hi⟩ : ∃ i, firstG t.hs = i := ⟨_, rfl⟩
    rw [hi] at hlt
    obtain ⟨q1, _, _, _, _, q6, _⟩ := r3
    obtain ⟨gh, hc, rfl, hcl, hcell, hfz⟩ := owns_cell q6 i hlt
    obtain ⟨_, _, _, c3', _, _⟩ := cells6 q1
    have hgp : ¬ gh = p := HNE.out gh rfl
    have HQ1 := hid q1
    have HQ6 := hid q6
    have HI := hid hi
    have k3 : (i : Int) + 1 - 1 = (i : Int) := by omega
    have k4 : (i : Int) < (t.hs.length : Int) := by omega
    have k5 : i ≤ 800000 := by omega
    have hfi : ((firstG t.hs : Nat) : Int) + 1 = (i : Int) + 1 := by rw [hi]
    rw [hi]
    clear hi hb1 ho1 s1 hperm hhp hmin hlm q1 q6 c3 c5 sz1 s1' hfi
    go_wp2_with fail
    go_ret
    have sS : Step (pvF p (.slice (some ⟨gh, 0, none⟩) t.hs.length hc)) w1 (w1.setCell ⟨gh, i, none⟩ (.int .i64 0)) := ((Step.refl _ w1).setCell (p := ⟨gh, i, none⟩) (.inl (.inr rfl)) _)
    obtain ⟨e1, e2, e3⟩ := new_has (hs' := t.hs.set i 0) (h' := heldL t.hs) HR1.out r2 sS
      (heap_other HQ1.out (fun e => hgp e.symm))
      (by
        rw [List.length_set, ← intsOf_set]
        exact owns_put HQ6.out i (by rw [intsOf_length]; exact hlt) _)
      (.inl rfl)
    refine ⟨ret_int (by rw [HI.out]), ?_⟩
    refine PoolM.then hF r1 e1 ⟨grew_lt (grew_lt hF HSZ.out) sS.size, q, gs, gd, c, _, _, ms, e2, HHP.out, ?_, ?_⟩
    · simp only
      rw [holdL, if_pos HLT.out]
      have := gone_pop HG.out HLT.out HMS.out (n := 0) (by decide)
      exact this
    · simp only
      rw [gone_held, holdL, if_pos HLT.out, HI.out]; exact e3

/-- Hold. -/
def holdE (t : Tk) (n : Int) : Int := if n < 0 then 1 else if leftT t < n then 9 else 0
def holdI (t : Tk) (n : Int) : Int := if holdE t n = 0 then (firstG t.hs : Int) + 1 else 0
def holdT (t : Tk) (n : Int) : Tk := if holdE t n = 0 then ⟨t.l, t.d, t.r, holdL t.hs n⟩ else t
theorem hold_ok {t : Tk} {n : Int} (h0 : 0 ≤ n) (h1 : n ≤ leftT t) : holdE t n = 0 ∧ holdI t n = (firstG t.hs : Int) + 1 ∧ holdT t n = ⟨t.l, t.d, t.r, holdL t.hs n⟩ := by
  have e : holdE t n = 0 := by rw [holdE, if_neg (by omega), if_neg (by omega)]
  exact ⟨e, by rw [holdI, if_pos e], by rw [holdT, if_pos e]⟩
theorem hold_bad {t : Tk} {n : Int} {e : Int} (h : holdE t n = e) (he : e ≠ 0) : holdE t n = e ∧ holdI t n = 0 ∧ holdT t n = t :=
  ⟨h, by rw [holdI, if_neg (by rw [h]; exact he)], by rw [holdT, if_neg (by rw [h]; exact he)]⟩
theorem ret_two {a b c d : Int} (h1 : a = c) (h2 : b = d) : Ending.returned (.tuple #[.int .i64 a, .int .i64 b]) = .returned (.tuple #[.int .i64 c, .int .i64 d]) := by rw [h1, h2]
set_option maxHeartbeats 1000000 in
theorem hold_any (w : World) (p : Nat) (F : Nat → Prop) (t : Tk) (h : IsPool w p F t) (n : Int) (hl : t.hs.length ≤ 700000) :
    Calls Try.prog 23 #[.pointer (some ⟨p, 0, none⟩), .int .i64 n] w fun e w' => e = .returned (.tuple #[.int .i64 (holdI t n), .int .i64 (holdE t n)]) ∧ Step F w w' ∧ IsPool w' p (Grew F w w') (holdT t n) := by
  obtain ⟨b1, b2, b3, b4, b5, b6⟩ := h.1.held
  by_cases k1 : n < 0
  · have hE := hid (hold_bad (t := t) (n := n) (e := 1) (by rw [holdE, if_pos k1]) (by decide))
    have HP := hid h
    clear h b1 b2 b3 b4 b5 b6
    go_enter Try.func23, Try.ntmps23
    go_wp2
    go_ret2
    obtain ⟨e1, e2, e3⟩ := hE.out
    rw [e1, e2, e3]
    exact ⟨rfl, Step.refl _ _, HP.out.grew (Step.refl _ _)⟩
  · obtain ⟨L, hL⟩ : ∃ L, leftT t = L := ⟨_, rfl⟩
    have cl := left_any w p F t h.2 ⟨h.1.r0, by omega⟩ (by omega) L hL
    by_cases k2 : L < n
    · have hE := hid (hold_bad (t := t) (n := n) (e := 9) (by rw [holdE, if_neg k1, hL, if_pos k2]) (by decide))
      have HP := hid h
      clear h b1 b2 b3 b4 b5 b6 hL
      go_enter Try.func23, Try.ntmps23
      go_wp2_with fail
      refine cl.mono ?_
      rintro e w1 ⟨rfl, s1⟩
      go_wp2_with fail
      go_ret2
      obtain ⟨e1, e2, e3⟩ := hE.out
      rw [e1, e2, e3]
      exact ⟨rfl, s1.mono (fun _ x => x.elim), HP.out.grew s1⟩
    · have hE := hid (hold_ok (t := t) (n := n) (by omega) (by omega))
      have hWF := hid (h.1.hold (n := n) (by omega) (by omega))
      have HP := hid h
      have hn5 : n ≤ 512 := by omega
      have B2 := hid b2
      clear h b1 b2 b3 b4 b5 b6 hL
      go_enter Try.func23, Try.ntmps23
      go_wp2_with fail
      refine cl.mono ?_
      rintro e w1 ⟨rfl, s1⟩
      have cn := newT_any w1 p F t (HP.out.2.step s1) HP.out.1.hm (by omega) _ rfl
      go_wp2_with fail
      refine cn.mono ?_
      rintro e w2 ⟨rfl, s2, h2⟩
      have hlen := holdL_len t.hs 0
      have hat := holdL_at t.hs 0 (firstG t.hs)
      rw [if_pos rfl] at hat
      have cs := set_any w2 p _ _ h2 (firstG t.hs) hlen.2.2 (by simp only; omega) (by simp only; rw [hat]; decide) n (by omega) (by simp only; rw [gone_held]; have := B2.out; omega) _ rfl
      clear hlen hat
      go_wp2_with fail
      refine cs.mono ?_
      rintro e w3 ⟨rfl, s3, h3⟩
      go_wp2_with fail
      go_ret2
      obtain ⟨e1, e2, e3⟩ := hE.out
      rw [e1, e2, e3]
      simp only [holdL_set] at h3
      have hF1 : ∀ k, F k → k < w1.heap.size := fun k hk => Nat.lt_of_lt_of_le (HP.out.lt k hk) s1.size
      have a1 := PoolM.then hF1 s2 s3 h3
      have a2 : Step F w w1 := s1.mono (fun _ x => x.elim)
      refine ⟨rfl, a2.trans a1.1, hWF.out, a1.2.mono (fun k hk => ?_) (grew_lt HP.out.lt (Nat.le_trans s1.size a1.1.size))⟩
      rcases hk with hk | hk
      · exact .inl hk
      · exact .inr ⟨Nat.le_trans s1.size hk.1, hk.2⟩
end Go.Proofs.Ytmijbplhmjledaa
