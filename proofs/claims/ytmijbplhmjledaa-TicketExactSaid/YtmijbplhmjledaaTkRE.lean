/-
  The document's pool: Turn, Turned.
-/
import Derived.Test.YtmijbplhmjledaaTkRC
import Derived.Test.YtmijbplhmjledaaTkJ
namespace Go.Proofs.Ytmijbplhmjledaa
open Go.RowKit
set_option linter.unusedVariables false
set_option linter.unusedSimpArgs false

/-- Late ones are free, of the first j. -/
def tuT (is : List Int) : Nat → List Int
  | 0 => is
  | j + 1 => if is.getD j 0 = 2 then (tuT is j).set j 3 else tuT is j
theorem tuT_len (is : List Int) : ∀ j, (tuT is j).length = is.length
  | 0 => rfl
  | j + 1 => by rw [tuT]; split; rw [List.length_set, tuT_len is j]; exact tuT_len is j
theorem tuT_at (is : List Int) (k : Nat) : ∀ j, j ≤ is.length → (tuT is j).getD k 0 = if k < j ∧ is.getD k 0 = 2 then 3 else is.getD k 0
  | 0, _ => by rw [tuT, if_neg (by omega)]
  | j + 1, h => by
    rw [tuT]
    by_cases h2 : is.getD j 0 = 2
    · rw [if_pos h2, getD_set _ _ _ _ _ (by rw [tuT_len]; omega), tuT_at is k j (by omega)]
      by_cases e : k = j
      · rw [if_pos e, if_pos (by rw [e]; omega)]
      · rw [if_neg e]
        by_cases h3 : k < j ∧ is.getD k 0 = 2
        · rw [if_pos h3, if_pos (by omega)]
        · rw [if_neg h3, if_neg (by omega)]
    · rw [if_neg h2, tuT_at is k j (by omega)]
      by_cases h3 : k < j ∧ is.getD k 0 = 2
      · rw [if_pos h3, if_pos (by omega)]
      · rw [if_neg h3, if_neg]
        rintro ⟨h4, h5⟩
        by_cases e : k = j
        · rw [e] at h5; exact h2 h5
        · exact h3 ⟨by omega, h5⟩
theorem tuT_all {t : Tk} (hw : Wf t) : tuT (kindsL t.l t.d) (kindsL t.l t.d).length = kindsL (turnT t).l (turnT t).d := by
  obtain ⟨_, _, _, h4, h5⟩ := hw.turn
  refine ext_getI (by rw [tuT_len, kindsL_len, kindsL_len]; exact h5.symm) (fun k hk => ?_)
  rw [tuT_len, kindsL_len] at hk
  rw [tuT_at _ _ _ (Nat.le_refl _), kindsL_len, kindsL_at _ _ _ hk]
  have := h4 k hk
  unfold turnT
  simp only
  rw [this]
  by_cases h2 : kindAt t.l t.d k = 2
  · rw [if_pos h2, if_pos ⟨hk, h2⟩]
  · rw [if_neg h2, if_neg (fun x => h2 x.2)]
theorem kinds_late (l d : List Bool) : ∀ j, j ≤ l.length → ((kindsL l d).take j).count 2 = (lateT d j).length
  | 0, _ => by simp [lateT]
  | j + 1, h => by
    rw [count_snoc _ _ _ (by rw [kindsL_len]; omega), kinds_late l d j (by omega), kindsL_at _ _ _ (by omega), lateT]
    unfold kindAt
    cases d.getD j false
    · cases l.getD j false <;> simp
    · simp
theorem kinds_late_all {t : Tk} (hw : Wf t) : (kindsL t.l t.d).count 2 = (lateL t.d).length := by
  have := kinds_late t.l t.d t.l.length (Nat.le_refl _)
  rw [List.take_of_length_le (by rw [kindsL_len]; exact Nat.le_refl _)] at this
  rw [this, lateL, hw.dl]
set_option maxHeartbeats 2000000 in
theorem rturn_any (w : World) (u : Nat) (G : Nat → Prop) (t : Tk) (hw : Wf t) (h : Rf w u G t) (L : Nat) (hL : (lateL t.d).length = L) (t' : Tk) (e2 : turnT t = t') :
    Calls Try.prog 38 #[.pointer (some ⟨u, 0, none⟩)] w fun e w' => e = .returned (.int .i64 L) ∧ Step G w w' ∧ Rf w' u (Grew G w w') t' := by
  subst e2
  have HP := hid h
  have HG := hid h.1
  obtain ⟨ia, ic, sa, sc, hb, ho, hs, g1, g2, g3, g4⟩ := IsRf.len h
  have HB := hid hb
  have HO := hid ho
  have HS := hid hs
  have HGG := hid (And.intro g1 (And.intro g2 (And.intro g3 g4)))
  have HA := hid (tuT_all hw)
  have HC := hid ((kinds_late_all hw).trans hL)
  have hn2 := hw.n2
  have HKL := hid (kindsL_len t.l t.d)
  have HTR : Hid ((turnT t).hs = t.hs ∧ (turnT t).r = t.r) := ⟨rfl, rfl⟩
  obtain ⟨is, his⟩ : ∃ is, kindsL t.l t.d = is := ⟨_, rfl⟩
  rw [his] at HA HC HKL HB HO HGG
  obtain ⟨N, hN⟩ : ∃ N, is.length = N := ⟨_, rfl⟩
  have hN5 : N ≤ 512 := by rw [← hN, HKL.out]; exact hn2
  have HN := hid hN
  rw [hN] at HB HO HGG HA
  have HNE : Hid (∀ k, (Value.slice ia N ic).ownBlock = some k → k ≠ u) := fun k hk => by
    obtain ⟨A, hA⟩ := owns_block HO.out k hk
    exact ne_of_types hA HB.out (by decide)
  clear h hb ho hs g1 g2 g3 g4 hL hn2 hN his
  go_enter Try.func38, Try.ntmps38
  go_wp2_with fail
  go_loopw [3, 4] (fun c i wr => ∃ (j C : Nat), j ≤ N ∧ C ≤ j ∧ i = .int .i64 j ∧ c = .int .i64 C ∧ Hid ((is.take j).count 2 = C) ∧ Step (fun k => (Value.slice ia N ic).ownBlock = some k) w wr ∧ wr.ownsRow 0 3 1 (.slice ia N ic) N (intsOf (tuT is j))) (fun _ i _ => N - (intOf i).toNat)
  case atStart => exact ⟨0, 0, Nat.zero_le _, Nat.le_refl _, rfl, rfl, rfl, Step.refl _ _, HO.out⟩
  case round =>
    obtain ⟨j, C, hj, hCj, rfl, rfl, hC, hst, hown⟩ := hrel
    obtain ⟨c0, _, _⟩ := cells3 ((hst.block u (lt_of_block HB.out) (fun e => HNE.out u e rfl)).trans HB.out)
    by_cases hjn : j < N
    · have hji : (j : Int) < (N : Int) := by omega
      have hown' : wr.ownsRow 0 3 1 (.slice ia N ic) (tuT is j).length (intsOf (tuT is j)) := by rw [tuT_len, HN.out]; exact hown
      obtain ⟨g, c', he, hcl, hc, hfz⟩ := owns_cell hown' j (by rw [tuT_len, HN.out]; exact hjn)
      rw [tuT_len, HN.out] at he
      injection he with he1 he2 he3
      subst he1 he3
      rw [tuT_at is j j (by rw [HN.out]; omega), if_neg (by omega)] at hc
      have hcs := hid (count_snoc is 2 j (by rw [HN.out]; exact hjn))
      obtain ⟨y, hy⟩ : ∃ y, is.getD j 0 = y := ⟨_, rfl⟩
      rw [hy] at hc hcs
      have HY := hid hy
      have HST := hid hst
      have HOW := hid hown
      clear hown' hy hst hown
      by_cases e : y = 2
      · subst e
        go_wp2_with fail
        go_roundw
        case rel =>
          refine ⟨j + 1, C + 1, by omega, by omega, int_eq (by omega), int_eq (by omega), by show _ = _; rw [hcs.out, hC.out, if_pos rfl], HST.out.setCell (p := ⟨g, j, none⟩) (.inl rfl) _, ?_⟩
          rw [tuT, if_pos HY.out, ← intsOf_set]
          exact owns_put HOW.out j (by rw [intsOf_length, tuT_len, HN.out]; exact hjn) _
        case measure => simp [intOf]; omega
      · go_wp2_with fail
        go_roundw
        case rel => exact ⟨j + 1, C, by omega, by omega, int_eq (by omega), rfl, by show _ = _; rw [hcs.out, hC.out, if_neg e, Nat.add_zero], HST.out, by rw [tuT, if_neg (by rw [HY.out]; exact e)]; exact HOW.out⟩
        case measure => simp [intOf]; omega
    · obtain rfl : j = N := by omega
      go_wp2_with fail
      go_ret
      have hCL : C = L := by rw [← hC.out, ← HC.out, ← HN.out, List.take_length]
      obtain ⟨p1, p2, p3, p4⟩ := HGG.out
      have x := IsRf.newIs (is := is) (sz := t.hs) (is' := tuT is j) (sv := .slice sa t.hs.length sc) HG.out HB.out (by rw [HN.out]; exact HO.out) HS.out p1 p2 p3 p4 (hst.mono (fun k hk => .inl (.inr hk))) ((hst.block u (lt_of_block HB.out) (fun e => HNE.out u e rfl)).trans HB.out) (by rw [tuT_len, HN.out]; exact hown) (.inl rfl)
      rw [HA.out] at x
      refine ⟨ret_int (by rw [hCL]), x.1, x.2⟩

set_option maxHeartbeats 4000000 in
theorem rturned_any (w : World) (u : Nat) (G : Nat → Prop) (is sz : List Int) (r : Int) (h : IsRf w u G is sz r) (hil : 1 ≤ is.length ∧ is.length ≤ 512) (a : Option Addr) (c n : Nat) (zs : List Int) (hn : zs.length = n) (hz : RowAt w G a (intsOf zs)) (hl : zs.length ≤ 1000000) (K : Int) (hK : K ≠ 1) (E : Int) (hE : usedE is zs = E) (is' : List Int) (hI : (if E = 0 then markL K is zs else is) = is') :
    Calls Try.prog 37 #[.pointer (some ⟨u, 0, none⟩), .slice a n c, .int .i64 K] w fun e w' => e = .returned (.int .i64 E) ∧ Step G w w' ∧ IsRf w' u (Grew G w w') is' sz r := by
  subst hn
  have HI := hid hI
  have HP := hid h
  have HG := hid h.1
  have HZ := hid hz
  have HE := hid hE
  obtain ⟨ia, ic, sa, sc, hb, ho, hs, g1, g2, g3, g4⟩ := h.len
  have HB := hid hb
  have HO := hid ho
  have HS := hid hs
  have HGG := hid (And.intro g1 (And.intro g2 (And.intro g3 g4)))
  obtain ⟨c0, _, _⟩ := cells3 hb
  have hz0 : RowAt w noF a (intsOf zs) := hz.imp id (fun ⟨b, off, e, _, x⟩ => ⟨b, off, e, fun y => y, x⟩)
  have HZ0 := hid hz0
  have HK := hid hK
  obtain ⟨i0, hi, hzz0, hz1, hz2⟩ := info_three info_int
  obtain ⟨N, hN⟩ : ∃ N, is.length = N := ⟨_, rfl⟩
  have HN := hid hN
  rw [hN] at c0 hil HB HO HGG
  clear h hz hz0 hb ho hs g1 g2 g3 g4 hE hN hK hI
  go_enter Try.func37, Try.ntmps37
  go_wp2_with fail
  go_loopw [7] (fun i wr => ∃ j : Nat, j ≤ zs.length ∧ i = .int .i64 j ∧ Step noF w wr ∧ Hid ((zs.take j).all (inR is.length) = true)) (fun i _ => zs.length - (intOf i).toNat)
  case atStart => exact ⟨0, Nat.zero_le _, rfl, Step.refl _ _, rfl⟩
  case round =>
    obtain ⟨j, hj, rfl, hst, hall⟩ := hrel
    have c0' := hst.after c0
    by_cases hjn : j < zs.length
    · have hji : (j : Int) < (zs.length : Int) := by omega
      obtain ⟨b, off, rfl, y0⟩ := row_int (HZ0.out.step hst) j hjn
      obtain ⟨z, hzz⟩ : ∃ z, zs[j] = z := ⟨_, rfl⟩
      have HZZ := hid hzz
      rw [hzz] at y0
      have HST := hid hst
      clear hzz hst
      have hbad : Hid ((z < 0 ∨ (N : Int) ≤ z) → E = 3) := fun hx => by
        rw [← HE.out, usedE, if_neg]
        rw [Bool.not_eq_true]
        refine all_not _ zs j hjn ?_
        rw [HZZ.out]
        cases hin : inR is.length z with
        | false => rfl
        | true => have := inR_iff.1 hin; rw [HN.out] at this; omega
      by_cases k1 : z < 0
      · have hE3 := hid (hbad.out (.inl k1))
        go_wp2_with fail
        go_quiet (fail)
        go_wp2
        go_ret
        have e0 : is' = is := by rw [← HI.out, hE3.out]; rfl
        rw [hE3.out, e0]
        refine ⟨rfl, ?_⟩
        exact ⟨step_noF (HST.out.drewN _), (IsRf.mono (HP.out.step (HST.out.drewN _)) (fun k hk => .inl hk) (grew_lt HG.out HST.out.size))⟩
      · by_cases k2 : (N : Int) ≤ z
        · have hE3 := hid (hbad.out (.inr k2))
          go_wp2_with fail
          go_quiet (fail)
          go_wp2
          go_ret
          have e0 : is' = is := by rw [← HI.out, hE3.out]; rfl
          rw [hE3.out, e0]
          refine ⟨rfl, ?_⟩
          exact ⟨step_noF (HST.out.drewN _), (IsRf.mono (HP.out.step (HST.out.drewN _)) (fun k hk => .inl hk) (grew_lt HG.out HST.out.size))⟩
        · have HA := hid (all_take_succ _ zs j hjn hall.out (inR_iff.2 (by rw [HZZ.out, HN.out]; omega)))
          go_wp2_with fail
          go_quiet (fail)
          go_wp2
          go_roundw
          case rel => exact ⟨j + 1, by omega, int_eq (by omega), HST.out.drewN _, HA.out⟩
          case measure => simp [intOf]; omega
    · obtain rfl : j = zs.length := by omega
      rw [List.take_length] at hall
      have HE2 : Hid (E = if okT is zs zs.length then 0 else 11) := by
        show _ = _
        rw [← HE.out, usedE, if_pos hall.out]
      have HAL := hid (List.all_eq_true.1 hall.out)
      have ho := owns_step HO.out hst (fun _ _ x => x)
      obtain ⟨gi, cc0, he, hcl, hrowi, _⟩ := rowIn_owns ho (by omega)
      injection he with he1 he2 he3
      subst he1 he3
      have hmx : Hid (0 + N ≤ maxLen) := le_max (by omega)
      have hmb : Hid ((0 + N) * 8 ≤ 140737488355328) := by show _ ≤ _; omega
      have hone : Hid (∀ u ∈ intsOf is, u.oneCell' = true) := fun u hu => by
        unfold intsOf at hu
        obtain ⟨x, _, rfl⟩ := List.mem_map.1 hu
        rfl
      have hlen : Hid ((intsOf is).length = N * 1) := by show _ = _; rw [intsOf_length, HN.out, Nat.mul_one]
      have hcs : Hid (∀ j u, (intsOf is)[j]? = some u → (wr.alloc (.cells #[] 3)).cell? (Addr.add ⟨gi, 0, none⟩ j) = some u) := (ho.alloc (.cells #[] 3)).cells (g := gi) rfl
      have hemp : Hid ((wr.alloc (.cells #[] 3)).ownsRow 0 3 1 (.slice (some ⟨wr.heap.size, 0, none⟩) 0 0) 0 []) := ⟨rfl, .inr ⟨wr.heap.size, 0, #[], rfl, Nat.zero_le _, block_alloc_new _ _, Nat.le_refl _, Nat.zero_le _, rfl, rfl⟩⟩
      have HST := hid hst
      have hwsz := hst.size
      have c0n := fun o => cell_alloc c0' o
      clear ho hrowi hjn hj hall hst
      go_wp2_with (at_builtin; refine wpList_append_fresh rfl (.tmp 33) (.tmp 37) 30 rfl 3 i0 _ 1 8 Try.underlying30 hi hzz0 hz1 hz2 rfl (by decide) _ 0 [] (by simp [Act.eval]; rfl) (by exact hemp.out) ⟨gi, 0, none⟩ N ic (intsOf is) (by simp [Act.eval]) hlen.out hcs.out hone.out hmx.out hmb.out ?_; intro v' w' ho' hg' hfr')
      have SW : Hid (Step noF w w') := (HST.out.alloc (.cells #[] 3)).grown hg' (fun k hk => .inr (by have hk2 : wr.heap.size = k := Option.some.inj hk; omega))
      have HFR : Hid (∀ k, v'.ownBlock = some k → w.heap.size ≤ k) := fun k hk => by
        rcases hfr' with e | e
        · rw [e] at hk
          have hk2 : wr.heap.size = k := Option.some.inj hk
          omega
        · exact Nat.le_trans (HST.out.alloc (.cells #[] 3)).size (e k hk)
      rw [Nat.zero_add, List.nil_append] at ho'
      obtain ⟨gv, cv, rfl, hcv, _, _⟩ := rowIn_owns ho' (by omega)
      have HOV := hid ho'
      clear ho' hg' hfr' hwsz
      go_loopw [9] (fun i wr2 => ∃ j : Nat, j ≤ zs.length ∧ i = .int .i64 j ∧ Step noF w wr2 ∧ wr2.ownsRow 0 3 1 (.slice (some ⟨gv, 0, none⟩) N cv) N (intsOf (markT K is zs j)) ∧ Hid (okT is zs j = true)) (fun i _ => zs.length - (intOf i).toNat)
      case atStart => exact ⟨0, Nat.zero_le _, rfl, SW.out, HOV.out, rfl⟩
      case round =>
        obtain ⟨j, hj, rfl, hst, hown, hok⟩ := hrel
        by_cases hjn : j < zs.length
        · have hji : (j : Int) < (zs.length : Int) := by omega
          obtain ⟨b, off, rfl, y0⟩ := row_int (HZ0.out.step hst) j hjn
          obtain ⟨i1, i2⟩ := inR_iff.1 (HAL.out _ (List.getElem_mem hjn))
          rw [HN.out] at i2
          obtain ⟨k, hk⟩ := Int.eq_ofNat_of_zero_le i1
          have hkN : k < N := by omega
          have hki : (k : Int) < (N : Int) := by omega
          have hgz : zs.getD j 0 = (k : Int) := by rw [getD_lt _ hjn, hk]
          rw [hk] at y0
          have hml : (markT K is zs j).length = N := by rw [markT_len, HN.out]
          have hrow := owns_rowIn hown
          have hcell := hrow.int k (by rw [hml]; exact hkN)
          have hfz := hrow.f k
          have hrg : ∀ z ∈ zs, 0 ≤ z ∧ z < (is.length : Int) := fun z hz => inR_iff.1 (HAL.out z hz)
          have hmat := markT_at K 0 is zs hrg k j (by omega)
          have hoks : okT is zs (j + 1) = (decide (is.getD k 0 = 1) && !(zs.take j).contains (k : Int)) := by
            rw [okT, hok.out, Bool.true_and, hgz, Int.toNat_natCast]
          obtain ⟨y, hy⟩ : ∃ y, (markT K is zs j).getD k 0 = y := ⟨_, rfl⟩
          have hO1 : Hid (okT is zs (j + 1) = decide (y = 1)) := by
            show _ = _
            rw [hoks, ← hy, hmat]
            by_cases hm : (k : Int) ∈ zs.take j
            · rw [if_pos hm, List.contains_iff_mem.2 hm, decide_eq_false HK.out]; simp
            · rw [if_neg hm]
              have : (zs.take j).contains (k : Int) = false := by
                cases hcc : (zs.take j).contains (k : Int) with
                | false => rfl
                | true => exact absurd (List.contains_iff_mem.1 hcc) hm
              rw [this]; simp
          rw [hy] at hcell
          have HOW := hid hown
          have HML := hid hml
          have HGZ := hid hgz
          have HST2 := hid hst
          have hkb : k ≤ 512 := by omega
          clear hown hrow hrg hmat hoks hy hml hgz hk i1 i2 hst
          by_cases e : y = 1
          · subst e
            have HO2 : Hid (okT is zs (j + 1) = true) := by show _ = _; rw [hO1.out]; rfl
            go_wp2_with fail
            go_roundw
            case rel =>
              refine ⟨j + 1, by omega, int_eq (by omega), HST2.out.setCell (p := ⟨gv, k, none⟩) (.inr (HFR.out gv rfl)) _, ?_, HO2.out⟩
              rw [markT, HGZ.out, Int.toNat_natCast, ← intsOf_set]
              exact owns_put HOW.out k (by rw [intsOf_length, HML.out]; exact hkN) _
            case measure => simp [intOf]; omega
          · have hE3 : Hid (E = 11) := by
              show _ = _
              rw [HE2.out, okT_stop (by rw [hO1.out, decide_eq_false e]) hjn]; rfl
            go_wp2_with fail
            go_ret
            have e0 : is' = is := by rw [← HI.out, hE3.out]; rfl
            rw [hE3.out, e0]
            exact ⟨rfl, step_noF HST2.out, (IsRf.mono (HP.out.step HST2.out) (fun k hk => .inl hk) (grew_lt HG.out HST2.out.size))⟩
        · obtain rfl : j = zs.length := by omega
          have hE3 : Hid (E = 0) := by show _ = _; rw [HE2.out, hok.out]; rfl
          have hb2 := (hst.block u (lt_of_block HB.out) (fun x => x)).trans HB.out
          obtain ⟨c0', _, _⟩ := cells3 hb2
          have f0' := frozen_of_block hb2 0
          have HB2 := hid hb2
          clear hb2
          go_wp2_with fail
          go_ret
          have e0 : is' = markL K is zs := by rw [← HI.out, hE3.out]; rfl
          rw [hE3.out, e0]
          obtain ⟨p1, p2, p3, p4⟩ := HGG.out
          have sF := (hst.mono (G := pvF u (.slice (some ⟨gi, 0, none⟩) N ic)) (fun _ x => x.elim)).setCell (p := ⟨u, 0, none⟩) (.inl (.inl rfl)) (.slice (some ⟨gv, 0, none⟩) N cv)
          have hgvu : ¬ gv = u := fun e => by have := HFR.out gv rfl; have := lt_of_block HB.out; omega
          have x := IsRf.newIs (is := is) (sz := sz) (is' := markL K is zs) (sv := .slice sa sz.length sc) HG.out HB.out (by rw [HN.out]; exact HO.out) HS.out p1 p2 p3 p4 sF (block_setCell HB2.out 0 _) (by
            rw [markL_len, HN.out]
            exact owns_setCell hown ⟨u, 0, none⟩ (fun e => by injection e with e; exact hgvu e) _) (.inr HFR.out)
          exact ⟨rfl, x⟩
end Go.Proofs.Ytmijbplhmjledaa
