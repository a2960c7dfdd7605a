/-
  The document's pool: Change, Draw.
-/
import Derived.Test.YtmijbplhmjledaaTkRC
import Derived.Test.YtmijbplhmjledaaTkH
namespace Go.Proofs.Ytmijbplhmjledaa
open Go.RowKit
set_option linter.unusedVariables false
set_option linter.unusedSimpArgs false

set_option maxHeartbeats 2000000 in
theorem rchange_any (w : World) (u : Nat) (G : Nat → Prop) (t : Tk) (hw : Wf t) (h : Rf w u G t) (hl : t.hs.length ≤ 700000) (z n : Int) (E : Int) (t' : Tk) (e1 : changeE t z n = E) (e2 : changeT t z n = t') :
    Calls Try.prog 35 #[.pointer (some ⟨u, 0, none⟩), .int .i64 z, .int .i64 n] w fun e w' => e = .returned (.int .i64 E) ∧ Step G w w' ∧ Rf w' u (Grew G w w') t' := by
  subst e1 e2
  obtain ⟨b1, b2, b3, b4, b5, b6⟩ := hw.held
  have HP := hid h
  cases hb : hasB t.hs z
  · have co := rhas_any w u G _ _ _ h (by omega) z false hb
    have hE : Hid (changeE t z n = 7 ∧ changeT t z n = t) := by
      have e : changeE t z n = 7 := by rw [changeE, hb]; rfl
      exact ⟨e, by rw [changeT, e]; rfl⟩
    clear h b1 b2 b3 b4 b5 b6 hb
    go_enter Try.func35, Try.ntmps35
    go_wp2_with fail
    refine co.mono ?_
    rintro e w1 ⟨rfl, s1⟩
    go_wp2_with fail
    go_ret
    rw [hE.out.1, hE.out.2]
    exact ⟨rfl, rf_same HP.out s1⟩
  · have co := rhas_any w u G _ _ _ h (by omega) z true hb
    obtain ⟨hz, hi, hy⟩ := hasB_yes hb
    have hE0 : changeE t z n = (if n < 0 then 1 else if t.hs.getD (idx z) 0 + leftT t < n then 9 else 0) := by rw [changeE, hb]; rfl
    have hT0 : changeT t z n = if changeE t z n = 0 then ⟨t.l, t.d, t.r, t.hs.set (idx z) n⟩ else t := rfl
    generalize idx z = i at hz hi hy hE0 hT0
    subst hz
    have hy5 := hw.has hi
    obtain ⟨L, hL⟩ : ∃ L, leftT t = L := ⟨_, rfl⟩
    obtain ⟨y, hyy⟩ : ∃ y, t.hs.getD i 0 = y := ⟨_, rfl⟩
    have hroom := hw.room
    rw [hL] at hE0 b6 hroom
    rw [hyy] at hE0 hy5 hy
    have HI := hid hi
    have HYY := hid hyy
    have HE0 := hid hE0
    have HT0 := hid hT0
    have HL := hid hL
    clear h b1 b2 b3 b4 b5 hb hyy hL hE0 hT0
    by_cases k1 : n < 0
    · have hE : Hid (changeE t ((i : Int) + 1) n = 1 ∧ changeT t ((i : Int) + 1) n = t) := by
        have e : changeE t ((i : Int) + 1) n = 1 := by rw [HE0.out, if_pos k1]
        exact ⟨e, by rw [HT0.out, e]; rfl⟩
      go_enter Try.func35, Try.ntmps35
      go_wp2_with fail
      refine co.mono ?_
      rintro e w1 ⟨rfl, s1⟩
      go_wp2_with fail
      go_ret
      rw [hE.out.1, hE.out.2]
      exact ⟨rfl, rf_same HP.out s1⟩
    · have q7 : (i : Int) + 1 - 1 = i := by omega
      have q5 : (i : Int) < (t.hs.length : Int) := by omega
      have k1n : ¬ n < 0 := k1
      by_cases k2 : y + L < n
      · have hE : Hid (changeE t ((i : Int) + 1) n = 9 ∧ changeT t ((i : Int) + 1) n = t) := by
          have e : changeE t ((i : Int) + 1) n = 9 := by rw [HE0.out, if_neg k1, if_pos k2]
          exact ⟨e, by rw [HT0.out, e]; rfl⟩
        go_enter Try.func35, Try.ntmps35
        go_wp2_with fail
        refine co.mono ?_
        rintro e w1 ⟨rfl, s1⟩
        have h1 := HP.out.step s1
        have HR1 := hid h1
        have HG1 := hid h1.1
        obtain ⟨ia, ic, sa, sc, hb, ho, hs, g1, g2, g3, g4⟩ := IsRf.len h1
        obtain ⟨g, c', he, hcl, hc, hfz⟩ := owns_cell hs i HI.out
        injection he with he1 he2 he3
        subst he1 he3
        obtain ⟨_, c1, _⟩ := cells3 hb
        rw [HYY.out] at hc
        have HB := hid hb
        have HO := hid ho
        have HS := hid hs
        have HGG := hid (And.intro g1 (And.intro g2 (And.intro g3 g4)))
        have hgu : ¬ g = u := fun e => by
          obtain ⟨A, hA⟩ := owns_block hs g rfl
          exact ne_of_types hA hb (by decide) e
        have HC1 : Hid (∀ w', Step noF w1 w' → (w'.cell? ⟨u, 1, none⟩ = some (.slice (some ⟨g, 0, none⟩) t.hs.length sc)) ∧ (w'.cell? ⟨g, i, none⟩ = some (.int .i64 y))) := fun w' hs' => ⟨hs'.after c1, hs'.after hc⟩
        have CL : Hid (∀ w', Step noF w1 w' → Calls Try.prog 19 #[.pointer (some ⟨u, 0, none⟩)] w' fun e w'' => e = .returned (.int .i64 L) ∧ Step noF w' w'') := fun w' hs' => rleft_any w' u G t hw (HR1.out.step hs') hl L HL.out
        clear h1 hb ho hs g1 g2 g3 g4
        have q1 : wrap64 (i : Int) = i := by unfold wrap64; omega
        have q2 : IntKind.i64.wrap (i : Int) = i := by simp [IntKind.wrap, IntKind.bits, IntKind.signed]; omega
        have q3 : wrap64 (y + L) = y + L := by unfold wrap64; omega
        have q4 : IntKind.i64.wrap (y + L) = y + L := by simp [IntKind.wrap, IntKind.bits, IntKind.signed]; omega
        go_wp2_with fail
        go_region_with (refine (CL.out _ (by exact (Step.refl _ _).drew)).mono ?_; rintro e w2 ⟨rfl, s2⟩; obtain ⟨c1', hc'⟩ := HC1.out w2 s2.undrew)
        all_goals go_wp2_with fail
        all_goals go_ret
        all_goals
          rw [hE.out.1, hE.out.2]
          exact ⟨rfl, rf_same HP.out (s1.trans s2.undrew)⟩
      · have hE : Hid (changeE t ((i : Int) + 1) n = 0 ∧ changeT t ((i : Int) + 1) n = ⟨t.l, t.d, t.r, t.hs.set i n⟩) := by
          have e : changeE t ((i : Int) + 1) n = 0 := by rw [HE0.out, if_neg k1, if_neg k2]
          exact ⟨e, by rw [HT0.out, if_pos e]⟩
        go_enter Try.func35, Try.ntmps35
        go_wp2_with fail
        refine co.mono ?_
        rintro e w1 ⟨rfl, s1⟩
        have h1 := HP.out.step s1
        have HR1 := hid h1
        have HG1 := hid h1.1
        obtain ⟨ia, ic, sa, sc, hb, ho, hs, g1, g2, g3, g4⟩ := IsRf.len h1
        obtain ⟨g, c', he, hcl, hc, hfz⟩ := owns_cell hs i HI.out
        injection he with he1 he2 he3
        subst he1 he3
        obtain ⟨_, c1, _⟩ := cells3 hb
        rw [HYY.out] at hc
        have HB := hid hb
        have HO := hid ho
        have HS := hid hs
        have HGG := hid (And.intro g1 (And.intro g2 (And.intro g3 g4)))
        have hgu : ¬ g = u := fun e => by
          obtain ⟨A, hA⟩ := owns_block hs g rfl
          exact ne_of_types hA hb (by decide) e
        have HC1 : Hid (∀ w', Step noF w1 w' → (w'.cell? ⟨u, 1, none⟩ = some (.slice (some ⟨g, 0, none⟩) t.hs.length sc)) ∧ (w'.cell? ⟨g, i, none⟩ = some (.int .i64 y))) := fun w' hs' => ⟨hs'.after c1, hs'.after hc⟩
        have CL : Hid (∀ w', Step noF w1 w' → Calls Try.prog 19 #[.pointer (some ⟨u, 0, none⟩)] w' fun e w'' => e = .returned (.int .i64 L) ∧ Step noF w' w'') := fun w' hs' => rleft_any w' u G t hw (HR1.out.step hs') hl L HL.out
        clear h1 hb ho hs g1 g2 g3 g4
        have q1 : wrap64 (i : Int) = i := by unfold wrap64; omega
        have q2 : IntKind.i64.wrap (i : Int) = i := by simp [IntKind.wrap, IntKind.bits, IntKind.signed]; omega
        have q3 : wrap64 (y + L) = y + L := by unfold wrap64; omega
        have q4 : IntKind.i64.wrap (y + L) = y + L := by simp [IntKind.wrap, IntKind.bits, IntKind.signed]; omega
        go_wp2_with fail
        go_region_with (refine (CL.out _ (by exact (Step.refl _ _).drew)).mono ?_; rintro e w2 ⟨rfl, s2⟩; obtain ⟨c1', hc'⟩ := HC1.out w2 s2.undrew)
        all_goals
          have S2 : Step noF w1 w2 := s2.undrew
          have hs2 := owns_step HS.out S2 (fun _ _ x => x)
          have hf2 := (owns_rowIn hs2).f i
          have HS2 := hid hs2
          have HO2 := hid (owns_step HO.out S2 (fun _ _ x => x))
          have HB2 := hid ((S2.block u (lt_of_block HB.out) (fun x => x)).trans HB.out)
          clear hs2
          go_wp2_with fail
          go_ret
          rw [hE.out.1, hE.out.2]
          obtain ⟨p1, p2, p3, p4⟩ := HGG.out
          have sS : Step (pvF u (.slice (some ⟨g, 0, none⟩) t.hs.length sc)) w2 (w2.setCell ⟨g, i, none⟩ (.int .i64 n)) := (Step.refl _ _).setCell (p := ⟨g, i, none⟩) (.inl (.inr rfl)) _
          have x := IsRf.newSz (sz' := t.hs.set i n) (fun k hk => Nat.lt_of_lt_of_le (HG1.out k hk) S2.size) HB2.out HO2.out HS2.out p1 p2 p3 p4 sS (heap_other HB2.out (fun e => hgu e.symm)) (by
            rw [List.length_set, ← intsOf_set]
            exact owns_put HS2.out i (by rw [intsOf_length]; exact HI.out) _) (.inl rfl)
          exact ⟨rfl, rf_after HP.out.1 (s1.trans S2) x⟩

theorem kinds_take {l d : List Bool} {k : Nat} (hk : k < l.length) (hd : d.getD k false = false) : kindsL (l.set k false) d = (kindsL l d).set k 1 := by
  refine ext_getI (by rw [kindsL_len, List.length_set, List.length_set, kindsL_len]) (fun j hj => ?_)
  rw [kindsL_len, List.length_set] at hj
  rw [kindsL_at _ _ _ (by rw [List.length_set]; exact hj), getD_set _ _ _ _ _ (by rw [kindsL_len]; exact hk), kindsL_at _ _ _ hj]
  unfold kindAt
  rw [getD_set _ _ _ _ _ hk]
  by_cases e : j = k
  · rw [if_pos e, if_pos e, e, hd]; rfl
  · rw [if_neg e, if_neg e]
set_option maxHeartbeats 2000000 in
theorem rdraw_any (w : World) (u : Nat) (G : Nat → Prop) (t : Tk) (hw : Wf t) (h : Rf w u G t) (hl : t.hs.length ≤ 700000) (z : Int) (I E : Int) (t' : Tk) (e0 : drawI t z = I) (e1 : drawE t z = E) (e2 : drawT t z = t') :
    Calls Try.prog 36 #[.pointer (some ⟨u, 0, none⟩), .int .i64 z] w fun e w' => e = .returned (.tuple #[.int .i64 I, .int .i64 E]) ∧ Step G w w' ∧ Rf w' u (Grew G w w') t' := by
  subst e0 e1 e2
  have HP := hid h
  cases hb : hasB t.hs z
  · have co := rhas_any w u G _ _ _ h (by omega) z false hb
    have hE := hid (draw_bad (t := t) (z := z) (e := 7) (by rw [drawE, hb]; rfl) (by decide))
    clear h hb
    go_enter Try.func36, Try.ntmps36
    go_wp2_with fail
    refine co.mono ?_
    rintro e w1 ⟨rfl, s1⟩
    go_wp2_with fail
    go_ret2
    rw [hE.out.1, hE.out.2.1, hE.out.2.2]
    exact ⟨rfl, rf_same HP.out s1⟩
  · have co := rhas_any w u G _ _ _ h (by omega) z true hb
    obtain ⟨hz, hi, hy⟩ := hasB_yes hb
    have hE0 : t.hs.getD (idx z) 0 = 0 → drawE t z = 11 := fun e => by rw [drawE, hb, if_pos e]; rfl
    generalize idx z = i at hz hi hy hE0
    subst hz
    have hy5 := hw.has hi
    have HI := hid hi
    obtain ⟨y, hyy⟩ : ∃ y, t.hs.getD i 0 = y := ⟨_, rfl⟩
    have HYY := hid hyy
    have q7 : (i : Int) + 1 - 1 = i := by omega
    have q5 : (i : Int) < (t.hs.length : Int) := by omega
    have cells : Hid (∀ w1, Step noF w w1 → ∃ g sc ia ic, w1.heap[u]? = some (.cells #[.slice ia t.l.length ic, .slice (some ⟨g, 0, none⟩) t.hs.length sc, .int .i64 t.r] 35 (0, 0)) ∧ w1.ownsRow 0 3 1 (.slice ia t.l.length ic) (kindsL t.l t.d).length (intsOf (kindsL t.l t.d)) ∧ w1.ownsRow 0 3 1 (.slice (some ⟨g, 0, none⟩) t.hs.length sc) t.hs.length (intsOf t.hs) ∧ w1.cell? ⟨g, i, none⟩ = some (.int .i64 y) ∧ w1.frozen? ⟨g, i, none⟩ = false ∧ ¬ g = u ∧ G u ∧ (∀ k, (Value.slice ia t.l.length ic).ownBlock = some k → G k) ∧ (∀ k, (Value.slice (some ⟨g, 0, none⟩) t.hs.length sc).ownBlock = some k → G k) ∧ (∀ k, (Value.slice ia t.l.length ic).ownBlock = some k → (Value.slice (some ⟨g, 0, none⟩) t.hs.length sc).ownBlock ≠ some k)) := fun w1 s1 => by
      obtain ⟨ia, ic, sa, sc, hb, ho, hs, g1, g2, g3, g4⟩ := IsRf.len (HP.out.step s1)
      obtain ⟨g, c', he, hcl, hc, hfz⟩ := owns_cell hs i HI.out
      injection he with he1 he2 he3
      subst he1 he3
      rw [kindsL_len] at hb g2 g4
      rw [HYY.out] at hc
      refine ⟨g, sc, ia, ic, hb, ?_, hs, hc, hfz, fun e => ?_, g1, g2, g3, g4⟩
      · rw [kindsL_len] at ho ⊢; exact ho
      · obtain ⟨A, hA⟩ := owns_block hs g rfl
        exact ne_of_types hA hb (by decide) e
    by_cases k0 : y = 0
    · have hE := hid (draw_bad (hE0 (hyy.trans k0)) (by decide))
      subst k0
      clear h hb hE0 hyy hy hy5
      go_enter Try.func36, Try.ntmps36
      go_wp2_with fail
      refine co.mono ?_
      rintro e w1 ⟨rfl, s1⟩
      obtain ⟨g, sc, ia, ic, hb, _, _, hc, hfz, _⟩ := cells.out w1 s1
      obtain ⟨_, c1, _⟩ := cells3 hb
      clear hb
      go_wp2_with fail
      go_ret2
      rw [hE.out.1, hE.out.2.1, hE.out.2.2]
      exact ⟨rfl, rf_same HP.out s1⟩
    · obtain ⟨k, k1, k2, k3, k4, k5, ⟨x, hx, hxk⟩⟩ := draw_ok (l := t.l) (by have := hw.free1 hi; omega)
      obtain ⟨k', k1', k2', k3', k4', k5', k6, k7, k8, k9⟩ := draw_yes hw hi (by omega)
      have hkk : k' = k := by rw [k3] at k3'; injection k3' with e _; omega
      subst hkk
      have hE := hid (And.intro k7 (And.intro k8 k9))
      have hbx : bestX (bestL t.l 1) 1 = ((k' : Int), 1) := by rw [hx, bestX, hxk]
      have HKT := hid (kinds_take k1 (hw.apart k' k2))
      have HK1 := hid k1
      have hkb : k' ≤ 512 := by have := hw.n2; omega
      have hki : (k' : Int) < (t.l.length : Int) := by omega
      have HBX := hid hbx
      rw [hyy] at hE hy hy5
      clear h hb hE0 hyy k1 k2 k3 k4 k5 hx hxk k1' k2' k3' k4' k5' k6 k7 k8 k9 hbx
      go_enter Try.func36, Try.ntmps36
      go_wp2_with fail
      refine co.mono ?_
      rintro e w1 ⟨rfl, s1⟩
      obtain ⟨g, sc, ia, ic, hb, _, _, hc, hfz, _⟩ := cells.out w1 s1
      obtain ⟨_, c1, _⟩ := cells3 hb
      have cf := rfrees_any w1 u G t hw _ _ (HP.out.step s1)
      clear hb
      go_wp2_with fail
      refine cf.mono ?_
      rintro e w2 ⟨gf, rfl, s2, hrow⟩
      have cb := refBest_any w2 _ t.l hrow 1
      rw [HBX.out] at cb
      clear c1 hc hfz
      go_wp2_with fail
      refine cb.mono ?_
      rintro e w3 ⟨rfl, s3⟩
      have sX : Step noF w (w3.alloc (.cells #[.int .i64 k', .int .i64 1] 53)) := ((s1.trans s2).trans s3).alloc _
      obtain ⟨g, sc, ia, ic, hb, ho, hs, hc, hfz, hgu, g1, g2, g3, g4⟩ := cells.out _ sX
      obtain ⟨gi, c', he, hcl, hci, hfi⟩ := owns_cell ho k' (by rw [kindsL_len]; exact HK1.out)
      rw [kindsL_len] at he
      injection he with he1 he2 he3
      subst he1 he3
      obtain ⟨c0, c1, _⟩ := cells3 hb
      have hne : ¬ gi = g := fun e => g4 gi rfl (by rw [e]; rfl)
      have hne' : ¬ g = gi := fun e => hne e.symm
      have hgiu : ¬ gi = u := fun e => by
        obtain ⟨A, hA⟩ := owns_block ho gi rfl
        exact ne_of_types hA hb (by decide) e
      have cx0 : (w3.alloc (.cells #[.int .i64 k', .int .i64 1] 53)).cell? ⟨w3.heap.size, 0, none⟩ = some (.int .i64 k') := cell_of_block (block_alloc_new _ _) 0
      have hgw : ¬ w3.heap.size = gi := fun e => by
        obtain ⟨A, hA⟩ := owns_block ho gi rfl
        have := block_alloc_new w3 (.cells #[.int .i64 k', .int .i64 1] 53)
        exact ne_of_types this hA (by decide) e
      have hgw2 : ¬ w3.heap.size = g := fun e => by
        obtain ⟨A, hA⟩ := owns_block hs g rfl
        have := block_alloc_new w3 (.cells #[.int .i64 k', .int .i64 1] 53)
        exact ne_of_types this hA (by decide) e
      have HB := hid hb
      have HO := hid ho
      have HS := hid hs
      have HGG := hid (And.intro g1 (And.intro g2 (And.intro g3 g4)))
      have SX := hid sX
      obtain ⟨v0, hv0⟩ : ∃ v0, (kindsL t.l t.d).getD k' 0 = v0 := ⟨_, rfl⟩
      rw [hv0] at hci
      clear hb ho hs g1 g2 g3 g4 sX hv0 cf cb hrow
      go_wp2_with fail
      go_region
      all_goals go_wp2
      all_goals go_ret2
      all_goals
        obtain ⟨e1, e2, e3⟩ := hE.out
        rw [e1, e2, e3]
        obtain ⟨p1, p2, p3, p4⟩ := HGG.out
        have hkl : (kindsL t.l t.d).length = t.l.length := kindsL_len _ _
        have sF : Step G w (((w3.alloc (.cells #[.int .i64 k', .int .i64 1] 53)).setCell ⟨gi, k', none⟩ (.int .i64 1)).setCell ⟨g, i, none⟩ (.int .i64 (y - 1))).drew :=
          (((step_noF SX.out).setCell (p := ⟨gi, k', none⟩) (.inl (p2 gi rfl)) _).setCell (p := ⟨g, i, none⟩) (.inl (p3 g rfl)) _).drew
        refine ⟨rfl, sF, ?_⟩
        unfold Rf
        simp only
        rw [HKT.out]
        refine ⟨grew_lt HP.out.1 sF.size, .slice (some ⟨gi, 0, none⟩) t.l.length ic, .slice (some ⟨g, 0, none⟩) t.hs.length sc, ?_, ?_, ?_, .inl p1, fun k hk => .inl (p2 k hk), fun k hk => .inl (p3 k hk), p4⟩
        · exact heap_other (heap_other HB.out (fun e => hgiu e.symm)) (fun e => hgu e.symm)
        · have x1 := owns_put (w := w3.alloc (.cells #[.int .i64 k', .int .i64 1] 53)) (g := gi) (c := ic) (n := t.l.length) (xs := intsOf (kindsL t.l t.d)) (by have := HO.out; rw [hkl] at this; exact this) k' (by rw [intsOf_length, hkl]; exact HK1.out) (.int .i64 1)
          rw [intsOf_set] at x1
          rw [List.length_set, hkl]
          exact owns_setCell x1 ⟨g, i, none⟩ (fun e => by injection e with e; exact hne e) _
        · have x1 := owns_setCell HS.out ⟨gi, k', none⟩ (fun e => by injection e with e; exact hne e.symm) (.int .i64 1)
          have x2 := owns_put x1 i (by rw [intsOf_length]; exact HI.out) (.int .i64 (y - 1))
          rw [intsOf_set] at x2
          rw [List.length_set]
          exact x2
end Go.Proofs.Ytmijbplhmjledaa
