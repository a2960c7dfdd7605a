/-
  The document's pool: Left, and how it turns.
-/
import Derived.Test.YtmijbplhmjledaaTkRLeftR
namespace Go.Proofs.Ytmijbplhmjledaa
open Go.RowKit
set_option linter.unusedVariables false
set_option linter.unusedSimpArgs false

/-- The document's pool of the same blocks and tickets. -/
def Rf (w : World) (u : Nat) (G : Nat → Prop) (t : Tk) : Prop := IsRf w u G (kindsL t.l t.d) t.hs t.r
theorem Rf.step {w w' : World} {u : Nat} {G : Nat → Prop} {t : Tk} (h : Rf w u G t) (s : Step noF w w') : Rf w' u G t := IsRf.step h s
theorem Rf.keep {w w' : World} {u : Nat} {F G : Nat → Prop} {t : Tk} (h : Rf w u G t) (s : Step F w w') (hd : ∀ k, G k → ¬ F k) : Rf w' u G t := IsRf.keep h s hd
theorem Rf.grew {w w' : World} {u : Nat} {G : Nat → Prop} {t : Tk} (h : Rf w u G t) (s : Step noF w w') : Rf w' u (Grew G w w') t := IsRf.mono (IsRf.step h s) (fun k hk => .inl hk) (grew_lt h.1 s.size)
theorem rf_same {w w' : World} {u : Nat} {G : Nat → Prop} {t : Tk} (h : Rf w u G t) (s : Step noF w w') : Step G w w' ∧ Rf w' u (Grew G w w') t := ⟨step_noF s, h.grew s⟩
theorem rf_after {w w1 w2 : World} {u : Nat} {G : Nat → Prop} {t : Tk} (hG : ∀ k, G k → k < w.heap.size) (s1 : Step noF w w1) (h : Step G w1 w2 ∧ Rf w2 u (Grew G w1 w2) t) : Step G w w2 ∧ Rf w2 u (Grew G w w2) t := by
  refine ⟨(step_noF s1).trans h.1, IsRf.mono h.2 (fun k hk => ?_) (grew_lt hG (Nat.le_trans s1.size h.1.size))⟩
  rcases hk with hk | hk
  · exact .inl hk
  · exact .inr ⟨Nat.le_trans s1.size hk.1, hk.2⟩
/-- What the blocks are has turned. -/
theorem IsRf.newIs {w w' : World} {u : Nat} {G : Nat → Prop} {is sz is' : List Int} {r : Int} {iv sv iv' : Value} (hG : ∀ k, G k → k < w.heap.size) (h1 : w.heap[u]? = some (.cells #[iv, sv, .int .i64 r] 35 (0, 0))) (h2 : w.ownsRow 0 3 1 iv is.length (intsOf is)) (h3 : w.ownsRow 0 3 1 sv sz.length (intsOf sz)) (g1 : G u) (g2 : ∀ k, iv.ownBlock = some k → G k) (g3 : ∀ k, sv.ownBlock = some k → G k) (g4 : ∀ k, iv.ownBlock = some k → sv.ownBlock ≠ some k)
    (s : Step (pvF u iv) w w') (hb : w'.heap[u]? = some (.cells #[iv', sv, .int .i64 r] 35 (0, 0))) (ho : w'.ownsRow 0 3 1 iv' is'.length (intsOf is')) (hfr : Fresh w iv iv') :
    Step G w w' ∧ IsRf w' u (Grew G w w') is' sz r := by
  have hne : ∀ k, sv.ownBlock = some k → k ≠ u := fun k hk => by
    obtain ⟨A, hA⟩ := owns_block h3 k hk
    exact ne_of_types hA h1 (by decide)
  refine ⟨s.mono (fun k hk => ?_), grew_lt hG s.size, iv', sv, hb, ho, owns_step h3 s (fun k hk e => ?_), .inl g1, fun k hk => ?_, fun k hk => .inl (g3 k hk), fun k hk hk2 => ?_⟩
  · rcases hk with rfl | hk
    · exact .inl g1
    · exact .inl (g2 k hk)
  · rcases e with e | e
    · exact hne k hk e
    · exact g4 k e hk
  · rcases hfr with e | e
    · rw [e] at hk; exact .inl (g2 k hk)
    · exact .inr ⟨e k hk, (ho.lt k hk).2⟩
  · rcases hfr with e | e
    · rw [e] at hk; exact g4 k hk hk2
    · have := e k hk
      have := (h3.lt k hk2).2
      omega
/-- What the tickets have has turned. -/
theorem IsRf.newSz {w w' : World} {u : Nat} {G : Nat → Prop} {is sz sz' : List Int} {r : Int} {iv sv sv' : Value} (hG : ∀ k, G k → k < w.heap.size) (h1 : w.heap[u]? = some (.cells #[iv, sv, .int .i64 r] 35 (0, 0))) (h2 : w.ownsRow 0 3 1 iv is.length (intsOf is)) (h3 : w.ownsRow 0 3 1 sv sz.length (intsOf sz)) (g1 : G u) (g2 : ∀ k, iv.ownBlock = some k → G k) (g3 : ∀ k, sv.ownBlock = some k → G k) (g4 : ∀ k, iv.ownBlock = some k → sv.ownBlock ≠ some k)
    (s : Step (pvF u sv) w w') (hb : w'.heap[u]? = some (.cells #[iv, sv', .int .i64 r] 35 (0, 0))) (ho : w'.ownsRow 0 3 1 sv' sz'.length (intsOf sz')) (hfr : Fresh w sv sv') :
    Step G w w' ∧ IsRf w' u (Grew G w w') is sz' r := by
  have hne : ∀ k, iv.ownBlock = some k → k ≠ u := fun k hk => by
    obtain ⟨A, hA⟩ := owns_block h2 k hk
    exact ne_of_types hA h1 (by decide)
  refine ⟨s.mono (fun k hk => ?_), grew_lt hG s.size, iv, sv', hb, owns_step h2 s (fun k hk e => ?_), ho, .inl g1, fun k hk => .inl (g2 k hk), fun k hk => ?_, fun k hk hk2 => ?_⟩
  · rcases hk with rfl | hk
    · exact .inl g1
    · exact .inl (g3 k hk)
  · rcases e with e | e
    · exact hne k hk e
    · exact g4 k hk e
  · rcases hfr with e | e
    · rw [e] at hk; exact .inl (g3 k hk)
    · exact .inr ⟨e k hk, (ho.lt k hk).2⟩
  · rcases hfr with e | e
    · rw [e] at hk2; exact g4 k hk hk2
    · have := e k hk2
      have := (h2.lt k hk).2
      omega

set_option maxHeartbeats 400000 in
theorem rleft_any (w : World) (u : Nat) (G : Nat → Prop) (t : Tk) (hw : Wf t) (h : Rf w u G t) (hl : t.hs.length ≤ 700000) (L : Int) (hL : leftT t = L) : Calls Try.prog 19 #[.pointer (some ⟨u, 0, none⟩)] w fun e w' => e = .returned (.int .i64 L) ∧ Step noF w w' := by
  subst hL
  obtain ⟨b1, b2, b3, b4, b5, b6⟩ := hw.held
  have hr0 := hw.r0
  have hcnt := hw.count
  have HP := hid h
  unfold leftT
  obtain ⟨fr, hfr⟩ : ∃ fr, freeL t.l = fr := ⟨_, rfl⟩
  obtain ⟨hd, hhd⟩ : ∃ hd, heldL t.hs = hd := ⟨_, rfl⟩
  obtain ⟨r, hrr⟩ : ∃ r, t.r = r := ⟨_, rfl⟩
  have hn2 := hw.n2
  have HW : Hid (∀ w', Step noF w w' → (w'.cell? ⟨u, 2, none⟩ = some (.int .i64 r)) ∧ (Calls Try.prog 15 #[.pointer (some ⟨u, 0, none⟩), .int .i64 3] w' fun e w'' => e = .returned (.int .i64 fr) ∧ Step noF w' w'') ∧ (Calls Try.prog 17 #[.pointer (some ⟨u, 0, none⟩)] w' fun e w'' => e = .returned (.int .i64 hd) ∧ Step noF w' w'')) := fun w' hs => by
    have h' := HP.out.step hs
    obtain ⟨_, iv, sv, h1, _⟩ := id h'
    refine ⟨by rw [← hrr]; exact (cells3 h1).2.2, ?_, rheld_any w' u G _ _ _ h' (by omega) (by omega) hd hhd⟩
    have := rcount_any w' u G _ _ _ h' (by rw [kindsL_len]; omega) 3
    rw [hcnt, hfr] at this
    exact this
  rw [hfr, hhd, hrr]
  rw [hfr] at b4 b5
  rw [hhd] at b1 b2
  rw [hrr] at b3 hr0
  have w1 : Hid (wrap64 (fr - hd) = fr - hd) := by show _ = _; unfold wrap64; omega
  have w2 : Hid (wrap64 (fr - hd - r) = fr - hd - r) := by show _ = _; unfold wrap64; omega
  have w3 : Hid (IntKind.i64.wrap (fr - hd) = fr - hd) := by show _ = _; simp [IntKind.wrap, IntKind.bits, IntKind.signed]; omega
  have w4 : Hid (IntKind.i64.wrap (fr - hd - r) = fr - hd - r) := by show _ = _; simp [IntKind.wrap, IntKind.bits, IntKind.signed]; omega
  clear hfr hhd hrr b1 b2 b3 b4 b5 b6 hr0 hcnt h hn2
  go_enter Try.func19, Try.ntmps19
  go_wp2_with fail
  change Code.wp _ (Code.region 1 ((Try.f19.body.bind (regionOps 1)).getD #[]) true) _ _ _
  refine rlr_go u fr hd r w1.out w2.out w3.out w4.out _ w rfl rfl HW.out ?_
  intro v hv
  simp only [Exit.then]
  refine ‹∀ (a : Act) (w : World), Code.wp _ Code.ret _ a w → _› _ v ?_
  refine wp_ret ?_
  change bodyPost Try.prog Try.f19 _ Exit.ret _ v
  refine bodyPost_ret (v := .int .i64 (fr - hd - r)) ((results_tmp rfl _ _ _).trans ?_) ((putAll_size rlrDl _ _).2.trans rfl) ⟨rfl, hv⟩
  rw [putAll_at rlrDl (rlrVals u fr hd r) _ 10 2 (.int .i64 (fr - hd - r)) rlr_nd rfl rfl ?_]
  exact (show 2 < 13 by decide)

set_option maxHeartbeats 2000000 in
theorem rhold_any (w : World) (u : Nat) (G : Nat → Prop) (t : Tk) (hw : Wf t) (h : Rf w u G t) (hl : t.hs.length ≤ 700000) (n : Int) (I E : Int) (t' : Tk) (e1 : holdI t n = I) (e2 : holdE t n = E) (e3 : holdT t n = t') :
    Calls Try.prog 34 #[.pointer (some ⟨u, 0, none⟩), .int .i64 n] w fun e w' => e = .returned (.tuple #[.int .i64 I, .int .i64 E]) ∧ Step G w w' ∧ Rf w' u (Grew G w w') t' := by
  subst e1 e2 e3
  have HP := hid h
  by_cases k1 : n < 0
  · have hE := hid (hold_bad (t := t) (n := n) (e := 1) (by rw [holdE, if_pos k1]) (by decide))
    clear h
    go_enter Try.func34, Try.ntmps34
    go_wp2
    go_ret2
    obtain ⟨e1, e2, e3⟩ := hE.out
    rw [e1, e2, e3]
    exact ⟨rfl, rf_same HP.out (Step.refl _ _)⟩
  · obtain ⟨L, hL⟩ : ∃ L, leftT t = L := ⟨_, rfl⟩
    have cl := rleft_any w u G t hw h hl L hL
    by_cases k2 : L < n
    · have hE := hid (hold_bad (t := t) (n := n) (e := 9) (by rw [holdE, if_neg k1, hL, if_pos k2]) (by decide))
      clear h hL
      go_enter Try.func34, Try.ntmps34
      go_wp2_with fail
      refine cl.mono ?_
      rintro e w1 ⟨rfl, s1⟩
      go_wp2_with fail
      go_ret2
      obtain ⟨e1, e2, e3⟩ := hE.out
      rw [e1, e2, e3]
      exact ⟨rfl, rf_same HP.out s1⟩
    · have hE := hid (hold_ok (t := t) (n := n) (by omega) (by omega))
      have hHm := hid hw.hm
      clear h hL
      obtain ⟨i0, hi, hz0, hz1, hz2⟩ := info_three info_int
      have hone : Hid (∀ u ∈ [Value.int .i64 n], u.oneCell' = true) := fun u hu => by simp at hu; rw [hu]; rfl
      have hmx : Hid (t.hs.length + 1 ≤ maxLen) := le_max (by omega)
      have hmb : Hid ((t.hs.length + 1) * 8 ≤ 140737488355328) := by show _ ≤ _; omega
      go_enter Try.func34, Try.ntmps34
      go_wp2_with fail
      refine cl.mono ?_
      rintro e w1 ⟨rfl, s1⟩
      have h1 := HP.out.step s1
      have HG1 := hid h1.1
      obtain ⟨ia, ic, sa, sc, hb, ho, hs, g1, g2, g3, g4⟩ := IsRf.len h1
      have HB := hid hb
      have HO := hid ho
      have HS := hid hs
      have HGG := hid (And.intro g1 (And.intro g2 (And.intro g3 g4)))
      have HNE : Hid (some u ≠ (Value.slice sa t.hs.length sc).ownBlock) := fun e => by
        obtain ⟨A, hA⟩ := owns_block hs u e.symm
        exact ne_of_types hA hb (by decide) rfl
      obtain ⟨_, c1, _⟩ := cells3 hb
      have f1 := frozen_of_block hb 1
      clear h1 hb ho hs g1 g2 g3 g4
      go_wp2_with fail
      go_loopw [6] (fun i wr => ∃ j : Nat, j ≤ t.hs.length ∧ i = .int .i64 j ∧ Hid (j ≤ firstG t.hs) ∧ wr = w1) (fun i _ => t.hs.length - (intOf i).toNat)
      case atStart => exact ⟨0, Nat.zero_le _, rfl, Nat.zero_le _, rfl⟩
      case round =>
        obtain ⟨j, hj, rfl, hjf, rfl⟩ := hrel
        by_cases hjn : j < t.hs.length
        · have hji : (j : Int) < (t.hs.length : Int) := by omega
          have HJN := hid hjn
          obtain ⟨g, c', he, hcl, hc, hfz⟩ := owns_cell HS.out j hjn
          injection he with he1 he2 he3
          subst he1 he3
          obtain ⟨y, hy⟩ : ∃ y, t.hs.getD j 0 = y := ⟨_, rfl⟩
          rw [hy] at hc
          by_cases hy0 : y < 0
          · have hF : Hid (firstG t.hs = j) := by
              show _ = _
              exact firstG_eq hjn (by rw [hy]; exact hy0) (fun k hk => firstG_lt (by have := hjf.out; omega))
            have hgu : ¬ g = u := fun e => HNE.out (by rw [← e]; rfl)
            go_wp2_with fail
            go_ret2
            obtain ⟨e1, e2, e3⟩ := hE.out
            rw [e1, e2, e3, hF.out]
            obtain ⟨q1, q2, q3, q4⟩ := HGG.out
            have sS : Step (pvF u (.slice (some ⟨g, 0, none⟩) t.hs.length sc)) wr (wr.setCell ⟨g, j, none⟩ (.int .i64 n)) := (Step.refl _ _).setCell (p := ⟨g, j, none⟩) (.inl (.inr rfl)) _
            have x := IsRf.newSz (sz' := t.hs.set j n) HG1.out HB.out HO.out HS.out q1 q2 q3 q4 sS (heap_other HB.out (fun e => hgu e.symm)) (by
              rw [List.length_set, ← intsOf_set]
              exact owns_put HS.out j (by rw [intsOf_length]; exact HJN.out) _) (.inl rfl)
            refine ⟨rfl, rf_after HP.out.1 s1 ⟨x.1, ?_⟩⟩
            unfold Rf
            simp only
            rw [holdL, if_pos (by rw [hF.out]; exact HJN.out), hF.out]
            exact x.2
          · go_wp2_with fail
            go_roundw
            case rel =>
              refine ⟨j + 1, by omega, int_eq (by omega), ?_, (by first | trivial | rfl)⟩
              show _ ≤ _
              rcases Nat.lt_or_ge j (firstG t.hs) with h | h
              · omega
              · have e : firstG t.hs = j := by have := hjf.out; omega
                have := firstG_at (hs := t.hs) (by omega)
                rw [e, hy] at this
                omega
            case measure => simp [intOf]; omega
        · obtain rfl : j = t.hs.length := by omega
          have hF : Hid (firstG t.hs = t.hs.length) := by
            show _ = _
            have := firstG_le t.hs
            have := hjf.out
            omega
          go_wp2_with (at_builtin; refine wpList_append_fresh rfl (.tmp 43) (.tmp 45) 30 rfl 3 i0 _ 1 8 Try.underlying30 hi hz0 hz1 hz2 rfl (by decide) _ _ _ (by simp [Act.eval]; rfl) (by exact HS.out.alloc _) ⟨wr.heap.size, 0, none⟩ 1 1 [.int .i64 n] (by simp [Act.eval]) rfl (cell_one_new _ _ _) hone.out hmx.out hmb.out ?_; intro v' w' ho' hg' hfr'; have hb' := grown_block hg' (block_alloc_old HB.out _) HNE.out; obtain ⟨_, hc', _⟩ := cells3 hb'; have hf' := frozen_of_block hb' 1; have HB' := hid hb'; clear hb'; obtain ⟨ao, cc, rfl⟩ := owns_form ho')
          go_ret2
          obtain ⟨e1, e2, e3⟩ := hE.out
          rw [e1, e2, e3, hF.out]
          obtain ⟨q1, q2, q3, q4⟩ := HGG.out
          have sA : Step (pvF u (.slice sa t.hs.length sc)) wr (wr.alloc (.cells #[.int .i64 n] 3)) := (Step.refl _ _).alloc _
          have sB := sA.grown hg' (fun k hk => .inl (.inr hk))
          have hFr : Fresh wr (.slice sa t.hs.length sc) (.slice ao (t.hs.length + 1) cc) := hfr'.imp id (fun e k hk => Nat.le_trans sA.size (e k hk))
          have sC := sB.setCell (p := ⟨u, 1, none⟩) (.inl (.inl rfl)) (.slice ao (t.hs.length + 1) cc)
          have x := IsRf.newSz (sz' := t.hs ++ [n]) HG1.out HB.out HO.out HS.out q1 q2 q3 q4 sC (block_setCell HB'.out 1 _) (by
            rw [show (t.hs ++ [n]).length = t.hs.length + 1 by simp, intsOf_append]
            exact owns_setCell ho' ⟨u, 1, none⟩ (fun e => by
              rcases hFr with z | z
              · rw [z] at e; exact HNE.out e.symm
              · have := z u e; have := lt_of_block HB.out; omega) _) hFr
          refine ⟨ret_two rfl rfl, rf_after HP.out.1 s1 ⟨x.1, ?_⟩⟩
          unfold Rf
          simp only
          rw [holdL, if_neg (by rw [hF.out]; omega)]
          exact x.2
end Go.Proofs.Ytmijbplhmjledaa
