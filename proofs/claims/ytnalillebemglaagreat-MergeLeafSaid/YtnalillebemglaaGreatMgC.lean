/-
  The runs of a merger: Push, heap.Push, Pop, heap.Pop, heap.Fix.
-/
import Derived.Test.YtnalillebemglaaGreatMgB
namespace Go.Proofs.YtnalillebemglaaGreat
open Go.RowKit Go.Sort
set_option linter.unusedVariables false
set_option linter.unusedSimpArgs false
set_option maxRecDepth 20000

theorem info_rn : (Tryz.prog.info? 102).map (fun i => (i.zero, i.size, i.bytes)) = some (some (.agg #[.int .i64 0, .slice none 0 0]), 2, 32) := by kernel_rfl
theorem assert_rn (x : Int) (a : Option Addr) (n c : Nat) (u : World) : (Instr.typeAssert (.iface 102 (.agg #[.int .i64 x, .slice a n c])) 20 102 false).run Tryz.prog u = .ok (.agg #[.int .i64 x, .slice a n c]) u := by kernel_rfl
/-- The blocks of a merger whose heap is v. -/
def ownF (p : Nat) (v : Value) : Nat → Prop := fun k => k = p ∨ v.ownBlock = some k
def QhAt (w : World) (p : Nat) (v lv : Value) (es : List Ent) : Prop := w.heap[p]? = some (.cells #[v, lv] 66 (0, 0)) ∧ w.ownsRow 0 102 2 v es.length (ents es) ∧ v.ownBlock ≠ some p ∧ ∀ e ∈ es, EnAt w (ownF p v) e
theorem QpAt.heap {w : World} {p g c : Nat} {lv : Value} {es : List Ent} (h : QpAt w p g c lv es) : QhAt w p (.slice (some ⟨g, 0, none⟩) es.length c) lv es := by
  refine ⟨h.1, h.2.1, fun e => h.2.2.1 (by injection e with e; exact e.symm), fun e he => ?_⟩
  have := h.2.2.2 e he
  have hF : ownF p (.slice (some ⟨g, 0, none⟩) es.length c) = pgF p g := by
    funext k
    unfold ownF pgF
    rw [eq_iff_iff]
    constructor
    · rintro (h | h)
      · exact .inl h
      · injection h with h; exact .inr h.symm
    · rintro (h | h)
      · exact .inl h
      · subst h; exact .inr rfl
  rw [hF]
  exact this
theorem MsgsAt.reF {w w' : World} {F G H : Nat → Prop} {a : Option Addr} {ms : List Mg} (h : MsgsAt w F a ms) (hs : Step G w w') (hG : ∀ k, G k → F k) (hH : ∀ k, k < w.heap.size → ¬ F k → ¬ H k) : MsgsAt w' H a ms := by
  rcases h.step hs hG with h1 | ⟨b, off, h1, h2, h3, h4⟩
  · exact .inl h1
  · rcases h with h | ⟨b', off', k1, k2, k3, k4⟩
    · exact .inl h
    · rw [h1] at k1
      injection k1 with k1
      injection k1 with e1 e2
      subst e1
      exact .inr ⟨b, off, h1, hH b k3 k2, h3, h4⟩
theorem EnAt.reF {w w' : World} {F G H : Nat → Prop} {e : Ent} (h : EnAt w F e) (hs : Step G w w') (hG : ∀ k, G k → F k) (hH : ∀ k, k < w.heap.size → ¬ F k → ¬ H k) : EnAt w' H e := ⟨h.1, h.2.1, h.2.2.reF hs hG hH⟩

set_option maxHeartbeats 2000000 in
theorem qpush_any (w : World) (p : Nat) (v lv : Value) (es : List Ent) (h : QhAt w p v lv es) (hl : es.length ≤ 1000000) (x : Ent) (hx : EnAt w (ownF p v) x) :
    Calls Tryz.prog 142 #[.pointer (some ⟨p, 0, none⟩), .iface 102 (.agg #[.int .i64 x.pl, .slice (some ⟨x.g, x.o, none⟩) x.ms.length x.c])] w fun e w' => e = .returned (.tuple #[]) ∧ Step (ownF p v) w w' ∧ ∃ g c, QpAt w' p g c lv (es ++ [x]) ∧ (v.ownBlock = some g ∨ w.heap.size ≤ g) := by
  obtain ⟨i0, hi, hz0, hz1, hz2⟩ := info_of info_rn
  obtain ⟨hb, ho, hne, hen⟩ := h
  have c5 : w.cell? ⟨p, 0, none⟩ = some v := by rw [cell_of_block hb]; rfl
  obtain ⟨na, nc, rfl⟩ := owns_form ho
  have HX := hid hx
  have HEN := hid hen
  have HXE : Hid (encE x = [Value.int .i64 x.pl, .slice (some ⟨x.g, x.o, none⟩) x.ms.length x.c]) := rfl
  obtain ⟨X, hX⟩ : ∃ X : Int, (x.pl : Int) = X := ⟨_, rfl⟩
  obtain ⟨xn, hxn⟩ : ∃ xn, x.ms.length = xn := ⟨_, rfl⟩
  rw [hX, hxn] at HXE ⊢
  obtain ⟨xg, hxg⟩ : ∃ xg, x.g = xg := ⟨_, rfl⟩
  obtain ⟨xo, hxo⟩ : ∃ xo, x.o = xo := ⟨_, rfl⟩
  obtain ⟨xc, hxc⟩ : ∃ xc, x.c = xc := ⟨_, rfl⟩
  rw [hxg, hxo, hxc] at HXE ⊢
  have hx1 : Hid (∀ u ∈ [Value.int .i64 X, .slice (some ⟨xg, xo, none⟩) xn xc], u.oneCell' = true) := fun u hu => by simp at hu; rcases hu with rfl | rfl <;> rfl
  have hl1 : Hid (es.length + 1 ≤ maxLen) := le_max (by omega)
  have hl2 : Hid ((es.length + 1) * 32 ≤ 140737488355328) := by show _ ≤ _; omega
  have HB := hid hb
  have HO := hid ho
  have HNE := hid hne
  have c5n := fun o => cell_alloc c5 o
  have hta := assert_rn X (some ⟨xg, xo, none⟩) xn xc
  have f5 := frozen_of_block hb 0
  clear hb ho hne hen hx hX hxn hxg hxo hxc
  go_enter Tryz.func142, Tryz.ntmps142
  go_wp2
  go_region_law (refine step_append_own rfl (.tmp 7) (.tmp 10) 64 rfl 102 i0 _ 2 32 Tryz.underlying64 hi hz0 hz1 hz2 rfl (by decide) (.slice na es.length nc) _ _ (by simp [Act.eval]) (by exact HO.out.alloc _) ⟨w.heap.size, 0, none⟩ 1 1 [Value.int .i64 X, .slice (some ⟨xg, xo, none⟩) xn xc] (by simp [Act.eval]) rfl (pair_row _ _ _ _ _ rfl) hx1.out hl1.out hl2.out ?_; intro v' w' ho' hg' hfr; have hb' := grown_block hg' (block_alloc_old HB.out _) (fun e => HNE.out e.symm); have hc' : w'.cell? ⟨p, 0, none⟩ = some (.slice na es.length nc) := (by rw [cell_of_block hb']; rfl); have hf' := frozen_of_block hb' 0; have HB' := hid hb'; clear hb'; obtain ⟨ao, cc, rfl⟩ := owns_form ho')
  all_goals go_wp2
  all_goals go_end0
  all_goals
    have hS : Step (ownF p (.slice na es.length nc)) w (w.drew.alloc (.cells #[.int .i64 X, .slice (some ⟨xg, xo, none⟩) xn xc] 102)) := (Step.refl _ w).drew.alloc _
    have hS2 : Step (ownF p (.slice na es.length nc)) w w' := hS.grown hg' (fun k hk => .inl (.inr hk))
    have hFr : Fresh w (.slice na es.length nc) (.slice ao (es.length + 1) cc) := hfr.imp id (fun e k hk => Nat.le_trans hS.size (e k hk))
    have hvp : (Value.slice ao (es.length + 1) cc).ownBlock ≠ some p := by
      rcases hFr with e | e
      · rw [e]; exact HNE.out
      · intro h; have := e p h; have := lt_of_block HB.out; omega
    have hlen : (es ++ [x]).length = es.length + 1 := by simp
    have hS3 := hS2.setCell (p := ⟨p, 0, none⟩) (.inl (.inl rfl)) (.slice ao (es.length + 1) cc)
    rw [← HXE.out, ← ents_append] at ho'
    obtain ⟨g, rfl⟩ : ∃ g, ao = some ⟨g, 0, none⟩ := by
      rcases ho'.2 with ⟨_, e⟩ | ⟨g, cap, cur, hv, _⟩
      · omega
      · injection hv with hv; exact ⟨g, hv⟩
    have hgk : (Value.slice na es.length nc).ownBlock = some g ∨ w.heap.size ≤ g := by
      rcases hFr with e | e
      · left; rw [← e]; rfl
      · right; exact e g rfl
    refine ⟨rfl, hS3, g, cc, ⟨?_, ?_, fun e => hvp (by rw [e]; rfl), fun e he => ?_⟩, hgk⟩
    · rw [hlen]; exact block_setCell HB'.out 0 _
    · rw [hlen]; exact owns_setCell ho' ⟨p, 0, none⟩ hvp _
    · have hx : EnAt w (ownF p (.slice na es.length nc)) e := by
        rcases List.mem_append.1 he with he | he
        · exact HEN.out e he
        · rw [List.mem_singleton] at he; subst he; exact HX.out
      refine hx.reF hS3 (fun _ x => x) (fun k hk hn => ?_)
      rintro (rfl | rfl)
      · exact hn (.inl rfl)
      · rcases hgk with e | e
        · exact hn (.inr e)
        · omega

set_option maxHeartbeats 2000000 in
/-- heap.Push. -/
theorem qhpush_any (w : World) (p : Nat) (v lv : Value) (es : List Ent) (h : QhAt w p v lv es) (hl : es.length ≤ 900000) (hh : hpN es es.length) (hne : ∀ e ∈ es, e.ms ≠ []) (x : Ent) (hx : EnAt w (ownF p v) x) (hxn : x.ms ≠ []) :
    Calls Tryz.prog 58 #[.iface 100 (.pointer (some ⟨p, 0, none⟩)), .iface 102 (.agg #[.int .i64 x.pl, .slice (some ⟨x.g, x.o, none⟩) x.ms.length x.c])] w fun e w' => e = .returned (.tuple #[]) ∧ Step (ownF p v) w w' ∧ ∃ g c ms, QpAt w' p g c lv ms ∧ (v.ownBlock = some g ∨ w.heap.size ≤ g) ∧ ms.Perm (es ++ [x]) ∧ hpN ms ms.length := by
  have hp := qpush_any w p v lv es h (by omega) x hx
  have hmp := fun fu => qmeth_ptr qrow_push fu w p
  have HH := hid hh
  have hlen : (es ++ [x]).length = es.length + 1 := by simp
  clear h hh
  go_enter Tryz.func58, Tryz.ntmps58
  go_wp2_with fail
  refine hp.mono ?_
  rintro e w1 ⟨rfl, s1, g, c, hnum, hgk⟩
  have hml := fun fu => qmeth_val qrow_len fu w1 p _ hnum.cell
  have cu := qup_any w1 p g c lv (es ++ [x]) hnum es.length (by omega) (by omega) (up_start HH.out x) (fun e he => (List.mem_append.1 he).elim (hne e) (fun h => by rw [List.mem_singleton] at h; rw [h]; exact hxn))
  have cn := qlen_any w1 (some ⟨g, 0, none⟩) (es ++ [x]).length c
  have hi1 : (((es ++ [x]).length : Nat) : Int) - 1 = (es.length : Int) := by omega
  have S1 := hid s1
  have HG := hid hgk
  have hlb : (es ++ [x]).length ≤ 1000000 := by omega
  obtain ⟨M, hM⟩ : ∃ M, (es ++ [x]).length = M := ⟨_, rfl⟩
  rw [hM] at hml cn hi1 hlb
  clear hlen hM hnum s1 hmp hgk
  go_wp2_with fail
  refine cn.mono ?_
  rintro e w2 ⟨rfl, rfl⟩
  go_wp2_with fail
  refine cu.mono ?_
  rintro e w2 ⟨rfl, s2, ms, hn2, hpm, hhp⟩
  have HR := hid (And.intro s2 (And.intro hn2 (And.intro hpm hhp)))
  clear s2 hn2 hpm hhp
  go_wp2_with fail
  go_end0
  refine ⟨rfl, S1.out.then HR.out.1 (fun k hk => ?_), g, c, ms, HR.out.2.1, HG.out, HR.out.2.2.1, HR.out.2.2.2⟩
  rcases hk with hk | hk
  · exact .inl (.inl hk)
  · subst hk
    rcases HG.out with e | e
    · exact .inl (.inr e)
    · exact .inr e

theorem owns_firstQ {w : World} {base : Nat} {e : TypeId} {n g c : Nat} {xs : List Value} (h : w.ownsRow base e 2 (.slice (some ⟨g, 0, none⟩) n c) n xs) (m : Nat) (hm : m ≤ n) : w.ownsRow base e 2 (.slice (some ⟨g, 0, none⟩) m c) m (xs.take (m * 2)) := by
  obtain ⟨h1, h2⟩ := h
  refine ⟨by rw [List.length_take, h1]; omega, ?_⟩
  rcases h2 with ⟨hv, _⟩ | ⟨g', cap, cur, hv, hb, hh, hnc, hcm, hsz, ht⟩
  · injection hv with hv; cases hv
  · injection hv with e1 _ e3
    subst e3
    injection e1 with e1
    injection e1 with e1
    subst e1
    refine .inr ⟨g, c, cur, rfl, hb, hh, by omega, hcm, hsz, ?_⟩
    rw [← ht, List.take_take]
    congr 1
    omega
theorem ents_take (es : List Ent) (m : Nat) : (ents es).take (m * 2) = ents (es.take m) := by
  induction m generalizing es with
  | zero => simp [ents]
  | succ m ih =>
    cases es with
    | nil => simp [ents]
    | cons x xs =>
      rw [show (m + 1) * 2 = m * 2 + 1 + 1 by omega]
      show _ :: _ :: (ents xs).take (m * 2) = _
      rw [ih]
      rfl
theorem atE_take {es : List Ent} {m k : Nat} (hk : k < m) : atE (es.take m) k = atE es k := by
  unfold atE
  rw [List.getD_eq_getElem?_getD, List.getD_eq_getElem?_getD, List.getElem?_take, if_pos hk]
theorem take_lastE {es : List Ent} {m : Nat} (h : es.length = m + 1) : es = es.take m ++ [atE es m] := by
  conv => lhs; rw [← List.take_append_drop m es]
  congr 1
  rw [List.drop_eq_getElem_cons (by omega), List.drop_of_length_le (by omega), atE_lt (by omega)]

set_option maxHeartbeats 2000000 in
theorem qpop_any (w : World) (p g c : Nat) (lv : Value) (es : List Ent) (m : Nat) (h : QpAt w p g c lv es) (hl : es.length = m + 1) (hm : m ≤ 1000000) :
    Calls Tryz.prog 141 #[.pointer (some ⟨p, 0, none⟩)] w fun e w' => (∃ v, e = .returned v) ∧ Step (pgF p g) w w' ∧ QpAt w' p g c lv (es.take m) := by
  have c5 := h.cell
  have f5 := frozen_of_block h.1 0
  have hhp := lt_of_block h.1
  obtain ⟨ci, di⟩ := h.row.1.ent m (by omega)
  have hc := h.row.2
  obtain ⟨P, hP⟩ : ∃ P : Int, ((atE es m).pl : Int) = P := ⟨_, rfl⟩
  obtain ⟨A, hA⟩ : ∃ A : Option Addr, some ⟨(atE es m).g, (atE es m).o, none⟩ = A := ⟨_, rfl⟩
  obtain ⟨L, hL⟩ : ∃ L, (atE es m).ms.length = L := ⟨_, rfl⟩
  obtain ⟨C, hC⟩ : ∃ C, (atE es m).c = C := ⟨_, rfl⟩
  rw [hP] at ci
  rw [hA, hL, hC] at di
  rw [hl] at c5 hc
  have ea : ∀ o, (w.alloc o).cell? ⟨p, 0, none⟩ = some (.slice (some ⟨g, 0, none⟩) (m + 1) c) := fun o => cell_alloc c5 o
  have eb : ∀ o, (w.alloc o).frozen? ⟨p, 0, none⟩ = false := fun o => (((Step.refl noF w).alloc o).frozen (p := ⟨p, 0, none⟩) (fun x => x) hhp).trans f5
  have HH := hid h
  have HL := hid hl
  have HC := hid hc
  clear h hl hP hA hL hC
  go_enter Tryz.func141, Tryz.ntmps141
  go_wp2
  go_ret

  have hb2 : ∀ o, ((w.setCell ⟨p, 0, none⟩ (.slice (some ⟨g, 0, none⟩) m c)).alloc o).heap[p]? = some (.cells #[.slice (some ⟨g, 0, none⟩) m c, lv] 66 (0, 0)) := fun o => block_alloc_old (block_setCell HH.out.1 0 _) o
  have hS : ∀ o, Step (oneF p) w ((w.setCell ⟨p, 0, none⟩ (.slice (some ⟨g, 0, none⟩) m c)).alloc o) := fun o => ((Step.refl (oneF p) w).setCell (p := ⟨p, 0, none⟩) (.inl (show oneF p p from rfl)) _).alloc _
  have hlt : (es.take m).length = m := by rw [List.length_take, HL.out]; omega
  have ho := HH.out.2.1
  rw [HL.out] at ho
  refine ⟨⟨_, rfl⟩, (hS _).mono (fun k hk => .inl (.inl hk)), ?_⟩
  refine ⟨by rw [hlt]; exact hb2 _, ?_, HH.out.2.2.1, fun e he => (HH.out.2.2.2 e (List.mem_of_mem_take he)).step (hS _) (fun k hk => .inl hk)⟩
  rw [hlt]
  have h2 := owns_firstQ (owns_step ho (hS (.cells #[.int .i64 P, .slice A L C] 102)) (fun k hk e => by
    injection hk with hk
    subst hk
    exact HH.out.2.2.1 e.symm)) m (by omega)
  rw [ents_take] at h2
  exact h2

set_option maxHeartbeats 2000000 in
/-- heap.Pop: the head goes. -/
theorem qhpop_any (w : World) (p g c : Nat) (lv : Value) (es : List Ent) (m : Nat) (h : QpAt w p g c lv es) (hl : es.length = m + 1) (hm : m ≤ 900000) (hh : dnE es 0 es.length) (hne : ∀ q, 0 < q → q < es.length → (atE es q).ms ≠ []) :
    Calls Tryz.prog 60 #[.iface 100 (.pointer (some ⟨p, 0, none⟩))] w fun e w' => (∃ v, e = .returned v) ∧ Step (pgF p g) w w' ∧ ∃ qs, QpAt w' p g c lv qs ∧ es.Perm (qs ++ [atE es 0]) ∧ hpN qs qs.length := by
  have hml := fun fu => qmeth_val qrow_len fu w p _ h.cell
  have cn := qlen_any w (some ⟨g, 0, none⟩) es.length c
  have hms := fun fu => qmeth_val qrow_swap fu w p _ h.cell
  have cs := qswap_any w p g c lv es h 0 m (by omega) (by omega)
  rw [hl] at hml cn hms cs
  have HL := hid hl
  have HH := hid hh
  have HNN := hid hne
  clear h hl hh hne
  go_enter Tryz.func60, Tryz.ntmps60
  go_wp2_with fail
  refine cn.mono ?_
  rintro e w1 ⟨rfl, rfl⟩
  go_wp2_with fail
  refine cs.mono ?_
  rintro e w1 ⟨rfl, s1, h1⟩
  have S1 := hid s1
  have hsl : (swapE es 0 m).length = m + 1 := by rw [swapE_len]; exact HL.out
  have hsa : ∀ k, 0 < k → k < m → atE (swapE es 0 m) k = atE es k := fun k k0 hk => by
    rw [swapE_at (by rw [HL.out]; omega) (by rw [HL.out]; omega), if_neg (by omega), if_neg (by omega)]
  have hd : dnE (swapE es 0 m) 0 m := by
    refine ⟨fun k k0 hk hne => ?_, fun h0 => absurd h0 (by omega)⟩
    rw [hsa _ (by omega) (by omega), hsa k k0 hk]
    exact HH.out.1 k k0 (by rw [HL.out]; omega) hne
  have hnn : ∀ q, q < m → (atE (swapE es 0 m) q).ms ≠ [] := fun q hq => by
    by_cases q0 : q = 0
    · subst q0
      rw [swapE_at (by rw [HL.out]; omega) (by rw [HL.out]; omega), if_neg (by omega), if_pos rfl]
      exact HNN.out m (by omega) (by rw [HL.out]; omega)
    · rw [hsa q (by omega) hq]
      exact HNN.out q (by omega) (by rw [HL.out]; omega)
  have cd := qdown_any w1 p g c lv (swapE es 0 m) h1 m hd hnn (by omega) (by omega)
  clear hsa hnn
  clear s1 h1 hsl hd
  go_wp2_with fail
  refine cd.mono ?_
  rintro e w2 ⟨b, rfl, s2, ms, h2, hpm, htl, hhn⟩
  have hmpop := fun fu => qmeth_ptr qrow_pop fu w2 p
  have hlm : ms.length = m + 1 := by rw [hpm.length_eq, swapE_len, HL.out]
  have HX := hid (show atE ms m = atE es 0 by rw [htl m (Nat.le_refl _), swapE_at (by rw [HL.out]; omega) (by rw [HL.out]; omega), if_pos rfl])
  have cp := qpop_any w2 p g c lv ms m h2 hlm (by omega)
  have HM := hid (And.intro hpm (And.intro hlm hhn))
  have S2 := hid (S1.out.trans s2)
  clear s2 hpm htl hlm h2 cd hhn
  go_wp2_with fail
  refine cp.mono ?_
  rintro e w3 ⟨⟨v, rfl⟩, s3, h3⟩
  have S3 := hid s3
  have H3 := hid h3
  clear s3 h3
  go_wp2_with fail
  go_ret
  obtain ⟨hpm, hlm, hhn⟩ := HM.out
  refine ⟨⟨_, rfl⟩, S2.out.trans S3.out, ms.take m, H3.out, ?_, ?_⟩
  · rw [← HX.out, ← take_lastE hlm]
    exact (hpm.trans (swapE_perm (by rw [HL.out]; omega) (by rw [HL.out]; omega))).symm
  · rw [List.length_take, hlm, Nat.min_eq_left (by omega)]
    intro k k0 hk
    rw [atE_take (by omega), atE_take hk]
    exact hhn k k0 hk

set_option maxHeartbeats 2000000 in
/-- heap.Fix, at the head. -/
theorem qhfix_any (w : World) (p g c : Nat) (lv : Value) (es : List Ent) (h : QpAt w p g c lv es) (h0 : 0 < es.length) (hl : es.length ≤ 1000000) (hd : dnE es 0 es.length) (hne : ∀ e ∈ es, e.ms ≠ []) :
    Calls Tryz.prog 61 #[.iface 100 (.pointer (some ⟨p, 0, none⟩)), .int .i64 0] w fun e w' => e = .returned (.tuple #[]) ∧ Step (pgF p g) w w' ∧ ∃ ms, QpAt w' p g c lv ms ∧ ms.Perm es ∧ hpN ms ms.length := by
  have hml := fun fu => qmeth_val qrow_len fu w p _ h.cell
  have cn := qlen_any w (some ⟨g, 0, none⟩) es.length c
  have cd := qdown_any w p g c lv es h es.length hd (fun q hq => hne _ (atE_mem hq)) (Nat.le_refl _) hl
  have HL := hid (And.intro h0 hl)
  have HNE := hid hne
  obtain ⟨M, hM⟩ : ∃ M, es.length = M := ⟨_, rfl⟩
  have HM := hid hM
  rw [hM] at hml cn cd
  clear h hd h0 hl hM hne
  go_enter Tryz.func61, Tryz.ntmps61
  go_wp2_with fail
  refine cn.mono ?_
  rintro e w1 ⟨rfl, rfl⟩
  go_wp2_with fail
  refine cd.mono ?_
  rintro e w2 ⟨b, rfl, s2, ms, h2, hpm, _, hhn⟩
  have hlm : ms.length = M := hpm.length_eq.trans HM.out
  rw [← hlm] at hhn
  have cu := qup_any w2 p g c lv ms h2 0 (by have := HL.out; have := HM.out; omega) (by have := HL.out; have := HM.out; omega) (up_zero hhn) (fun e he => HNE.out e (hpm.mem_iff.1 he))
  have HR := hid (And.intro s2 (And.intro h2 (And.intro hpm hhn)))
  clear s2 h2 hpm hhn hlm
  cases b
  · go_wp2_with fail
    refine cu.mono ?_
    rintro e w3 ⟨rfl, s3, ns, h3, hp3, hh3⟩
    have HR3 := hid (And.intro s3 (And.intro h3 (And.intro hp3 hh3)))
    clear s3 h3 hp3 hh3
    go_wp2_with fail
    go_end0
    exact ⟨rfl, HR.out.1.trans HR3.out.1, ns, HR3.out.2.1, HR3.out.2.2.1.trans HR.out.2.2.1, HR3.out.2.2.2⟩
  · go_wp2_with fail
    go_end0
    exact ⟨rfl, HR.out.1, ms, HR.out.2.1, HR.out.2.2.1, HR.out.2.2.2⟩
end Go.Proofs.YtnalillebemglaaGreat
