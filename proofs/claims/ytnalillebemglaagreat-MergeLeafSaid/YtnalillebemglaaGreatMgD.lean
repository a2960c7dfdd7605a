/-
  A merger in memory: take.
-/
import Derived.Test.YtnalillebemglaaGreatMgC
namespace Go.Proofs.YtnalillebemglaaGreat
open Go.RowKit Go.Sort
set_option linter.unusedVariables false
set_option linter.unusedSimpArgs false
set_option maxRecDepth 20000

theorem ownF_eq (p g n c : Nat) : ownF p (.slice (some ⟨g, 0, none⟩) n c) = pgF p g := by
  funext k
  unfold ownF pgF
  rw [eq_iff_iff]
  constructor
  · rintro (h | h)
    · exact .inl h
    · injection h with h; exact .inr h.symm
  · rintro (h | h)
    · exact .inl h
    · subst h; exact .inr rfl
theorem QhAt.parts {w : World} {p : Nat} {v lv : Value} {es : List Ent} (h : QhAt w p v lv es) (h0 : 0 < es.length) : ∃ g c, v = .slice (some ⟨g, 0, none⟩) es.length c ∧ QpAt w p g c lv es := by
  obtain ⟨h1, h2, h3, h4⟩ := h
  rcases h2.2 with ⟨_, e⟩ | ⟨g, cap, cur, rfl, _⟩
  · omega
  · rw [ownF_eq] at h4
    exact ⟨g, cap, rfl, h1, h2, fun e => h3 (by rw [e]; rfl), h4⟩
theorem QhAt.step {w w' : World} {p : Nat} {v lv : Value} {es : List Ent} (h : QhAt w p v lv es) (hs : Step noF w w') : QhAt w' p v lv es := ⟨(hs.block p (lt_of_block h.1) (fun x => x)).trans h.1, owns_step h.2.1 hs (fun _ _ x => x), h.2.2.1, fun e he => (h.2.2.2 e he).step hs (fun _ x => x.elim)⟩
/-- A merger in block p: its blocks are of F, all of them and its messages' lie below b; these messages are left. -/
def MerAt (w : World) (F : Nat → Prop) (b : Nat) (p : Nat) (rs : List (List Mg)) : Prop := ∃ v es, QhAt w p v (.int .i64 (leftR rs)) es ∧ hpN es es.length ∧ Holds rs es ∧ es.length ≤ rs.length ∧ (∀ k, ownF p v k → F k) ∧ (∀ k, F k → k < b) ∧ b ≤ w.heap.size ∧ ∀ e ∈ es, EnAt w (fun k => ownF p v k ∨ b ≤ k) e
theorem EnAt.less {w : World} {F G : Nat → Prop} {e : Ent} (h : EnAt w F e) (hG : ∀ k, G k → F k) : EnAt w G e := ⟨h.1, h.2.1, by
  rcases h.2.2 with h | ⟨g, o, h1, h2, h3⟩
  · exact .inl h
  · exact .inr ⟨g, o, h1, fun h => h2 (hG _ h), h3⟩⟩
theorem EnAt.more {w : World} {F : Nat → Prop} {e : Ent} (h : EnAt w F e) : EnAt w (fun k => F k ∨ w.heap.size ≤ k) e := ⟨h.1, h.2.1, by
  rcases h.2.2 with h | ⟨g, o, h1, h2, h3, h4⟩
  · exact .inl h
  · exact .inr ⟨g, o, h1, fun h => by rcases h with h | h; exact h2 h; omega, h3, h4⟩⟩
theorem MerAt.keep {w w' : World} {F G : Nat → Prop} {b p : Nat} {rs : List (List Mg)} (h : MerAt w F b p rs) (hs : Step G w w') (hG : ∀ k, G k → b ≤ k) : MerAt w' F b p rs := by
  obtain ⟨v, es, h1, h2, h3, h4, h5, h6, h7, h8⟩ := h
  have hb : ∀ k, ownF p v k → ¬ G k := fun k hk hg => by
    have := h6 k (h5 k hk)
    have := hG k hg
    omega
  have h8' : ∀ e ∈ es, EnAt w' (fun k => ownF p v k ∨ b ≤ k) e := fun e he => (h8 e he).step hs (fun k hk => .inr (hG k hk))
  refine ⟨v, es, ⟨(hs.block p (lt_of_block h1.1) (hb p (.inl rfl))).trans h1.1, owns_step h1.2.1 hs (fun k hk => hb k (.inr hk)), h1.2.2.1, fun e he => (h8' e he).less (fun k hk => .inl hk)⟩, h2, h3, h4, h5, h6, Nat.le_trans h7 hs.size, h8'⟩
theorem MerAt.step {w w' : World} {F : Nat → Prop} {b p : Nat} {rs : List (List Mg)} (h : MerAt w F b p rs) (hs : Step noF w w') : MerAt w' F b p rs := h.keep hs (fun _ x => x.elim)
theorem MerAt.left {w : World} {F : Nat → Prop} {b p : Nat} {rs : List (List Mg)} (h : MerAt w F b p rs) : w.cell? ⟨p, 1, none⟩ = some (.int .i64 (leftR rs)) := by
  obtain ⟨v, es, h1, _⟩ := h
  rw [cell_of_block h1.1]; rfl
theorem MerAt.low {w : World} {F : Nat → Prop} {b p : Nat} {rs : List (List Mg)} (h : MerAt w F b p rs) : (∀ k, F k → k < b) ∧ b ≤ w.heap.size := by
  obtain ⟨v, es, _, _, _, _, _, h6, h7, _⟩ := h
  exact ⟨h6, h7⟩

theorem mLeft_any (w : World) (F : Nat → Prop) (b p : Nat) (rs : List (List Mg)) (h : MerAt w F b p rs) : Calls Tryz.prog 14 #[.pointer (some ⟨p, 0, none⟩)] w fun e w' => e = .returned (.int .i64 (leftR rs)) ∧ w = w' := by
  have hl := h.left
  go_enter Tryz.func14, Tryz.ntmps14
  go_wp2
  go_ret
  exact ⟨rfl, rfl⟩
theorem mLeft_nil (w : World) : Calls Tryz.prog 14 #[.pointer none] w fun e w' => e = .returned (.int .i64 0) ∧ w = w' := by
  go_enter Tryz.func14, Tryz.ntmps14
  go_wp2
  go_ret
  exact ⟨rfl, rfl⟩

set_option maxHeartbeats 2000000 in
theorem mIsAt_any (w : World) (F : Nat → Prop) (b p : Nat) (rs : List (List Mg)) (hl : leftR rs ≤ 1000000000) (k : List UInt8) (h : MerAt w F b p rs) :
    Calls Tryz.prog 33 #[.pointer (some ⟨p, 0, none⟩), .string (str k)] w fun e w' => ∃ bb, e = .returned (.bool bb) ∧ Step noF w w' ∧ ((bb = false ∧ leftR rs = 0) ∨ ∃ i m t, rs[i]? = some (m :: t) ∧ bb = decide (m.key = k) ∧ ∀ (q : Nat) (m' : Mg) (t' : List Mg), rs[q]? = some (m' :: t') → m.key < m'.key ∨ (m.key = m'.key ∧ i ≤ q)) := by
  have hSm := same_str
  have hL := h.left
  obtain ⟨v, es, h1, h2, h3, h4, h5, h6, h7, h8⟩ := h
  by_cases h0 : leftR rs = 0
  · rw [h0] at hL
    go_enter Tryz.func33, Tryz.ntmps33
    go_wp2_with fail
    go_ret
    exact ⟨_, rfl, Step.refl _ _, .inl ⟨rfl, h0⟩⟩
  · have hp : 0 < es.length := by
      refine Nat.pos_of_ne_zero (fun e => h0 ?_)
      rw [← h3.none]
      exact List.length_eq_zero_iff.1 e
    obtain ⟨g, c, rfl, hq⟩ := h1.parts hp
    obtain ⟨m, t, r1, r2, r3, r4⟩ := h3.head h2 hp
    obtain ⟨ci, di⟩ := hq.row.1.ent 0 hp
    obtain ⟨m1, t1, e1, l1, _, k1, _⟩ := (hq.en 0 hp).cons (by rw [r2]; simp)
    have hmk : m1.key = m.key := l1.symm.trans r3
    have c0 := hq.cell
    have cl := fun w' hw => low_raw (atE es 0).pl (atE es 0).g (atE es 0).o (atE es 0).ms.length (atE es 0).c m.key (by rw [r2]; simp) w' hw
    have hk1 : w.cell? ⟨(atE es 0).g, (atE es 0).o + 1, none⟩ = some (.string (str m.key)) := by rw [← hmk]; exact k1
    have cl1 := cl w hk1
    have hlz : (0 : Int) < (leftR rs : Int) := by omega
    have hpz : (0 : Int) < (es.length : Int) := by omega
    have HR := hid (And.intro r1 r4)
    clear cl k1 r1 r2 r3 r4 hq h1 h2 h3 h4 h5 h6 h7 h8 e1 l1 hmk h0
    go_enter Tryz.func33, Tryz.ntmps33
    go_wp2_with fail
    refine cl1.mono ?_
    rintro e w2 ⟨rfl, n, os, rfl⟩
    go_wp2_with fail
    go_ret
    exact ⟨_, rfl, step_grow _ _ _, .inr ⟨_, m, t, HR.out.1, rfl, HR.out.2⟩⟩

theorem MsgsAt.tail {w : World} {F : Nat → Prop} {g o : Nat} {m : Mg} {t : List Mg} (h : MsgsAt w F (some ⟨g, o, none⟩) (m :: t)) : MsgsAt w F (some ⟨g, o + 3, none⟩) t := by
  rcases h with h | ⟨b, off, e, hF, hb, hc⟩
  · cases h
  · injection e with e
    injection e with e1 e2
    subst e1 e2
    refine .inr ⟨g, o + 3, rfl, hF, hb, fun j hj => ?_⟩
    have := hc (j + 1) (by simp; omega)
    simp only [List.getElem_cons_succ] at this
    rw [show o + (j + 1) * 3 = o + 3 + j * 3 by omega] at this
    exact this
/-- The head's run goes on, one less is left, and two blocks are new. -/
theorem head_put {w : World} {p g c : Nat} {lv : Value} {es : List Ent} (h : QpAt w p g c lv es) (h0 : 0 < es.length) (e' : Ent) (hpl : e'.pl = (atE es 0).pl) (he : EnAt w (pgF p g) e') (lv' : Value) (o1 o2 : Obj) (W : World)
    (hW : W = (((w.setCell ⟨g, 1, none⟩ (.slice (some ⟨e'.g, e'.o, none⟩) e'.ms.length e'.c)).setCell ⟨p, 1, none⟩ lv').alloc o1).alloc o2) :
    QpAt W p g c lv' (es.set 0 e') ∧ Step (pgF p g) w W ∧ W.heap[w.heap.size]? = some o1 ∧ W.heap[w.heap.size + 1]? = some o2 := by
  have hs : Step (pgF p g) w W := by
    subst hW
    exact ((((Step.refl (pgF p g) w).setCell (p := ⟨g, 1, none⟩) (.inl (show pgF p g g from .inr rfl)) _).setCell (p := ⟨p, 1, none⟩) (.inl (show pgF p g p from .inl rfl)) _).alloc _).alloc _
  refine ⟨⟨?_, ?_, h.2.2.1, fun e hm => ?_⟩, hs, ?_, ?_⟩
  · rw [List.length_set]
    have h1 : (w.setCell ⟨g, 1, none⟩ (.slice (some ⟨e'.g, e'.o, none⟩) e'.ms.length e'.c)).heap[p]? = some (.cells #[.slice (some ⟨g, 0, none⟩) es.length c, lv] 66 (0, 0)) :=
      (((Step.refl (oneF g) w).setCell (p := ⟨g, 1, none⟩) (.inl (show oneF g g from rfl)) _).block p (lt_of_block h.1) h.2.2.1).trans h.1
    subst hW
    exact block_alloc_old (block_alloc_old (block_setCell h1 1 lv') _) _
  · rw [List.length_set]
    have h1 := owns_put h.2.1 1 (by rw [ents_length]; omega) (.slice (some ⟨e'.g, e'.o, none⟩) e'.ms.length e'.c)
    have h2 : (ents es).set 1 (.slice (some ⟨e'.g, e'.o, none⟩) e'.ms.length e'.c) = ents (es.set 0 e') := by
      cases es with
      | nil => simp at h0
      | cons x xs =>
        have : e'.pl = x.pl := hpl
        show Value.int .i64 x.pl :: _ :: ents xs = Value.int .i64 e'.pl :: _ :: ents xs
        rw [this]
    rw [h2] at h1
    subst hW
    exact owns_step (owns_setCell h1 ⟨p, 1, none⟩ (fun e => h.2.2.1 (by injection e with e; exact e.symm)) lv') (((Step.refl noF _).alloc o1).alloc o2) (fun _ _ x => x)
  · rcases List.mem_or_eq_of_mem_set hm with h1 | rfl
    · exact (h.2.2.2 e h1).step hs (fun _ x => x)
    · exact he.step hs (fun _ x => x)
  · subst hW
    have := block_alloc_new ((w.setCell ⟨g, 1, none⟩ (.slice (some ⟨e'.g, e'.o, none⟩) e'.ms.length e'.c)).setCell ⟨p, 1, none⟩ lv') o1
    rw [World.size_setCell, World.size_setCell] at this
    exact block_alloc_old this _
  · subst hW
    have := block_alloc_new (((w.setCell ⟨g, 1, none⟩ (.slice (some ⟨e'.g, e'.o, none⟩) e'.ms.length e'.c)).setCell ⟨p, 1, none⟩ lv').alloc o1) o2
    rw [World.size_alloc, World.size_setCell, World.size_setCell] at this
    exact this
theorem dn_head {es : List Ent} (h : hpN es es.length) (e' : Ent) : dnE (es.set 0 e') 0 (es.set 0 e').length := by
  have hat : ∀ k, 0 < k → atE (es.set 0 e') k = atE es k := fun k hk => by
    unfold atE
    rw [List.getD_eq_getElem?_getD, List.getD_eq_getElem?_getD, List.getElem?_set_ne (by omega)]
  refine ⟨fun k k0 hk hne => ?_, fun h0 => absurd h0 (by omega)⟩
  rw [List.length_set] at hk
  rw [hat _ (by omega), hat _ k0]
  exact h k k0 hk

theorem atE_set0 (es : List Ent) (e' : Ent) {k : Nat} (hk : 0 < k) : atE (es.set 0 e') k = atE es k := by
  unfold atE
  rw [List.getD_eq_getElem?_getD, List.getD_eq_getElem?_getD, List.getElem?_set_ne (by omega)]
theorem QpAt.other {w5 w6 : World} {p g c : Nat} {lv : Value} {ms : List Ent} (h : QpAt w5 p g c lv ms) (A : Nat) (hp : p ≠ A) (hg : g ≠ A) (hs : Step (oneF A) w5 w6) (he : ∀ e ∈ ms, EnAt w6 (pgF p g) e) : QpAt w6 p g c lv ms :=
  ⟨(hs.block p (lt_of_block h.1) hp).trans h.1, owns_step h.2.1 hs (fun k hk e => by
    injection hk with hk
    have e : k = A := e
    exact hg (hk.trans e)), h.2.2.1, he⟩
theorem perm_head {es qs : List Ent} {e' : Ent} (h0 : 0 < es.length) (h : (es.set 0 e').Perm (qs ++ [atE (es.set 0 e') 0])) : es.Perm (qs ++ [atE es 0]) := by
  cases es with
  | nil => simp at h0
  | cons x xs =>
    have h1 : (e' :: xs).Perm (qs ++ [e']) := h
    have h2 : (e' :: xs).Perm (e' :: qs) := h1.trans (List.perm_append_singleton e' qs)
    have h3 : xs.Perm qs := h2.cons_inv
    exact (h3.cons x).trans (List.perm_append_singleton x qs).symm
theorem EnAt.nil {w : World} {F : Nat → Prop} (pl g o c : Nat) : EnAt w F ⟨pl, [], g, o, c⟩ := ⟨Nat.zero_le _, Nat.zero_le _, .inl rfl⟩
set_option maxHeartbeats 4000000 in
theorem mTake_any (w : World) (F : Nat → Prop) (b p : Nat) (rs : List (List Mg)) (hl : leftR rs ≤ 1000000000) (hn : rs.length ≤ 900000) (h : MerAt w F b p rs) (h0 : leftR rs ≠ 0) :
    Calls Tryz.prog 32 #[.pointer (some ⟨p, 0, none⟩)] w fun e w' => ∃ i m t, rs[i]? = some (m :: t) ∧ (∀ (q : Nat) (m' : Mg) (t' : List Mg), rs[q]? = some (m' :: t') → m.key < m'.key ∨ (m.key = m'.key ∧ i ≤ q)) ∧ e = .returned (.agg #[.int .i64 m.kind, .string (str m.key), .string (str m.val)]) ∧ Step F w w' ∧ MerAt w' F b p (rs.set i t) := by
  have hL := h.left
  obtain ⟨v, es, h1, h2, h3, h4, h5, h6, h7, h8⟩ := h
  have hp : 0 < es.length := by
    refine Nat.pos_of_ne_zero (fun e => h0 ?_)
    rw [← h3.none]
    exact List.length_eq_zero_iff.1 e
  obtain ⟨g, c, rfl, hq⟩ := h1.parts hp
  obtain ⟨m, t, r1, r2, r3, r4⟩ := h3.head h2 hp
  obtain ⟨ci, di⟩ := hq.row.1.ent 0 hp
  obtain ⟨m1, t1, e1, l1, k0, k1, k2, hgl, hgF⟩ := (hq.en 0 hp).cons (by rw [r2]; simp)
  rw [r2] at e1
  injection e1 with e1 e2
  subst e1
  have c0 := hq.cell
  have HN := hid (hq.en 0 hp)
  obtain ⟨xg, hxg⟩ : ∃ x, (atE es 0).g = x := ⟨_, rfl⟩
  obtain ⟨xo, hxo⟩ : ∃ x, (atE es 0).o = x := ⟨_, rfl⟩
  obtain ⟨xc, hxc⟩ : ∃ x, (atE es 0).c = x := ⟨_, rfl⟩
  have hcap := (hq.en 0 hp).2.1
  have hnl := (hq.en 0 hp).1
  rw [r2] at hcap hnl di
  rw [hxc] at hcap di
  rw [hxg] at k0 k1 k2 di hgl hgF
  rw [hxo] at k0 k1 k2 di
  simp only [List.length_cons] at hcap hnl di
  obtain ⟨N, hN⟩ : ∃ N, t.length = N := ⟨_, rfl⟩
  rw [hN] at hcap hnl di
  obtain ⟨X, hX⟩ : ∃ X, leftR rs = X + 1 := ⟨leftR rs - 1, by omega⟩
  have hXl := left_give _ _ _ r1
  rw [hX] at hL hl hXl
  have HXL := hid (show leftR (rs.set (atE es 0).pl t) = X by omega)
  have hXX : ((X + 1 : Nat) : Int) = (X : Int) + 1 := by omega
  rw [hXX] at hL
  clear hXX hXl
  obtain ⟨M, hM⟩ : ∃ M, es.length = M := ⟨_, rfl⟩
  rw [hM] at c0 hp
  have hMz : (0 : Int) < (M : Int) := by omega
  have hpg := hq.2.2.1
  have hgb : ∃ cur, w.heap[g]? = some (.cells cur 102 (0, 0)) := by
    obtain ⟨A, rest, h1, h2⟩ := hq.row.1
    exact ⟨A, h1⟩
  have fp := frozen_of_block hq.1 1
  obtain ⟨cur, hgb⟩ := hgb
  have fg := frozen_of_block hgb 1
  have hpl := lt_of_block hq.1
  have hgl2 := lt_of_block hgb
  have HQ := hid hq
  rw [ownF_eq] at h8
  have HX := hid (And.intro h2 (And.intro h3 (And.intro h4 (And.intro h5 (And.intro h6 (And.intro h7 h8))))))
  have HR := hid (And.intro r1 (And.intro r4 r2))
  have HG := hid (And.intro hxg (And.intro hxo (And.intro hxc (And.intro hN hM))))
  clear hq h1 h2 h3 h4 h5 h6 h7 h8 r1 r4 r3 l1 hxc hxg hxo e2 h0 hgb hM
  obtain ⟨K, hK⟩ : ∃ K, m.kind = K := ⟨_, rfl⟩
  obtain ⟨Y, hY⟩ : ∃ K, m.key = K := ⟨_, rfl⟩
  obtain ⟨Z, hZ⟩ : ∃ K, m.val = K := ⟨_, rfl⟩
  rw [hK] at k0
  rw [hY] at k1
  rw [hZ] at k2
  have HKYZ := hid (And.intro hK (And.intro hY hZ))
  clear hK hY hZ
  by_cases hN0 : N = 0
  · subst hN0
    by_cases hxc1 : xc = 1
    · subst hxc1
      go_enter Tryz.func32, Tryz.ntmps32
      go_wp2_with fail
      obtain ⟨e1, e2, e3, e4, e5⟩ := HG.out
      have hnx : (⟨(atE es 0).pl, [], xg, xo, 0⟩ : Ent).g = xg ∧ (⟨(atE es 0).pl, [], xg, xo, 0⟩ : Ent).o = xo ∧ (⟨(atE es 0).pl, [], xg, xo, 0⟩ : Ent).ms.length = 0 ∧ (⟨(atE es 0).pl, [], xg, xo, 0⟩ : Ent).c = 0 := ⟨rfl, rfl, rfl, rfl⟩
      have hE : EnAt w (pgF p g) (⟨(atE es 0).pl, [], xg, xo, 0⟩ : Ent) := EnAt.nil _ _ _ _
      obtain ⟨q1, q2, q3, q4⟩ := head_put HQ.out (by omega) (⟨(atE es 0).pl, [], xg, xo, 0⟩ : Ent) rfl hE (.int .i64 X) (.cells #[.int .i64 0, .string ⟨#[]⟩, .string ⟨#[]⟩] 37) (.cells #[.int .i64 K, .string (str Y), .string (str Z)] 37) _ rfl
      rw [hnx.1, hnx.2.1, hnx.2.2.1, hnx.2.2.2] at q1 q2 q3 q4
      have hne : ∀ q, 0 < q → q < (es.set 0 (⟨(atE es 0).pl, [], xg, xo, 0⟩ : Ent)).length → (atE (es.set 0 (⟨(atE es 0).pl, [], xg, xo, 0⟩ : Ent)) q).ms ≠ [] := fun q hq0 hq => by
        rw [List.length_set] at hq
        rw [atE_set0 es _ hq0]
        exact (HX.out.2.1.2.1 _ (atE_mem hq)).2
      refine (qhpop_any _ p g c _ _ (M - 1) q1 (by rw [List.length_set]; omega) (by have := HX.out.2.2.1; omega) (dn_head HX.out.1 _) hne).mono ?_
      rintro e w5 ⟨⟨vv, rfl⟩, s5, ms, h5, hp5, hh5⟩
      have hb1 : TripAt w5 w.heap.size 37 ⟨0, [], []⟩ := (s5.block _ (lt_of_block q3) (fun e => by rcases e with e | e <;> omega)).trans q3
      have hb2 : TripAt w5 (w.heap.size + 1) 37 ⟨K, Y, Z⟩ := (s5.block _ (lt_of_block q4) (fun e => by rcases e with e | e <;> omega)).trans q4
      obtain ⟨a0, a1, a2, f0, f1, f2⟩ := hb1.all
      obtain ⟨d0, d1, d2, _, _, _⟩ := hb2.all
      have T3 := hid (hb1.put ⟨K, Y, Z⟩)
      obtain ⟨z0, z1, z2, _, _, _⟩ := T3.out.all
      have S6 := hid ((q2.trans s5).put3 w.heap.size (Nat.le_refl _) (.int .i64 K) (.string (str Y)) (.string (str Z)))
      have S56 := hid (((Step.refl (oneF w.heap.size) w5).setCell (p := ⟨w.heap.size, 0, none⟩) (.inl (show oneF w.heap.size w.heap.size from rfl)) (.int .i64 K)).setCell (p := ⟨w.heap.size, 1, none⟩) (.inl (show oneF w.heap.size w.heap.size from rfl)) (.string (str Y)) |>.setCell (p := ⟨w.heap.size, 2, none⟩) (.inl (show oneF w.heap.size w.heap.size from rfl)) (.string (str Z)))
      have HH := hid (And.intro h5 (And.intro hp5 (And.intro hh5 hE)))
      clear hE hne
      clear q1 q2 q3 q4 s5 h5 hp5 hh5 hb1 hb2 hnx e1 e2 e3 e4 e5
      go_wp2_with fail
      refine bodyPost_ret (v := .agg #[.int .i64 K, .string (str Y), .string (str Z)]) (by simp [results, Tryz.results32, go_sem, *]) rfl ?_
      refine ⟨_, m, t, HR.out.1, HR.out.2.1, by rw [HKYZ.out.1, HKYZ.out.2.1, HKYZ.out.2.2], S6.out.mono (fun k hk => .inl (HX.out.2.2.2.1 k (by rw [ownF_eq]; exact hk))), ?_⟩
      obtain ⟨h5, hp5, hh5, hE⟩ := HH.out
      have hp6 := perm_head (by have := HG.out; omega) hp5
      have hq := h5.other w.heap.size (by omega) (by omega) S56.out (fun e he => (HQ.out.2.2.2 e (hp6.mem_iff.2 (List.mem_append_left _ he))).step S6.out (fun _ x => x))
      have hlen := hp6.length_eq
      rw [List.length_append, List.length_singleton] at hlen
      have ht : t = [] := List.length_eq_zero_iff.1 HG.out.2.2.2.1
      subst ht
      refine ⟨.slice (some ⟨g, 0, none⟩) ms.length c, ms, ?_, hh5, HX.out.2.1.pop hp6, by rw [List.length_set]; have := HX.out.2.2.1; omega, fun k hk => HX.out.2.2.2.1 k (by rw [ownF_eq] at hk ⊢; exact hk), HX.out.2.2.2.2.1, Nat.le_trans HX.out.2.2.2.2.2.1 S6.out.size, fun e he => ?_⟩
      · rw [HXL.out]
        exact hq.heap
      · rw [ownF_eq]
        exact (HX.out.2.2.2.2.2.2 e (hp6.mem_iff.2 (List.mem_append_left _ he))).step S6.out (fun _ x => .inl x)
    · go_enter Tryz.func32, Tryz.ntmps32
      go_wp2_with fail
      obtain ⟨e1, e2, e3, e4, e5⟩ := HG.out
      have hnx : (⟨(atE es 0).pl, [], xg, xo + 3, xc - 1⟩ : Ent).g = xg ∧ (⟨(atE es 0).pl, [], xg, xo + 3, xc - 1⟩ : Ent).o = xo + 3 ∧ (⟨(atE es 0).pl, [], xg, xo + 3, xc - 1⟩ : Ent).ms.length = 0 ∧ (⟨(atE es 0).pl, [], xg, xo + 3, xc - 1⟩ : Ent).c = xc - 1 := ⟨rfl, rfl, rfl, rfl⟩
      have hE : EnAt w (pgF p g) (⟨(atE es 0).pl, [], xg, xo + 3, xc - 1⟩ : Ent) := EnAt.nil _ _ _ _
      obtain ⟨q1, q2, q3, q4⟩ := head_put HQ.out (by omega) (⟨(atE es 0).pl, [], xg, xo + 3, xc - 1⟩ : Ent) rfl hE (.int .i64 X) (.cells #[.int .i64 0, .string ⟨#[]⟩, .string ⟨#[]⟩] 37) (.cells #[.int .i64 K, .string (str Y), .string (str Z)] 37) _ rfl
      rw [hnx.1, hnx.2.1, hnx.2.2.1, hnx.2.2.2] at q1 q2 q3 q4
      have hne : ∀ q, 0 < q → q < (es.set 0 (⟨(atE es 0).pl, [], xg, xo + 3, xc - 1⟩ : Ent)).length → (atE (es.set 0 (⟨(atE es 0).pl, [], xg, xo + 3, xc - 1⟩ : Ent)) q).ms ≠ [] := fun q hq0 hq => by
        rw [List.length_set] at hq
        rw [atE_set0 es _ hq0]
        exact (HX.out.2.1.2.1 _ (atE_mem hq)).2
      refine (qhpop_any _ p g c _ _ (M - 1) q1 (by rw [List.length_set]; omega) (by have := HX.out.2.2.1; omega) (dn_head HX.out.1 _) hne).mono ?_
      rintro e w5 ⟨⟨vv, rfl⟩, s5, ms, h5, hp5, hh5⟩
      have hb1 : TripAt w5 w.heap.size 37 ⟨0, [], []⟩ := (s5.block _ (lt_of_block q3) (fun e => by rcases e with e | e <;> omega)).trans q3
      have hb2 : TripAt w5 (w.heap.size + 1) 37 ⟨K, Y, Z⟩ := (s5.block _ (lt_of_block q4) (fun e => by rcases e with e | e <;> omega)).trans q4
      obtain ⟨a0, a1, a2, f0, f1, f2⟩ := hb1.all
      obtain ⟨d0, d1, d2, _, _, _⟩ := hb2.all
      have T3 := hid (hb1.put ⟨K, Y, Z⟩)
      obtain ⟨z0, z1, z2, _, _, _⟩ := T3.out.all
      have S6 := hid ((q2.trans s5).put3 w.heap.size (Nat.le_refl _) (.int .i64 K) (.string (str Y)) (.string (str Z)))
      have S56 := hid (((Step.refl (oneF w.heap.size) w5).setCell (p := ⟨w.heap.size, 0, none⟩) (.inl (show oneF w.heap.size w.heap.size from rfl)) (.int .i64 K)).setCell (p := ⟨w.heap.size, 1, none⟩) (.inl (show oneF w.heap.size w.heap.size from rfl)) (.string (str Y)) |>.setCell (p := ⟨w.heap.size, 2, none⟩) (.inl (show oneF w.heap.size w.heap.size from rfl)) (.string (str Z)))
      have HH := hid (And.intro h5 (And.intro hp5 (And.intro hh5 hE)))
      clear hE hne
      clear q1 q2 q3 q4 s5 h5 hp5 hh5 hb1 hb2 hnx e1 e2 e3 e4 e5
      go_wp2_with fail
      refine bodyPost_ret (v := .agg #[.int .i64 K, .string (str Y), .string (str Z)]) (by simp [results, Tryz.results32, go_sem, *]) rfl ?_
      refine ⟨_, m, t, HR.out.1, HR.out.2.1, by rw [HKYZ.out.1, HKYZ.out.2.1, HKYZ.out.2.2], S6.out.mono (fun k hk => .inl (HX.out.2.2.2.1 k (by rw [ownF_eq]; exact hk))), ?_⟩
      obtain ⟨h5, hp5, hh5, hE⟩ := HH.out
      have hp6 := perm_head (by have := HG.out; omega) hp5
      have hq := h5.other w.heap.size (by omega) (by omega) S56.out (fun e he => (HQ.out.2.2.2 e (hp6.mem_iff.2 (List.mem_append_left _ he))).step S6.out (fun _ x => x))
      have hlen := hp6.length_eq
      rw [List.length_append, List.length_singleton] at hlen
      have ht : t = [] := List.length_eq_zero_iff.1 HG.out.2.2.2.1
      subst ht
      refine ⟨.slice (some ⟨g, 0, none⟩) ms.length c, ms, ?_, hh5, HX.out.2.1.pop hp6, by rw [List.length_set]; have := HX.out.2.2.1; omega, fun k hk => HX.out.2.2.2.1 k (by rw [ownF_eq] at hk ⊢; exact hk), HX.out.2.2.2.2.1, Nat.le_trans HX.out.2.2.2.2.2.1 S6.out.size, fun e he => ?_⟩
      · rw [HXL.out]
        exact hq.heap
      · rw [ownF_eq]
        exact (HX.out.2.2.2.2.2.2 e (hp6.mem_iff.2 (List.mem_append_left _ he))).step S6.out (fun _ x => .inl x)
  · have hb : ((N : Int) == 0) = false := by rw [beq_eq_false_iff_ne]; omega
    have hxc1 : ¬ xc = 1 := by omega
    have HN0 := hid hN0
    clear hN0
    go_enter Tryz.func32, Tryz.ntmps32
    go_wp2_with fail
    obtain ⟨e1, e2, e3, e4, e5⟩ := HG.out
    have hnx : ((atE es 0).next t).g = xg ∧ ((atE es 0).next t).o = xo + 3 ∧ ((atE es 0).next t).ms.length = N ∧ ((atE es 0).next t).c = xc - 1 := ⟨e1, by show (atE es 0).o + 3 = _; rw [e2], e4, by show (atE es 0).c - 1 = _; rw [e3]⟩
    have hE : EnAt w (pgF p g) ((atE es 0).next t) := ⟨by show t.length ≤ _; omega, by show t.length ≤ (atE es 0).c - 1; omega, by
      have := HN.out.2.2
      rw [HR.out.2.2] at this
      exact this.tail⟩
    obtain ⟨q1, q2, q3, q4⟩ := head_put HQ.out (by omega) ((atE es 0).next t) rfl hE (.int .i64 X) (.cells #[.int .i64 0, .string ⟨#[]⟩, .string ⟨#[]⟩] 37) (.cells #[.int .i64 K, .string (str Y), .string (str Z)] 37) _ rfl
    rw [hnx.1, hnx.2.1, hnx.2.2.1, hnx.2.2.2] at q1 q2 q3 q4
    have hne : ∀ e ∈ es.set 0 ((atE es 0).next t), e.ms ≠ [] := fun e he => by
      rcases List.mem_or_eq_of_mem_set he with h1 | rfl
      · exact (HX.out.2.1.2.1 e h1).2
      · intro h2
        have : t = [] := h2
        rw [this] at e4
        exact HN0.out e4.symm
    refine (qhfix_any _ p g c _ _ q1 (by rw [List.length_set]; omega) (by rw [List.length_set]; have := HX.out.2.2.1; omega) (dn_head HX.out.1 _) hne).mono ?_
    rintro e w5 ⟨rfl, s5, ms, h5, hp5, hh5⟩
    have hb1 : TripAt w5 w.heap.size 37 ⟨0, [], []⟩ := (s5.block _ (lt_of_block q3) (fun e => by rcases e with e | e <;> omega)).trans q3
    have hb2 : TripAt w5 (w.heap.size + 1) 37 ⟨K, Y, Z⟩ := (s5.block _ (lt_of_block q4) (fun e => by rcases e with e | e <;> omega)).trans q4
    obtain ⟨a0, a1, a2, f0, f1, f2⟩ := hb1.all
    obtain ⟨d0, d1, d2, _, _, _⟩ := hb2.all
    have T3 := hid (hb1.put ⟨K, Y, Z⟩)
    obtain ⟨z0, z1, z2, _, _, _⟩ := T3.out.all
    have S6 := hid ((q2.trans s5).put3 w.heap.size (Nat.le_refl _) (.int .i64 K) (.string (str Y)) (.string (str Z)))
    have S56 := hid (((Step.refl (oneF w.heap.size) w5).setCell (p := ⟨w.heap.size, 0, none⟩) (.inl (show oneF w.heap.size w.heap.size from rfl)) (.int .i64 K)).setCell (p := ⟨w.heap.size, 1, none⟩) (.inl (show oneF w.heap.size w.heap.size from rfl)) (.string (str Y)) |>.setCell (p := ⟨w.heap.size, 2, none⟩) (.inl (show oneF w.heap.size w.heap.size from rfl)) (.string (str Z)))
    have HH := hid (And.intro h5 (And.intro hp5 (And.intro hh5 hE)))
    clear hE hne
    clear q1 q2 q3 q4 s5 h5 hp5 hh5 hb1 hb2 hnx e1 e2 e3 e4 e5
    go_wp2_with fail
    refine bodyPost_ret (v := .agg #[.int .i64 K, .string (str Y), .string (str Z)]) (by simp [results, Tryz.results32, go_sem, *]) rfl ?_
    refine ⟨_, m, t, HR.out.1, HR.out.2.1, by rw [HKYZ.out.1, HKYZ.out.2.1, HKYZ.out.2.2], S6.out.mono (fun k hk => .inl (HX.out.2.2.2.1 k (by rw [ownF_eq]; exact hk))), ?_⟩
    obtain ⟨h5, hp5, hh5, hE⟩ := HH.out
    have hq := h5.other w.heap.size (by omega) (by omega) S56.out (fun e he => by
      rcases List.mem_or_eq_of_mem_set (hp5.mem_iff.1 he) with h1 | rfl
      · exact (HQ.out.2.2.2 e h1).step S6.out (fun _ x => x)
      · exact hE.step S6.out (fun _ x => x))
    have hlen := hp5.length_eq
    rw [List.length_set] at hlen
    refine ⟨.slice (some ⟨g, 0, none⟩) ms.length c, ms, ?_, hh5, (HX.out.2.1.fix (by have := HG.out; omega) t (fun e => HN0.out (by rw [← HG.out.2.2.2.1, e]; rfl))).perm hp5, by rw [List.length_set, hlen]; exact HX.out.2.2.1, fun k hk => HX.out.2.2.2.1 k (by rw [ownF_eq] at hk ⊢; exact hk), HX.out.2.2.2.2.1, Nat.le_trans HX.out.2.2.2.2.2.1 S6.out.size, fun e he => ?_⟩
    · rw [HXL.out]
      exact hq.heap
    · rw [ownF_eq]
      rcases List.mem_or_eq_of_mem_set (hp5.mem_iff.1 he) with h1 | rfl
      · exact (HX.out.2.2.2.2.2.2 e h1).step S6.out (fun _ x => .inl x)
      · exact ⟨hE.1, hE.2.1, by
          have := ((HX.out.2.2.2.2.2.2 _ (atE_mem (es := es) (k := 0) (by have := HG.out; omega))).step S6.out (fun _ x => .inl x)).2.2
          rw [HR.out.2.2] at this
          exact this.tail⟩
end Go.Proofs.YtnalillebemglaaGreat
