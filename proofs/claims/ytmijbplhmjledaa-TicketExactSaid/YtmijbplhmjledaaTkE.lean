/-
  A pool whose parts turn; what Left and set do.
-/
import Derived.Test.YtmijbplhmjledaaTkLeftR
namespace Go.Proofs.Ytmijbplhmjledaa
open Go.RowKit
set_option linter.unusedVariables false
set_option linter.unusedSimpArgs false

theorem ne_of_types {w : World} {a b : Nat} {A B : Array Value} {T U : TypeId} {f g : Nat × Nat} (h1 : w.heap[a]? = some (.cells A T f)) (h2 : w.heap[b]? = some (.cells B U g)) (hT : T ≠ U) : a ≠ b := by
  rintro rfl
  rw [h1] at h2
  injection h2 with h2
  injection h2 with _ h2 _
  exact hT h2
theorem owns_block {w : World} {base : Nat} {e : TypeId} {size : Nat} {v : Value} {n : Nat} {xs : List Value} (h : w.ownsRow base e size v n xs) (k : Nat) (hk : v.ownBlock = some k) : ∃ A, w.heap[k]? = some (.cells A e (0, 0)) := by
  rcases h.2 with ⟨rfl, _⟩ | ⟨g, cap, cur, rfl, _, hh, _⟩
  · simp [Value.ownBlock] at hk
  · simp [Value.ownBlock] at hk; subst hk; exact ⟨cur, hh⟩
theorem SpAt.blk {w : World} {p g : Nat} {l : List Bool} (h : SpAt w p g l) : (∃ A, w.heap[p]? = some (.cells A 73 (0, 0))) ∧ ∃ A, w.heap[g]? = some (.cells A 4 (0, 0)) := by
  obtain ⟨_, _, c, h1, _, A, r, h2, _⟩ := h
  exact ⟨⟨_, h1⟩, A, h2⟩
/-- Unlike blocks. -/
theorem RawAt.apart {w : World} {p q gs gd c : Nat} {hv nv : Value} {l d : List Bool} {r : Int} {hs : List Int} {h : Int} {ns : List Int} (hr : RawAt w p q gs gd c hv nv l d r hs h ns) :
    q ≠ p ∧ gs ≠ p ∧ gd ≠ p ∧ q ≠ gs ∧ q ≠ gd ∧ (∀ k, hv.ownBlock = some k → k ≠ p ∧ k ≠ q ∧ k ≠ gs ∧ k ≠ gd) ∧ (∀ k, nv.ownBlock = some k → k ≠ p ∧ k ≠ q ∧ k ≠ gs ∧ k ≠ gd) := by
  obtain ⟨h1, h2, h3, h4, ⟨A, rr, h5, _⟩, h6, h7, h8, h9⟩ := hr
  obtain ⟨⟨B, b1⟩, C, b2⟩ := h2.blk
  refine ⟨ne_of_types b1 h1 (by decide), ne_of_types b2 h1 (by decide), ne_of_types h5 h1 (by decide), ne_of_types b1 b2 (by decide), ne_of_types b1 h5 (by decide), fun k hk => ?_, fun k hk => ?_⟩
  · obtain ⟨D, b3⟩ := owns_block h6 k hk
    exact ⟨ne_of_types b3 h1 (by decide), ne_of_types b3 b1 (by decide), ne_of_types b3 b2 (by decide), ne_of_types b3 h5 (by decide)⟩
  · obtain ⟨D, b3⟩ := owns_block h7 k hk
    exact ⟨ne_of_types b3 h1 (by decide), ne_of_types b3 b1 (by decide), ne_of_types b3 b2 (by decide), ne_of_types b3 h5 (by decide)⟩
theorem grew_lt {F : Nat → Prop} {w w' : World} (hF : ∀ k, F k → k < w.heap.size) (hs : w.heap.size ≤ w'.heap.size) : ∀ k, Grew F w w' k → k < w'.heap.size := fun k hk => by
  rcases hk with hk | hk
  · exact Nat.lt_of_lt_of_le (hF k hk) hs
  · exact hk.2

/-- What the tickets have has turned. -/
theorem new_has {w w' : World} {F : Nat → Prop} {p q gs gd c : Nat} {hv nv hv' : Value} {l d : List Bool} {r : Int} {hs hs' : List Int} {h h' : Int} {ns : List Int} (hr : RawAt w p q gs gd c hv nv l d r hs h ns) (hf : Foot F p q gs gd hv nv) (s : Step (pvF p hv) w w')
    (hb : w'.heap[p]? = some (.cells #[.pointer (some ⟨q, 0, none⟩), .slice (some ⟨gd, 0, none⟩) l.length c, .int .i64 r, hv', .int .i64 h', nv] 59 (0, 0))) (ho : w'.ownsRow 0 3 1 hv' hs'.length (intsOf hs')) (hfr : Fresh w hv hv') :
    Step F w w' ∧ Foot (Grew F w w') p q gs gd hv' nv ∧ RawAt w' p q gs gd c hv' nv l d r hs' h' ns := by
  obtain ⟨a1, a2, a3, a4, a5, a6, a7⟩ := hr.apart
  obtain ⟨h1, h2, h3, h4, h5, h6, h7, h8, h9⟩ := hr
  obtain ⟨f1, f2, f3, f4, f5, f6⟩ := hf
  have no : ∀ k, k ≠ p → (∀ j, hv.ownBlock = some j → j ≠ k) → ¬ pvF p hv k := fun k x y z => by
    rcases z with z | z
    · exact x z
    · exact y k z rfl
  refine ⟨s.mono (fun k hk => ?_), ⟨.inl f1, .inl f2, .inl f3, .inl f4, fun k hk => ?_, fun k hk => .inl (f6 k hk)⟩, hb, ?_, h3, h4, ?_, ho, ?_, h8, fun k hk hk2 => ?_⟩
  · rcases hk with rfl | hk
    · exact .inl f1
    · exact .inl (f5 k hk)
  · rcases hfr with e | e
    · rw [e] at hk; exact .inl (f5 k hk)
    · exact .inr ⟨e k hk, (ho.lt k hk).2⟩
  · exact h2.keep s (no q a1 (fun j hj => (a6 j hj).2.1)) (no gs a2 (fun j hj => (a6 j hj).2.2.1))
  · exact h5.step s (no gd a3 (fun j hj => (a6 j hj).2.2.2))
  · exact owns_step h7 s (fun k hk => no k (a7 k hk).1 (fun j hj e => h9 j hj (by rw [e]; exact hk)))
  · rcases hfr with e | e
    · rw [e] at hk; exact h9 k hk hk2
    · have := e k hk
      have := (h7.lt k hk2).2
      omega
/-- The numbers of those that are gone have turned. -/
theorem new_num {w w' : World} {F : Nat → Prop} {p q gs gd c : Nat} {hv nv nv' : Value} {l d : List Bool} {r : Int} {hs : List Int} {h : Int} {ns ns' : List Int} (hr : RawAt w p q gs gd c hv nv l d r hs h ns) (hf : Foot F p q gs gd hv nv) (s : Step (pvF p nv) w w')
    (hb : w'.heap[p]? = some (.cells #[.pointer (some ⟨q, 0, none⟩), .slice (some ⟨gd, 0, none⟩) l.length c, .int .i64 r, hv, .int .i64 h, nv'] 59 (0, 0))) (ho : w'.ownsRow 0 3 1 nv' ns'.length (intsOf ns')) (hfr : Fresh w nv nv') :
    Step F w w' ∧ Foot (Grew F w w') p q gs gd hv nv' ∧ RawAt w' p q gs gd c hv nv' l d r hs h ns' := by
  obtain ⟨a1, a2, a3, a4, a5, a6, a7⟩ := hr.apart
  obtain ⟨h1, h2, h3, h4, h5, h6, h7, h8, h9⟩ := hr
  obtain ⟨f1, f2, f3, f4, f5, f6⟩ := hf
  have no : ∀ k, k ≠ p → (∀ j, nv.ownBlock = some j → j ≠ k) → ¬ pvF p nv k := fun k x y z => by
    rcases z with z | z
    · exact x z
    · exact y k z rfl
  refine ⟨s.mono (fun k hk => ?_), ⟨.inl f1, .inl f2, .inl f3, .inl f4, fun k hk => .inl (f5 k hk), fun k hk => ?_⟩, hb, ?_, h3, h4, ?_, ?_, ho, h8, fun k hk hk2 => ?_⟩
  · rcases hk with rfl | hk
    · exact .inl f1
    · exact .inl (f6 k hk)
  · rcases hfr with e | e
    · rw [e] at hk; exact .inl (f6 k hk)
    · exact .inr ⟨e k hk, (ho.lt k hk).2⟩
  · exact h2.keep s (no q a1 (fun j hj => (a7 j hj).2.1)) (no gs a2 (fun j hj => (a7 j hj).2.2.1))
  · exact h5.step s (no gd a3 (fun j hj => (a7 j hj).2.2.2))
  · exact owns_step h6 s (fun k hk => no k (a6 k hk).1 (fun j hj e => h9 k hk (by rw [← e]; exact hj)))
  · rcases hfr with e | e
    · rw [e] at hk2; exact h9 k hk hk2
    · have := e k hk2
      have := (h6.lt k hk).2
      omega
/-- The free blocks have turned. -/
theorem new_sp {w w' : World} {F : Nat → Prop} {p q gs gd c : Nat} {hv nv : Value} {l d l' : List Bool} {r : Int} {hs : List Int} {h : Int} {ns : List Int} (hr : RawAt w p q gs gd c hv nv l d r hs h ns) (hf : Foot F p q gs gd hv nv) (s : Step (oneF q) w w') (hsp : SpFrom w gs w' q l') (hl : l'.length = l.length) :
    Step F w w' ∧ ∃ gs', Foot (Grew F w w') p q gs' gd hv nv ∧ RawAt w' p q gs' gd c hv nv l' d r hs h ns := by
  obtain ⟨a1, a2, a3, a4, a5, a6, a7⟩ := hr.apart
  obtain ⟨h1, h2, h3, h4, h5, h6, h7, h8, h9⟩ := hr
  obtain ⟨f1, f2, f3, f4, f5, f6⟩ := hf
  obtain ⟨gs', e, hs2⟩ := hsp
  have hgd := h5.lt
  refine ⟨s.mono (fun k hk => ?_), gs', ⟨.inl f1, .inl f2, ?_, .inl f4, fun k hk => .inl (f5 k hk), fun k hk => .inl (f6 k hk)⟩, ?_, hs2, by rw [hl]; exact h3, by rw [hl]; exact h4, h5.step s (fun e => a5 e.symm), owns_step h6 s (fun k hk e => (a6 k hk).2.1 e), owns_step h7 s (fun k hk e => (a7 k hk).2.1 e), ?_, h9⟩
  · left; unfold oneF at hk; rw [hk]; exact f2
  · rcases e with rfl | e
    · exact .inl f3
    · exact .inr ⟨e, hs2.lt⟩
  · rw [hl]; exact (s.block p (lt_of_block h1) (fun e => a1 e.symm)).trans h1
  · rcases e with rfl | e
    · exact h8
    · omega
/-- The late ones have turned. -/
theorem new_late {w w' : World} {F : Nat → Prop} {p q gs gd c : Nat} {hv nv : Value} {l d d' : List Bool} {r : Int} {hs : List Int} {h : Int} {ns : List Int} (hr : RawAt w p q gs gd c hv nv l d r hs h ns) (hf : Foot F p q gs gd hv nv) (s : Step (oneF gd) w w') (hd : RowIn w' gd 4 (bools d')) (hl : d'.length = l.length) :
    Step F w w' ∧ Foot (Grew F w w') p q gs gd hv nv ∧ RawAt w' p q gs gd c hv nv l d' r hs h ns := by
  obtain ⟨a1, a2, a3, a4, a5, a6, a7⟩ := hr.apart
  obtain ⟨h1, h2, h3, h4, h5, h6, h7, h8, h9⟩ := hr
  refine ⟨s.mono (fun k hk => ?_), hf.mono (fun k hk => .inl hk), (s.block p (lt_of_block h1) (fun e => a3 e.symm)).trans h1, h2.keep s a5 h8, hl, h4, hd, owns_step h6 s (fun k hk e => (a6 k hk).2.2.2 e), owns_step h7 s (fun k hk e => (a7 k hk).2.2.2 e), h8, h9⟩
  left; unfold oneF at hk; rw [hk]; exact hf.2.2.2.1

theorem heap_other {w : World} {a : Addr} {v : Value} {k : Nat} {o : Obj} (h : w.heap[k]? = some o) (hne : k ≠ a.block) : (w.setCell a v).heap[k]? = some o :=
  (Below.heap_setCell _ _ _ _ (fun e => hne e)).trans h
set_option maxHeartbeats 400000 in
/-- Left. -/
theorem left_any (w : World) (p : Nat) (F : Nat → Prop) (t : Tk) (h : PoolM w p F t) (hr : 0 ≤ t.r ∧ t.r ≤ 1000) (hh : heldL t.hs ≤ 1000) (L : Int) (hL : leftT t = L) : Calls Try.prog 18 #[.pointer (some ⟨p, 0, none⟩)] w fun e w' => e = .returned (.int .i64 L) ∧ Step noF w w' := by
  subst hL
  have h0 := heldL_nonneg t.hs
  obtain ⟨q', c0', hsp⟩ := h.sp
  have hfb := free_bound t.l
  have hl5 := hsp.2.1
  unfold leftT
  have HP := hid h
  clear c0' hsp h
  have cells : Hid (∀ w', Step noF w w' → w'.cell? ⟨p, 4, none⟩ = some (.int .i64 (heldL t.hs)) ∧ w'.cell? ⟨p, 2, none⟩ = some (.int .i64 t.r)) := fun w' hs => by
    obtain ⟨_, q, gs, gd, c, hv, nv, ns, _, _, _, h1, _⟩ := HP.out
    obtain ⟨_, _, c2, _, c4, _⟩ := cells6 h1
    exact ⟨hs.after c4, hs.after c2⟩
  obtain ⟨fr, hfr⟩ : ∃ fr, freeL t.l = fr := ⟨_, rfl⟩
  obtain ⟨hd, hhd⟩ : ∃ hd, heldL t.hs = hd := ⟨_, rfl⟩
  obtain ⟨r, hrr⟩ : ∃ r, t.r = r := ⟨_, rfl⟩
  have hfree : Hid (∀ w', Step noF w w' → Calls Try.prog 14 #[.pointer (some ⟨p, 0, none⟩)] w' fun e w'' => e = .returned (.int .i64 fr) ∧ Step noF w' w'') := fun w' hs => by
    rw [← hfr]; exact pfree_any w' p F t (HP.out.step hs)
  rw [hfr, hhd, hrr]
  rw [hhd, hrr] at cells
  rw [hfr] at hfb
  rw [hhd] at hh h0
  rw [hrr] at hr
  have w1 : Hid (wrap64 (fr - hd) = fr - hd) := by show _ = _; unfold wrap64; omega
  have w2 : Hid (wrap64 (fr - hd - r) = fr - hd - r) := by show _ = _; unfold wrap64; omega
  have w3 : Hid (IntKind.i64.wrap (fr - hd) = fr - hd) := by show _ = _; simp [IntKind.wrap, IntKind.bits, IntKind.signed]; omega
  have w4 : Hid (IntKind.i64.wrap (fr - hd - r) = fr - hd - r) := by show _ = _; simp [IntKind.wrap, IntKind.bits, IntKind.signed]; omega
  clear hfr hhd hrr hfb hr hh h0 hl5
  go_enter Try.func18, Try.ntmps18
  go_wp2_with fail
  change Code.wp _ (Code.region 3 ((Try.f18.body.bind (regionOps 3)).getD #[]) true) _ _ _
  refine tlr_go p fr hd r w1.out w2.out w3.out w4.out _ w rfl rfl ?_ ?_
  · intro w' hs
    exact ⟨(cells.out w' hs).1, (cells.out w' hs).2, hfree.out w' hs⟩
  · intro u hu
    simp only [Exit.then]
    refine ‹∀ (a : Act) (w : World), Code.wp _ Code.ret _ a w → _› _ u ?_
    refine wp_ret ?_
    change bodyPost Try.prog Try.f18 _ Exit.ret _ u
    refine bodyPost_ret (v := .int .i64 (fr - hd - r)) ((results_tmp rfl _ _ _).trans ?_) ((putAll_size tlrDl _ _).2.trans rfl) ⟨rfl, hu⟩
    rw [putAll_at tlrDl (tlrVals p fr hd r) _ 12 2 (.int .i64 (fr - hd - r)) tlr_nd rfl rfl ?_]
    exact (show 2 < 17 by decide)

set_option maxHeartbeats 2000000 in
/-- set. -/
theorem set_any (w : World) (p : Nat) (F : Nat → Prop) (t : Tk) (h : PoolM w p F t) (i : Nat) (hi : i < t.hs.length) (hl : t.hs.length ≤ 1000000) (hy : 0 ≤ t.hs.getD i 0 ∧ t.hs.getD i 0 ≤ 1000) (n : Int) (hn : 0 ≤ n ∧ n ≤ 2000) (hh : heldL t.hs ≤ 1000) (z : Int) (hz : z = (i : Int) + 1) :
    Calls Try.prog 42 #[.pointer (some ⟨p, 0, none⟩), .int .i64 z, .int .i64 n] w fun e w' => e = .returned (.tuple #[]) ∧ Step F w w' ∧ PoolM w' p (Grew F w w') ⟨t.l, t.d, t.r, t.hs.set i n⟩ := by
  subst hz
  have h0 := heldL_nonneg t.hs
  have hset := heldL_set t.hs i n hi
  obtain ⟨hF, q, gs, gd, c, hv, nv, ns, hf, hp, hg, hr⟩ := h
  have HR := hid hr
  obtain ⟨h1, _, _, _, _, h6, _⟩ := hr
  have HNE : Hid (∀ k, hv.ownBlock = some k → k ≠ p) := fun k hk => (HR.out.apart.2.2.2.2.2.1 k hk).1
  obtain ⟨g, hc, rfl, hcl, hcell, hfz⟩ := owns_cell h6 i hi
  have hgp : ¬ g = p := HNE.out g rfl
  obtain ⟨_, _, _, c3, c4, _⟩ := cells6 h1
  have f4 := frozen_of_block h1 4
  have HB := hid h1
  have HO := hid h6
  have HI := hid hi
  have HG := hid hg
  have HY := hid hy.1
  have HN := hid hn.1
  obtain ⟨N, hN⟩ : ∃ N, t.hs.length = N := ⟨_, rfl⟩
  rw [hN] at hi c3 hcl hl
  obtain ⟨y, hyy⟩ : ∃ y, t.hs.getD i 0 = y := ⟨_, rfl⟩
  obtain ⟨hd, hhd⟩ : ∃ hd, heldL t.hs = hd := ⟨_, rfl⟩
  rw [hyy] at hcell hy hset
  rw [hhd] at c4 hh h0 hset
  have HS : Hid (heldL (t.hs.set i n) = hd + (n - y)) := by show _ = _; omega
  have HN2 := hid hN
  have k3 : (i : Int) + 1 - 1 = (i : Int) := by omega
  have k4 : (i : Int) < (N : Int) := by omega
  clear h1 h6 hset hN hyy hg
  have w1 : wrap64 (n - y) = n - y := by unfold wrap64; omega
  have w2 : wrap64 (hd + (n - y)) = hd + (n - y) := by unfold wrap64; omega
  have w3 : IntKind.i64.wrap (n - y) = n - y := by simp [IntKind.wrap, IntKind.bits, IntKind.signed]; omega
  have w4 : IntKind.i64.wrap (hd + (n - y)) = hd + (n - y) := by simp [IntKind.wrap, IntKind.bits, IntKind.signed]; omega
  have w5 : wrap64 ((i : Int) + 1 - 1) = (i : Int) := by unfold wrap64; omega
  have w6 : IntKind.i64.wrap ((i : Int) + 1 - 1) = (i : Int) := by simp [IntKind.wrap, IntKind.bits, IntKind.signed]; omega
  go_enter Try.func42, Try.ntmps42
  go_wp2_with fail
  go_region
  all_goals go_wp2
  all_goals go_end0
  all_goals
    have sS : Step (pvF p (.slice (some ⟨g, 0, none⟩) t.hs.length hc)) w ((w.drew.setCell ⟨p, 4, none⟩ (.int .i64 (hd + (n - y)))).setCell ⟨g, i, none⟩ (.int .i64 n)) := (((Step.refl _ w).drew.setCell (p := ⟨p, 4, none⟩) (.inl (.inl rfl)) _).setCell (p := ⟨g, i, none⟩) (.inl (.inr rfl)) _)
    obtain ⟨r1, r2, r3⟩ := new_has (hs' := t.hs.set i n) (h' := hd + (n - y)) HR.out hf sS
      (heap_other (block_setCell (w := w.drew) HB.out 4 _) (fun e => hgp e.symm))
      (by
        rw [List.length_set, ← intsOf_set]
        exact owns_put (owns_setCell (w := w.drew) HO.out ⟨p, 4, none⟩ (fun e => by injection e with e; exact hgp e) _) i (by rw [intsOf_length]; exact HI.out) _)
      (.inl rfl)
    refine ⟨rfl, r1, grew_lt hF sS.size, q, gs, gd, c, _, nv, ns, r2, hp, gone_set HG.out HI.out (by have := HY.out; omega) (by have := HN.out; omega), ?_⟩
    rw [HS.out]
    exact r3
end Go.Proofs.Ytmijbplhmjledaa
