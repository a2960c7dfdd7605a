/-
  A pool in memory; what New, Free, Held, Of, Kind do.
-/
import Derived.Test.YtmijbplhmjledaaTkM
import Derived.Test.YtmijbplhmjledaaTkC
import Derived.Test.YtmijbplhmjledaaSpG
import Derived.Test.YtmijbplhmjledaaSpApM
namespace Go.Proofs.Ytmijbplhmjledaa
open Go.RowKit
set_option linter.unusedVariables false
set_option linter.unusedSimpArgs false

theorem cells6 {w : World} {p : Nat} {v0 v1 v2 v3 v4 v5 : Value} {T : TypeId} (h : w.heap[p]? = some (.cells #[v0, v1, v2, v3, v4, v5] T (0, 0))) :
    w.cell? ⟨p, 0, none⟩ = some v0 ∧ w.cell? ⟨p, 1, none⟩ = some v1 ∧ w.cell? ⟨p, 2, none⟩ = some v2 ∧ w.cell? ⟨p, 3, none⟩ = some v3 ∧ w.cell? ⟨p, 4, none⟩ = some v4 ∧ w.cell? ⟨p, 5, none⟩ = some v5 :=
  ⟨cell_of_block h 0, cell_of_block h 1, cell_of_block h 2, cell_of_block h 3, cell_of_block h 4, cell_of_block h 5⟩

/-- The pool's block, and what it leads to. -/
def RawAt (w : World) (p q gs gd c : Nat) (hv nv : Value) (l d : List Bool) (r : Int) (hs : List Int) (h : Int) (ns : List Int) : Prop :=
  w.heap[p]? = some (.cells #[.pointer (some ⟨q, 0, none⟩), .slice (some ⟨gd, 0, none⟩) l.length c, .int .i64 r, hv, .int .i64 h, nv] 59 (0, 0)) ∧
  SpAt w q gs l ∧ d.length = l.length ∧ l.length ≤ c ∧ RowIn w gd 4 (bools d) ∧ w.ownsRow 0 3 1 hv hs.length (intsOf hs) ∧ w.ownsRow 0 3 1 nv ns.length (intsOf ns) ∧ gs ≠ gd ∧ (∀ k, hv.ownBlock = some k → nv.ownBlock ≠ some k)
/-- Its blocks. -/
def Foot (F : Nat → Prop) (p q gs gd : Nat) (hv nv : Value) : Prop := F p ∧ F q ∧ F gs ∧ F gd ∧ (∀ k, hv.ownBlock = some k → F k) ∧ (∀ k, nv.ownBlock = some k → F k)
def PoolM (w : World) (p : Nat) (F : Nat → Prop) (t : Tk) : Prop :=
  (∀ k, F k → k < w.heap.size) ∧ ∃ q gs gd c hv nv ns, Foot F p q gs gd hv nv ∧ IsHp ns ∧ Gone t.hs ns ∧ RawAt w p q gs gd c hv nv t.l t.d t.r t.hs (heldL t.hs) ns
def IsPool (w : World) (p : Nat) (F : Nat → Prop) (t : Tk) : Prop := Wf t ∧ PoolM w p F t
/-- Its blocks, and those that are new. -/
def Grew (F : Nat → Prop) (w w' : World) : Nat → Prop := fun k => F k ∨ (w.heap.size ≤ k ∧ k < w'.heap.size)

theorem Foot.mono {F G : Nat → Prop} {p q gs gd : Nat} {hv nv : Value} (h : Foot F p q gs gd hv nv) (hG : ∀ k, F k → G k) : Foot G p q gs gd hv nv :=
  ⟨hG _ h.1, hG _ h.2.1, hG _ h.2.2.1, hG _ h.2.2.2.1, fun k hk => hG k (h.2.2.2.2.1 k hk), fun k hk => hG k (h.2.2.2.2.2 k hk)⟩
theorem RawAt.keep {w w' : World} {F G : Nat → Prop} {p q gs gd c : Nat} {hv nv : Value} {l d : List Bool} {r : Int} {hs : List Int} {h : Int} {ns : List Int} (hr : RawAt w p q gs gd c hv nv l d r hs h ns) (hf : Foot F p q gs gd hv nv) (hs' : Step G w w') (hd : ∀ k, F k → ¬ G k) : RawAt w' p q gs gd c hv nv l d r hs h ns := by
  obtain ⟨h1, h2, h3, h4, h5, h6, h7, h8, h9⟩ := hr
  obtain ⟨f1, f2, f3, f4, f5, f6⟩ := hf
  exact ⟨(hs'.block p (lt_of_block h1) (hd _ f1)).trans h1, h2.keep hs' (hd _ f2) (hd _ f3), h3, h4, h5.step hs' (hd _ f4), owns_step h6 hs' (fun k hk => hd k (f5 k hk)), owns_step h7 hs' (fun k hk => hd k (f6 k hk)), h8, h9⟩
theorem PoolM.keep {w w' : World} {p : Nat} {F G : Nat → Prop} {t : Tk} (h : PoolM w p F t) (hs : Step G w w') (hd : ∀ k, F k → ¬ G k) : PoolM w' p F t := by
  obtain ⟨hF, q, gs, gd, c, hv, nv, ns, hf, hh, hg, hr⟩ := h
  exact ⟨fun k hk => Nat.lt_of_lt_of_le (hF k hk) hs.size, q, gs, gd, c, hv, nv, ns, hf, hh, hg, hr.keep hf hs hd⟩
theorem PoolM.mono {w : World} {p : Nat} {F G : Nat → Prop} {t : Tk} (h : PoolM w p F t) (hG : ∀ k, F k → G k) (hb : ∀ k, G k → k < w.heap.size) : PoolM w p G t := by
  obtain ⟨hF, q, gs, gd, c, hv, nv, ns, hf, hh, hg, hr⟩ := h
  exact ⟨hb, q, gs, gd, c, hv, nv, ns, hf.mono hG, hh, hg, hr⟩
theorem PoolM.step {w w' : World} {p : Nat} {F : Nat → Prop} {t : Tk} (h : PoolM w p F t) (hs : Step noF w w') : PoolM w' p F t := h.keep hs (fun _ _ x => x)
theorem IsPool.step {w w' : World} {p : Nat} {F : Nat → Prop} {t : Tk} (h : IsPool w p F t) (hs : Step noF w w') : IsPool w' p F t := ⟨h.1, h.2.step hs⟩
theorem IsPool.keep {w w' : World} {p : Nat} {F G : Nat → Prop} {t : Tk} (h : IsPool w p F t) (hs : Step G w w') (hd : ∀ k, F k → ¬ G k) : IsPool w' p F t := ⟨h.1, h.2.keep hs hd⟩
theorem IsPool.grew {w w' : World} {p : Nat} {F : Nat → Prop} {t : Tk} (h : IsPool w p F t) (hs : Step noF w w') : IsPool w' p (Grew F w w') t :=
  ⟨h.1, (h.2.step hs).mono (fun k hk => .inl hk) (fun k hk => by rcases hk with hk | hk; exact Nat.lt_of_lt_of_le (h.2.1 k hk) hs.size; exact hk.2)⟩
theorem IsPool.lt {w : World} {p : Nat} {F : Nat → Prop} {t : Tk} (h : IsPool w p F t) (k : Nat) (hk : F k) : k < w.heap.size := h.2.1 k hk
theorem PoolM.own {w : World} {p : Nat} {F : Nat → Prop} {t : Tk} (h : PoolM w p F t) : F p := by obtain ⟨_, q, gs, gd, c, hv, nv, ns, hf, _⟩ := h; exact hf.1
/-- One call behind another. -/
theorem PoolM.then {w w1 w2 : World} {p : Nat} {F : Nat → Prop} {t : Tk} (hF : ∀ k, F k → k < w.heap.size) (s1 : Step F w w1) (s2 : Step (Grew F w w1) w1 w2) (h : PoolM w2 p (Grew (Grew F w w1) w1 w2) t) : Step F w w2 ∧ PoolM w2 p (Grew F w w2) t := by
  refine ⟨s1.then s2 (fun k hk => hk.imp id (·.1)), h.mono (fun k hk => ?_) (fun k hk => ?_)⟩
  · rcases hk with (hk | hk) | hk
    · exact .inl hk
    · exact .inr ⟨hk.1, Nat.lt_of_lt_of_le hk.2 s2.size⟩
    · exact .inr ⟨Nat.le_trans s1.size hk.1, hk.2⟩
  · rcases hk with hk | hk
    · exact Nat.lt_of_lt_of_le (hF k hk) (Nat.le_trans s1.size s2.size)
    · exact hk.2

/-- Free. -/
theorem PoolM.sp {w : World} {p : Nat} {F : Nat → Prop} {t : Tk} (h : PoolM w p F t) : ∃ q, w.cell? ⟨p, 0, none⟩ = some (.pointer (some ⟨q, 0, none⟩)) ∧ IsSp w q t.l := by
  obtain ⟨_, q, gs, gd, c, hv, nv, ns, _, _, _, h1, h2, _⟩ := h
  exact ⟨q, (cells6 h1).1, h2.sp⟩
set_option maxHeartbeats 400000 in
theorem pfree_any (w : World) (p : Nat) (F : Nat → Prop) (t : Tk) (h : PoolM w p F t) : Calls Try.prog 14 #[.pointer (some ⟨p, 0, none⟩)] w fun e w' => e = .returned (.int .i64 (freeL t.l)) ∧ Step noF w w' := by
  obtain ⟨q, c0, hsp⟩ := h.sp
  have hf := free_any w q t.l hsp
  clear h hsp
  go_enter Try.func14, Try.ntmps14
  go_wp2_with fail
  refine hf.mono ?_
  rintro e w1 ⟨rfl, s1⟩
  go_wp2_with fail
  go_ret
  exact ⟨rfl, s1⟩
set_option maxHeartbeats 400000 in
theorem pheld_any (w : World) (p : Nat) (F : Nat → Prop) (t : Tk) (h : PoolM w p F t) : Calls Try.prog 16 #[.pointer (some ⟨p, 0, none⟩)] w fun e w' => e = .returned (.int .i64 (heldL t.hs)) ∧ Step noF w w' := by
  obtain ⟨_, q, gs, gd, c, hv, nv, ns, _, _, _, h1, _⟩ := h
  obtain ⟨_, _, _, _, c4, _⟩ := cells6 h1
  clear h1
  go_enter Try.func16, Try.ntmps16
  go_wp2
  go_ret
  exact ⟨rfl, Step.refl _ _⟩

/-- There is such a ticket. -/
def HasT (hs : List Int) (z : Int) (i : Nat) : Prop := z = (i : Int) + 1 ∧ i < hs.length ∧ 0 ≤ hs.getD i 0
def NoT (hs : List Int) (z : Int) : Prop := z < 1 ∨ (hs.length : Int) < z ∨ ∃ i : Nat, z = (i : Int) + 1 ∧ i < hs.length ∧ hs.getD i 0 = -1
theorem has_or (hs : List Int) (hm : ∀ z ∈ hs, -1 ≤ z) (z : Int) : (∃ i, HasT hs z i) ∨ NoT hs z := by
  by_cases h1 : z < 1
  · exact .inr (.inl h1)
  · by_cases h2 : (hs.length : Int) < z
    · exact .inr (.inr (.inl h2))
    · obtain ⟨i, hi⟩ := Int.eq_ofNat_of_zero_le (show 0 ≤ z - 1 by omega)
      have hz : z = (i : Int) + 1 := by omega
      have hil : i < hs.length := by omega
      by_cases h3 : 0 ≤ hs.getD i 0
      · exact .inl ⟨i, hz, hil, h3⟩
      · have := hm _ (getD_mem 0 hil)
        exact .inr (.inr (.inr ⟨i, hz, hil, by omega⟩))
theorem owns_cell {w : World} {v : Value} {hs : List Int} (h : w.ownsRow 0 3 1 v hs.length (intsOf hs)) (i : Nat) (hi : i < hs.length) : ∃ g c, v = .slice (some ⟨g, 0, none⟩) hs.length c ∧ hs.length ≤ c ∧ w.cell? ⟨g, i, none⟩ = some (.int .i64 (hs.getD i 0)) ∧ w.frozen? ⟨g, i, none⟩ = false := by
  obtain ⟨g, c, e, hc, hr, _⟩ := rowIn_owns h (by omega)
  exact ⟨g, c, e, hc, hr.int i hi, hr.f i⟩
set_option maxHeartbeats 400000 in
theorem of_some (w : World) (p : Nat) (F : Nat → Prop) (t : Tk) (h : PoolM w p F t) (z : Int) (i : Nat) (hi : HasT t.hs z i) (hl : t.hs.length ≤ 1000000) : Calls Try.prog 12 #[.pointer (some ⟨p, 0, none⟩), .int .i64 z] w fun e w' => e = .returned (.tuple #[.int .i64 (t.hs.getD i 0), .int .i64 0]) ∧ Step noF w w' := by
  obtain ⟨_, q, gs, gd, c, hv, nv, ns, _, _, _, h1, _, _, _, _, h6, _⟩ := h
  obtain ⟨rfl, hi1, hi2⟩ := hi
  obtain ⟨g, hc, rfl, hcl, hcell, hfz⟩ := owns_cell h6 i hi1
  obtain ⟨_, _, _, c3, _, _⟩ := cells6 h1
  clear h1 h6
  obtain ⟨N, hN⟩ : ∃ N, t.hs.length = N := ⟨_, rfl⟩
  rw [hN] at hi1 c3 hcl hl
  obtain ⟨y, hy⟩ : ∃ y, t.hs.getD i 0 = y := ⟨_, rfl⟩
  rw [hy] at hcell hi2 ⊢
  have k1 : ¬ ((i : Int) + 1 < 1) := by omega
  have k2 : ¬ ((N : Int) < (i : Int) + 1) := by omega
  have k3 : (i : Int) + 1 - 1 = (i : Int) := by omega
  have k4 : ¬ y = -1 := by omega
  clear hN hy
  go_enter Try.func12, Try.ntmps12
  go_wp2
  go_ret2
  exact ⟨rfl, Step.refl _ _⟩
set_option maxHeartbeats 400000 in
theorem of_none (w : World) (p : Nat) (F : Nat → Prop) (t : Tk) (h : PoolM w p F t) (z : Int) (hz : NoT t.hs z) (hl : t.hs.length ≤ 1000000) : Calls Try.prog 12 #[.pointer (some ⟨p, 0, none⟩), .int .i64 z] w fun e w' => e = .returned (.tuple #[.int .i64 0, .int .i64 7]) ∧ Step noF w w' := by
  obtain ⟨_, q, gs, gd, c, hv, nv, ns, _, _, _, h1, _, _, _, _, h6, _⟩ := h
  obtain ⟨_, _, _, c3, _, _⟩ := cells6 h1
  by_cases k1 : z < 1
  · clear h1 h6 hz
    go_enter Try.func12, Try.ntmps12
    go_wp2
    go_ret2
    exact ⟨rfl, Step.refl _ _⟩
  · by_cases k2 : (t.hs.length : Int) < z
    · obtain ⟨ha, hc, rfl⟩ := owns_form h6
      clear h1 h6 hz
      go_enter Try.func12, Try.ntmps12
      go_wp2
      go_ret2
      exact ⟨rfl, Step.refl _ _⟩
    · rcases hz with hz | hz | ⟨i, rfl, hi1, hi2⟩
      · exact absurd hz k1
      · exact absurd hz k2
      · obtain ⟨g, hc, rfl, hcl, hcell, hfz⟩ := owns_cell h6 i hi1
        rw [hi2] at hcell
        clear h1 h6
        obtain ⟨N, hN⟩ : ∃ N, t.hs.length = N := ⟨_, rfl⟩
        rw [hN] at hi1 c3 hcl hl k2
        have k3 : (i : Int) + 1 - 1 = (i : Int) := by omega
        clear hN hi2
        go_enter Try.func12, Try.ntmps12
        go_wp2
        go_ret2
        exact ⟨rfl, Step.refl _ _⟩

/-- Kind. -/
def kindZ (t : Tk) (z : Int) : Int := if 0 ≤ z ∧ z < (t.l.length : Int) then kindAt t.l t.d z.toNat else 0
set_option maxHeartbeats 400000 in
theorem kind_out (w : World) (p : Nat) (F : Nat → Prop) (t : Tk) (h : PoolM w p F t) (z : Int) (hz : ¬ (0 ≤ z ∧ z < (t.l.length : Int))) : Calls Try.prog 11 #[.pointer (some ⟨p, 0, none⟩), .int .i64 z] w fun e w' => e = .returned (.int .i64 0) ∧ Step noF w w' := by
  obtain ⟨_, q, gs, gd, c, hv, nv, ns, _, _, _, h1, _⟩ := h
  obtain ⟨_, c1, _⟩ := cells6 h1
  clear h1
  by_cases k1 : z < 0
  · clear hz
    go_enter Try.func11, Try.ntmps11
    go_wp2
    go_ret
    exact ⟨rfl, Step.refl _ _⟩
  · have k2 : (t.l.length : Int) ≤ z := by omega
    clear hz
    go_enter Try.func11, Try.ntmps11
    go_wp2
    go_ret
    exact ⟨rfl, Step.refl _ _⟩
set_option maxHeartbeats 800000 in
theorem kind_in (w : World) (p : Nat) (F : Nat → Prop) (t : Tk) (h : PoolM w p F t) (k : Nat) (hk : k < t.l.length) : Calls Try.prog 11 #[.pointer (some ⟨p, 0, none⟩), .int .i64 k] w fun e w' => e = .returned (.int .i64 (kindAt t.l t.d k)) ∧ Step noF w w' := by
  obtain ⟨q', c0', hsp⟩ := h.sp
  obtain ⟨_, q, gs, gd, c, hv, nv, ns, _, _, _, h1, h2, h3, h4, h5, _⟩ := h
  obtain ⟨c0, c1, _⟩ := cells6 h1
  have hc := h5.cell k (by rw [bools_length, h3]; exact hk)
  rw [bools_at] at hc
  have hgd : t.d[k]'(by rw [h3]; exact hk) = t.d.getD k false := (getD_lt false (by rw [h3]; exact hk)).symm
  rw [hgd] at hc
  have hK : Hid (kindAt t.l t.d k = if t.d.getD k false then 2 else if t.l.getD k false then 3 else 1) := rfl
  have hh := has_any w q t.l h2.sp k
  rw [hasL_nat] at hh
  clear hgd h1 h2 h5 hsp c0' h3
  obtain ⟨N, hN⟩ : ∃ N, t.l.length = N := ⟨_, rfl⟩
  rw [hN] at hk c1 h4
  clear hN
  have k1 : ¬ ((k : Int) < 0) := by omega
  have k2 : ¬ ((N : Int) ≤ (k : Int)) := by omega
  cases hd : t.d.getD k false
  · rw [hd] at hc hK
    cases hl : t.l.getD k false
    · rw [hl] at hh hK
      clear hd hl
      go_enter Try.func11, Try.ntmps11
      go_wp2_with fail
      refine hh.mono ?_
      rintro e w1 ⟨rfl, rfl⟩
      go_wp2_with fail
      go_ret
      exact ⟨ret_int hK.out.symm, Step.refl _ _⟩
    · rw [hl] at hh hK
      clear hd hl
      go_enter Try.func11, Try.ntmps11
      go_wp2_with fail
      refine hh.mono ?_
      rintro e w1 ⟨rfl, rfl⟩
      go_wp2_with fail
      go_ret
      exact ⟨ret_int hK.out.symm, Step.refl _ _⟩
  · rw [hd] at hc hK
    clear hd
    go_enter Try.func11, Try.ntmps11
    go_wp2_with fail
    go_ret
    exact ⟨ret_int hK.out.symm, Step.refl _ _⟩
theorem kind_any (w : World) (p : Nat) (F : Nat → Prop) (t : Tk) (h : PoolM w p F t) (z : Int) : Calls Try.prog 11 #[.pointer (some ⟨p, 0, none⟩), .int .i64 z] w fun e w' => e = .returned (.int .i64 (kindZ t z)) ∧ Step noF w w' := by
  by_cases hz : 0 ≤ z ∧ z < (t.l.length : Int)
  · obtain ⟨k, rfl⟩ := Int.eq_ofNat_of_zero_le hz.1
    rw [kindZ, if_pos hz, Int.toNat_natCast]
    exact kind_in w p F t h k (by omega)
  · rw [kindZ, if_neg hz]; exact kind_out w p F t h z hz
end Go.Proofs.Ytmijbplhmjledaa
