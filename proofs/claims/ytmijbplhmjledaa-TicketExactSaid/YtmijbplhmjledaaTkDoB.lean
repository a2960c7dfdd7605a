/-
  Both pools; what the deeds do to them.
-/
import Derived.Test.YtmijbplhmjledaaTkCalls
import Derived.Test.YtmijbplhmjledaaTkActs
import Derived.Test.YtmijbplhmjledaaTkRD
import Derived.Test.YtmijbplhmjledaaTkRE
import Derived.Test.YtmijbplhmjledaaTkRF
namespace Go.Proofs.Ytmijbplhmjledaa
open Go.RowKit
set_option linter.unusedVariables false
set_option linter.unusedSimpArgs false

/-- Both pools. -/
def Two (W w : World) (p u : Nat) (F G : Nat → Prop) (t1 t2 : Tk) : Prop := Pl W w p F t1 ∧ Rf w u G t2 ∧ (∀ k, G k → W.heap.size ≤ k) ∧ ∀ k, F k → ¬ G k
theorem Two.p {W w w' : World} {p u : Nat} {F G : Nat → Prop} {t1 t2 t1' : Tk} (h : Two W w p u F G t1 t2) (hn : Step F w w' ∧ IsPool w' p (Grew F w w') t1') : Two W w' p u (Grew F w w') G t1' t2 := by
  refine ⟨h.1.next hn, h.2.1.keep hn.1 (fun k hk hf => h.2.2.2 k hf hk), h.2.2.1, fun k hk hg => ?_⟩
  rcases hk with hk | hk
  · exact h.2.2.2 k hk hg
  · have := h.2.1.1 k hg; omega
theorem Two.u {W w w' : World} {p u : Nat} {F G : Nat → Prop} {t1 t2 t2' : Tk} (h : Two W w p u F G t1 t2) (hn : Step G w w' ∧ Rf w' u (Grew G w w') t2') : Two W w' p u F (Grew G w w') t1 t2' := by
  refine ⟨⟨h.1.1.then hn.1 (fun k hk => .inr (h.2.2.1 k hk)), h.1.2.1.keep hn.1 (fun k hk hg => h.2.2.2 k hk hg), h.1.2.2⟩, hn.2, fun k hk => ?_, fun k hk hg => ?_⟩
  · rcases hk with hk | hk
    · exact h.2.2.1 k hk
    · exact Nat.le_trans h.1.1.size hk.1
  · rcases hg with hg | hg
    · exact h.2.2.2 k hk hg
    · have := h.1.2.1.lt k hk; omega
theorem Two.read {W w w' : World} {p u : Nat} {F G : Nat → Prop} {t1 t2 : Tk} (h : Two W w p u F G t1 t2) (s : Step noF w w') : Two W w' p u F G t1 t2 := ⟨h.1.read s, h.2.1.step s, h.2.2⟩
/-- What lay in w outside of both pools lies there still. -/
def KpB (w : World) (F G : Nat → Prop) (V : World) : Prop := w.heap.size ≤ V.heap.size ∧ ∀ k, k < w.heap.size → ¬ F k → ¬ G k → V.heap[k]? = w.heap[k]?
theorem KpB.go {w V V' : World} {F G H : Nat → Prop} (h : KpB w F G V) (s : Step H V V') (hH : ∀ k, H k → F k ∨ G k ∨ w.heap.size ≤ k) : KpB w F G V' := by
  refine ⟨Nat.le_trans h.1 s.size, fun k hk hf hg => (s.block k (Nat.lt_of_lt_of_le hk h.1) (fun e => ?_)).trans (h.2 k hk hf hg)⟩
  rcases hH k e with x | x | x
  · exact hf x
  · exact hg x
  · omega
/-- No great change. -/
def Near (t t' : Tk) : Prop := t'.hs.length ≤ t.hs.length + 1 ∧ t'.l.length = t.l.length
theorem Near.refl (t : Tk) : Near t t := ⟨Nat.le_succ _, rfl⟩
theorem near_use (t : Tk) (xs : List (Int × Int)) : Near t (useT t xs) := by unfold useT; split; exact ⟨Nat.le_succ _, setL_len _ _ _⟩; exact Near.refl t
theorem near_hold (t : Tk) (n : Int) : Near t (holdT t n) := by
  unfold holdT
  split
  · exact ⟨(holdL_len t.hs n).2.1, rfl⟩
  · exact Near.refl t
theorem near_change (t : Tk) (z n : Int) : Near t (changeT t z n) := by
  unfold changeT
  split
  · exact ⟨by simp only; rw [List.length_set]; omega, rfl⟩
  · exact Near.refl t
theorem near_draw (t : Tk) (z : Int) : Near t (drawT t z) := by
  unfold drawT
  split
  · exact ⟨by simp only; rw [List.length_set]; omega, takeL_len t.l 1⟩
  · exact Near.refl t
theorem near_drop (t : Tk) (z : Int) : Near t (dropT t z) := by
  unfold dropT
  split
  · exact ⟨by simp only; rw [List.length_set]; omega, rfl⟩
  · exact Near.refl t
theorem near_shadow (t : Tk) (zs : List Int) : Near t (shadowT t zs) := by unfold shadowT; split; exact ⟨Nat.le_succ _, rfl⟩; exact Near.refl t
theorem near_back (t : Tk) (zs : List Int) : Near t (backT t zs) := by unfold backT; split; exact ⟨Nat.le_succ _, setL_len _ _ _⟩; exact Near.refl t
theorem near_turn (t : Tk) : Near t (turnT t) := ⟨Nat.le_succ _, setL_len _ _ _⟩
theorem shadow_is {t : Tk} (hw : Wf t) (zs : List Int) (E : Int) (hE : usedE (kindsL t.l t.d) zs = E) : (if E = 0 then markL 2 (kindsL t.l t.d) zs else kindsL t.l t.d) = kindsL (shadowT t zs).l (shadowT t zs).d ∧ (shadowT t zs).hs = t.hs ∧ (shadowT t zs).r = t.r := by
  unfold shadowT
  by_cases h : E = 0
  · rw [hE, if_pos h, if_pos h]; exact ⟨(hw.shadow (hE.trans h)).2.symm, rfl, rfl⟩
  · rw [hE, if_neg h, if_neg h]; exact ⟨rfl, rfl, rfl⟩
theorem back_is {t : Tk} (hw : Wf t) (zs : List Int) (E : Int) (hE : usedE (kindsL t.l t.d) zs = E) : (if E = 0 then markL 3 (kindsL t.l t.d) zs else kindsL t.l t.d) = kindsL (backT t zs).l (backT t zs).d ∧ (backT t zs).hs = t.hs ∧ (backT t zs).r = t.r := by
  unfold backT
  by_cases h : E = 0
  · rw [hE, if_pos h, if_pos h]; exact ⟨(hw.back (hE.trans h)).2.2.symm, rfl, rfl⟩
  · rw [hE, if_neg h, if_neg h]; exact ⟨rfl, rfl, rfl⟩
theorem used_len {t : Tk} (hw : Wf t) : 1 ≤ (kindsL t.l t.d).length ∧ (kindsL t.l t.d).length ≤ 512 := by rw [kindsL_len]; exact ⟨hw.n1, hw.n2⟩
theorem rshadow_any (w : World) (u : Nat) (G : Nat → Prop) (t : Tk) (hw : Wf t) (h : Rf w u G t) (a : Option Addr) (c n : Nat) (zs : List Int) (hn : zs.length = n) (hz : RowAt w G a (intsOf zs)) (hl : zs.length ≤ 1000000) (E : Int) (hE : usedE (kindsL t.l t.d) zs = E) (t' : Tk) (e2 : shadowT t zs = t') :
    Calls Try.prog 37 #[.pointer (some ⟨u, 0, none⟩), .slice a n c, .int .i64 2] w fun e w' => e = .returned (.int .i64 E) ∧ Step G w w' ∧ Rf w' u (Grew G w w') t' := by
  subst e2
  obtain ⟨x1, x2, x3⟩ := shadow_is hw zs E hE
  have := rturned_any w u G _ _ _ h (used_len hw) a c n zs hn hz hl 2 (by decide) E hE _ x1
  unfold Rf
  rw [x2, x3]
  exact this
theorem rback_any (w : World) (u : Nat) (G : Nat → Prop) (t : Tk) (hw : Wf t) (h : Rf w u G t) (a : Option Addr) (c n : Nat) (zs : List Int) (hn : zs.length = n) (hz : RowAt w G a (intsOf zs)) (hl : zs.length ≤ 1000000) (E : Int) (hE : usedE (kindsL t.l t.d) zs = E) (t' : Tk) (e2 : backT t zs = t') :
    Calls Try.prog 37 #[.pointer (some ⟨u, 0, none⟩), .slice a n c, .int .i64 3] w fun e w' => e = .returned (.int .i64 E) ∧ Step G w w' ∧ Rf w' u (Grew G w w') t' := by
  subst e2
  obtain ⟨x1, x2, x3⟩ := back_is hw zs E hE
  have := rturned_any w u G _ _ _ h (used_len hw) a c n zs hn hz hl 3 (by decide) E hE _ x1
  unfold Rf
  rw [x2, x3]
  exact this

/-- The deed's own block. -/
def XA (w : World) (xb : Nat) (x : ActT) : Prop := w.heap[xb]? = some (.cells #[.int .i64 x.kind, .int .i64 x.A, .int .i64 x.B, .slice x.la x.xs.length x.lc, .slice x.na x.zs.length x.nc] 32 (0, 0))
theorem XA.cells {w : World} {xb : Nat} {x : ActT} (h : XA w xb x) : w.cell? ⟨xb, 0, none⟩ = some (.int .i64 x.kind) ∧ w.cell? ⟨xb, 1, none⟩ = some (.int .i64 x.A) ∧ w.cell? ⟨xb, 2, none⟩ = some (.int .i64 x.B) ∧ w.cell? ⟨xb, 3, none⟩ = some (.slice x.la x.xs.length x.lc) ∧ w.cell? ⟨xb, 4, none⟩ = some (.slice x.na x.zs.length x.nc) :=
  ⟨cell_of_block h 0, cell_of_block h 1, cell_of_block h 2, cell_of_block h 3, cell_of_block h 4⟩
theorem XA.keep {w w' : World} {xb : Nat} {x : ActT} {F : Nat → Prop} (h : XA w xb x) (s : Step F w w') (hF : ¬ F xb) : XA w' xb x := (s.block xb (lt_of_block h) hF).trans h

end Go.Proofs.Ytmijbplhmjledaa
