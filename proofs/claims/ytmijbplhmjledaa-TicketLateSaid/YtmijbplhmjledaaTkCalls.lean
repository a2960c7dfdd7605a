/-
  The calls with their answers by equations; a pool beside a row of bools, beside what came in.
-/
import Derived.Test.YtmijbplhmjledaaTkLateM
namespace Go.Proofs.Ytmijbplhmjledaa
open Go.RowKit
set_option linter.unusedVariables false
set_option linter.unusedSimpArgs false

theorem use_call (w : World) (p : Nat) (F : Nat → Prop) (t : Tk) (h : IsPool w p F t) (a : Option Addr) (cx n : Nat) (xs : List (Int × Int)) (hn : xs.length = n) (hx : ExtAt w a xs) (hxF : xs ≠ [] → ∀ b off, a = some ⟨b, off, none⟩ → ¬ F b) (hb : ∀ x ∈ xs, x.1 ≤ 9223372036854775807) (hxl : xs.length ≤ 9223372036854775807) (E : Int) (t' : Tk) (e1 : useE t xs = E) (e2 : useT t xs = t') :
    Calls Try.prog 25 #[.pointer (some ⟨p, 0, none⟩), .slice a n cx] w fun e w' => e = .returned (.int .i64 E) ∧ Step F w w' ∧ IsPool w' p (Grew F w w') t' := by
  subst e1 e2; exact use_any w p F t h a cx n xs hn hx hxF hb hxl
theorem change_call (w : World) (p : Nat) (F : Nat → Prop) (t : Tk) (h : IsPool w p F t) (z n : Int) (hl : t.hs.length ≤ 700000) (E : Int) (t' : Tk) (e1 : changeE t z n = E) (e2 : changeT t z n = t') :
    Calls Try.prog 26 #[.pointer (some ⟨p, 0, none⟩), .int .i64 z, .int .i64 n] w fun e w' => e = .returned (.int .i64 E) ∧ Step F w w' ∧ IsPool w' p (Grew F w w') t' := by
  subst e1 e2; exact change_any w p F t h z n hl
/-- A pool, and a row of bools that isn't its own. -/
def PlR (W w : World) (p g : Nat) (t : Tk) (m : List Bool) : Prop := ∃ F, Pl W w p F t ∧ ¬ F g ∧ W.heap.size ≤ g ∧ RowIn w g 4 (bools m)
theorem PlR.next {W w w' : World} {p g : Nat} {F : Nat → Prop} {t t' : Tk} {m : List Bool} (h : Pl W w p F t) (hg : ¬ F g) (hW : W.heap.size ≤ g) (hr : RowIn w g 4 (bools m)) (hn : Step F w w' ∧ IsPool w' p (Grew F w w') t') : PlR W w' p g t' m :=
  ⟨_, h.next hn, fun e => by rcases e with e | e; exact hg e; have := hr.lt; omega, hW, hr.step hn.1 hg⟩
theorem PlR.read {W w w' : World} {p g : Nat} {t : Tk} {m : List Bool} (h : PlR W w p g t m) (s : Step noF w w') : PlR W w' p g t m := by
  obtain ⟨F, h1, h2, h3, h4⟩ := h
  exact ⟨F, h1.read s, h2, h3, h4.step s (fun x => x)⟩
theorem PlR.set {W w : World} {p g : Nat} {t : Tk} {m : List Bool} (h : PlR W w p g t m) (k : Nat) (hk : k < m.length) (b : Bool) : PlR W (w.setCell ⟨g, k, none⟩ (.bool b)) p g t (m.set k b) := by
  obtain ⟨F, h1, h2, h3, h4⟩ := h
  have s : Step (oneF g) w (w.setCell ⟨g, k, none⟩ (.bool b)) := (Step.refl (oneF g) w).setCell (p := ⟨g, k, none⟩) (.inl rfl) _
  refine ⟨F, ⟨h1.1.setCell (p := ⟨g, k, none⟩) (.inr h3) _, h1.2.1.keep s (fun j hj e => h2 (by unfold oneF at e; rw [← e]; exact hj)), h1.2.2⟩, h2, h3, ?_⟩
  have := h4.set k (by rw [bools_length]; exact hk) (.bool b)
  rw [bools_set] at this
  exact this
theorem RowIn.bool {w : World} {g : Nat} {e : TypeId} {m : List Bool} (h : RowIn w g e (bools m)) (j : Nat) (hj : j < m.length) : w.cell? ⟨g, j, none⟩ = some (.bool (m.getD j false)) := by
  have := h.cell j (by rw [bools_length]; exact hj)
  rw [bools_at] at this
  rw [getD_lt _ hj]; exact this

theorem drop_call (w : World) (p : Nat) (F : Nat → Prop) (t : Tk) (h : IsPool w p F t) (z : Int) (hl : t.hs.length ≤ 700000) (E : Int) (t' : Tk) (e1 : dropE t z = E) (e2 : dropT t z = t') :
    Calls Try.prog 27 #[.pointer (some ⟨p, 0, none⟩), .int .i64 z] w fun e w' => e = .returned (.int .i64 E) ∧ Step F w w' ∧ IsPool w' p (Grew F w w') t' := by
  subst e1 e2; exact drop_any w p F t h z hl
theorem back_call (w : World) (p : Nat) (F : Nat → Prop) (t : Tk) (h : IsPool w p F t) (a : Option Addr) (c n : Nat) (zs : List Int) (hn : zs.length = n) (hz : RowAt w noF a (intsOf zs)) (hl : zs.length ≤ 1000000) (E : Int) (t' : Tk) (e1 : usedE (kindsL t.l t.d) zs = E) (e2 : backT t zs = t') :
    Calls Try.prog 29 #[.pointer (some ⟨p, 0, none⟩), .slice a n c] w fun e w' => e = .returned (.int .i64 E) ∧ Step F w w' ∧ IsPool w' p (Grew F w w') t' := by
  subst e1 e2; exact back_any w p F t h a c n zs hn hz hl
theorem rowF {w w' : World} {F : Nat → Prop} {a : Option Addr} {cs : List Value} (h : RowAt w noF a cs) (s : Step noF w w') (hF : ∀ k, F k → w.heap.size ≤ k) : RowAt w' F a cs :=
  rowAt_keep h (fun k hk _ => ⟨s.block k hk (fun x => x), fun hf => by have := hF k hf; omega⟩)
theorem extF {w : World} {F : Nat → Prop} {a : Option Addr} {xs : List (Int × Int)} (h : ExtAt w a xs) (hF : ∀ k, F k → w.heap.size ≤ k) : xs ≠ [] → ∀ b off, a = some ⟨b, off, none⟩ → ¬ F b := fun h0 b off e hf => by
  rcases h with h | ⟨b', off', e', hb, _⟩
  · exact h0 h
  · rw [e] at e'
    injection e' with e'
    injection e' with e' _ _
    have := hF b hf
    omega
end Go.Proofs.Ytmijbplhmjledaa
