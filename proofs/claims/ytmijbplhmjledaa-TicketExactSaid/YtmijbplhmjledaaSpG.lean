/-
  What the functions of package space do, with their answers by equations.
-/
import Derived.Test.YtmijbplhmjledaaSpF
namespace Go.Proofs.Ytmijbplhmjledaa
open Go.RowKit
set_option linter.unusedVariables false

theorem give_call (w : World) (p : Nat) (l : List Bool) (h : IsSp w p l) (a : Option Addr) (c n : Nat) (xs : List (Int × Int)) (hn : xs.length = n) (hx : ExtAt w a xs) (hb : ∀ x ∈ xs, x.1 ≤ 9223372036854775807) (hxl : xs.length ≤ 9223372036854775807) (e : Int) (l' : List Bool) (h1 : setE true l xs = e) (h2 : setL true l xs = l') :
    Calls Try.prog 32 #[.pointer (some ⟨p, 0, none⟩), .slice a n c] w fun r w' => r = .returned (.int .i64 e) ∧ Step (oneF p) w w' ∧ IsSp w' p l' := by
  subst h1 h2; exact give_any w p l h a c n xs hn hx hb hxl
theorem takeAt_call (w : World) (p : Nat) (l : List Bool) (h : IsSp w p l) (a : Option Addr) (c n : Nat) (xs : List (Int × Int)) (hn : xs.length = n) (hx : ExtAt w a xs) (hb : ∀ x ∈ xs, x.1 ≤ 9223372036854775807) (hxl : xs.length ≤ 9223372036854775807) (e : Int) (l' : List Bool) (h1 : setE false l xs = e) (h2 : setL false l xs = l') :
    Calls Try.prog 44 #[.pointer (some ⟨p, 0, none⟩), .slice a n c] w fun r w' => r = .returned (.int .i64 e) ∧ Step (oneF p) w w' ∧ IsSp w' p l' := by
  subst h1 h2; exact takeAt_any w p l h a c n xs hn hx hb hxl
theorem take_call (w : World) (p : Nat) (l : List Bool) (h : IsSp w p l) (z : Int) (hz2 : z ≤ 9223372036854775807) (x y e : Int) (l' : List Bool) (h1 : takeX l z = (x, y)) (h2 : takeE l z = e) (h3 : takeL l z = l') :
    Calls Try.prog 43 #[.pointer (some ⟨p, 0, none⟩), .int .i64 z] w fun r w' => r = .returned (.tuple #[.agg #[.int .i64 x, .int .i64 y], .int .i64 e]) ∧ Step (oneF p) w w' ∧ IsSp w' p l' := by
  subst h2 h3
  have := take_any w p l h z hz2
  rw [h1] at this
  exact this
theorem free_call (w : World) (p : Nat) (l : List Bool) (h : IsSp w p l) (n : Int) (hn : freeL l = n) : Calls Try.prog 40 #[.pointer (some ⟨p, 0, none⟩)] w fun e w' => e = .returned (.int .i64 n) ∧ Step noF w w' := by
  subst hn; exact free_any w p l h
theorem len_call (w : World) (p : Nat) (l : List Bool) (h : IsSp w p l) (n : Nat) (hn : l.length = n) : Calls Try.prog 61 #[.pointer (some ⟨p, 0, none⟩)] w fun e w' => e = .returned (.int .i64 n) ∧ Step noF w w' := by
  subst hn
  refine (len_any w p l h).mono ?_
  rintro e w' ⟨rfl, rfl⟩
  exact ⟨rfl, Step.refl _ _⟩
theorem has_step (w : World) (p : Nat) (l : List Bool) (h : IsSp w p l) (z : Int) (r : Bool) (hr : hasL l z = r) : Calls Try.prog 39 #[.pointer (some ⟨p, 0, none⟩), .int .i64 z] w fun e w' => e = .returned (.bool r) ∧ Step noF w w' := by
  refine (has_call w p l h z r hr).mono ?_
  rintro e w' ⟨rfl, rfl⟩
  exact ⟨rfl, Step.refl _ _⟩
/-- One place, just laid. -/
theorem extAt_one (w : World) (x y : Int) (t : TypeId) (g : Nat) (hg : g = w.heap.size) : ExtAt (w.alloc (.cells #[.int .i64 x, .int .i64 y] t)) (some ⟨g, 0, none⟩) [(x, y)] := by
  subst hg; exact extAt_new w _ t [(x, y)] rfl
end Go.Proofs.Ytmijbplhmjledaa
