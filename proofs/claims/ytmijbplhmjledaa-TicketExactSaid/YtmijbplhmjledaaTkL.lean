/-
  A pool among other things; what all calls do of nil; awake.
-/
import Derived.Test.YtmijbplhmjledaaTkJ
import Derived.Test.YtmijbplhmjledaaTkK
namespace Go.Proofs.Ytmijbplhmjledaa
open Go.RowKit
set_option linter.unusedVariables false
set_option linter.unusedSimpArgs false

/-- A pool that was made behind W. -/
def Pl (W w : World) (p : Nat) (F : Nat → Prop) (t : Tk) : Prop := Step noF W w ∧ IsPool w p F t ∧ ∀ k, F k → W.heap.size ≤ k
theorem Pl.next {W w w' : World} {p : Nat} {F : Nat → Prop} {t t' : Tk} (h : Pl W w p F t) (hn : Step F w w' ∧ IsPool w' p (Grew F w w') t') : Pl W w' p (Grew F w w') t' :=
  ⟨h.1.then hn.1 (fun k hk => .inr (h.2.2 k hk)), hn.2, fun k hk => by rcases hk with hk | hk; exact h.2.2 k hk; exact Nat.le_trans h.1.size hk.1⟩
theorem Pl.read {W w w' : World} {p : Nat} {F : Nat → Prop} {t : Tk} (h : Pl W w p F t) (s : Step noF w w') : Pl W w' p F t := ⟨h.1.trans s, h.2.1.step s, h.2.2⟩
theorem Pl.new {w w' : World} {p : Nat} {t : Tk} (h : Step noF w w' ∧ IsPool w' p (Grew noF w w') t) : Pl w w' p (Grew noF w w') t := ⟨h.1, h.2, fun k hk => by rcases hk with hk | hk; exact hk.elim; exact hk.1⟩
theorem Pl.after {V W w : World} {p : Nat} {F : Nat → Prop} {t : Tk} (h : Pl W w p F t) (s : Step noF V W) : Pl V w p F t := ⟨s.trans h.1, h.2.1, fun k hk => Nat.le_trans s.size (h.2.2 k hk)⟩

def tA0 : Tk := ⟨startL 10 0, List.replicate 10 false, 2, []⟩
def tA1 : Tk := ⟨startL 10 0, List.replicate 10 false, 2, [8]⟩
def tA2 : Tk := ⟨startL 10 1, List.replicate 10 false, 2, [7]⟩
def tA3 : Tk := ⟨startL 10 1, true :: List.replicate 9 false, 2, [7]⟩
def tA4 : Tk := ⟨startL 10 0, List.replicate 10 false, 2, [7]⟩
theorem awA : holdE tA0 9 = 9 ∧ holdI tA0 9 = 0 ∧ holdT tA0 9 = tA0 := ⟨by kernel_rfl, by kernel_rfl, by kernel_rfl⟩
theorem awB : holdE tA0 8 = 0 ∧ holdI tA0 8 = 1 ∧ holdT tA0 8 = tA1 := ⟨by kernel_rfl, by kernel_rfl, by kernel_rfl⟩
theorem awC : drawE tA1 1 = 0 ∧ drawI tA1 1 = 0 ∧ drawT tA1 1 = tA2 := ⟨by kernel_rfl, by kernel_rfl, by kernel_rfl⟩
theorem awD : leftT tA2 = 0 ∧ heldL tA2.hs = 7 ∧ freeL tA2.l = 9 ∧ usedE (kindsL tA2.l tA2.d) [0] = 0 ∧ shadowT tA2 [0] = tA3 := ⟨by kernel_rfl, by kernel_rfl, by kernel_rfl, by kernel_rfl, by kernel_rfl⟩
theorem awE : kindZ tA3 0 = 2 ∧ (lateL tA3.d).length = 1 ∧ turnT tA3 = tA4 ∧ kindZ tA4 0 = 3 ∧ leftT tA4 = 1 := ⟨by kernel_rfl, by kernel_rfl, by kernel_rfl, by kernel_rfl, by kernel_rfl⟩

/-- The contracts with their answers by equations. -/
theorem hold_call (w : World) (p : Nat) (F : Nat → Prop) (t : Tk) (h : IsPool w p F t) (n : Int) (hl : t.hs.length ≤ 700000) (I E : Int) (t' : Tk) (e1 : holdI t n = I) (e2 : holdE t n = E) (e3 : holdT t n = t') :
    Calls Try.prog 23 #[.pointer (some ⟨p, 0, none⟩), .int .i64 n] w fun e w' => e = .returned (.tuple #[.int .i64 I, .int .i64 E]) ∧ Step F w w' ∧ IsPool w' p (Grew F w w') t' := by
  subst e1 e2 e3; exact hold_any w p F t h n hl
theorem draw_call (w : World) (p : Nat) (F : Nat → Prop) (t : Tk) (h : IsPool w p F t) (n : Int) (hl : t.hs.length ≤ 700000) (I E : Int) (t' : Tk) (e1 : drawI t n = I) (e2 : drawE t n = E) (e3 : drawT t n = t') :
    Calls Try.prog 24 #[.pointer (some ⟨p, 0, none⟩), .int .i64 n] w fun e w' => e = .returned (.tuple #[.int .i64 I, .int .i64 E]) ∧ Step F w w' ∧ IsPool w' p (Grew F w w') t' := by
  subst e1 e2 e3; exact draw_any w p F t h n hl
theorem pleft_call (w : World) (p : Nat) (F : Nat → Prop) (t : Tk) (h : IsPool w p F t) (L : Int) (hL : leftT t = L) : Calls Try.prog 18 #[.pointer (some ⟨p, 0, none⟩)] w fun e w' => e = .returned (.int .i64 L) ∧ Step noF w w' := by
  obtain ⟨b1, b2, b3, b4, b5, b6⟩ := h.1.held
  exact left_any w p F t h.2 ⟨h.1.r0, by omega⟩ (by omega) L hL
theorem pheld_call (w : World) (p : Nat) (F : Nat → Prop) (t : Tk) (h : IsPool w p F t) (L : Int) (hL : heldL t.hs = L) : Calls Try.prog 16 #[.pointer (some ⟨p, 0, none⟩)] w fun e w' => e = .returned (.int .i64 L) ∧ Step noF w w' := by
  subst hL; exact pheld_any w p F t h.2
theorem pfree_call (w : World) (p : Nat) (F : Nat → Prop) (t : Tk) (h : IsPool w p F t) (L : Int) (hL : freeL t.l = L) : Calls Try.prog 14 #[.pointer (some ⟨p, 0, none⟩)] w fun e w' => e = .returned (.int .i64 L) ∧ Step noF w w' := by
  subst hL; exact pfree_any w p F t h.2
theorem kind_call (w : World) (p : Nat) (F : Nat → Prop) (t : Tk) (h : IsPool w p F t) (z K : Int) (hK : kindZ t z = K) : Calls Try.prog 11 #[.pointer (some ⟨p, 0, none⟩), .int .i64 z] w fun e w' => e = .returned (.int .i64 K) ∧ Step noF w w' := by
  subst hK; exact kind_any w p F t h.2 z
theorem shadow_call (w : World) (p : Nat) (F : Nat → Prop) (t : Tk) (h : IsPool w p F t) (a : Option Addr) (c n : Nat) (zs : List Int) (hn : zs.length = n) (hz : RowAt w F a (intsOf zs)) (hl : zs.length ≤ 1000000) (E : Int) (t' : Tk) (e1 : usedE (kindsL t.l t.d) zs = E) (e2 : shadowT t zs = t') :
    Calls Try.prog 28 #[.pointer (some ⟨p, 0, none⟩), .slice a n c] w fun e w' => e = .returned (.int .i64 E) ∧ Step F w w' ∧ IsPool w' p (Grew F w w') t' := by
  subst e1 e2; exact shadow_any w p F t h a c n zs hn hz hl
theorem turn_call (w : World) (p : Nat) (F : Nat → Prop) (t : Tk) (h : IsPool w p F t) (L : Nat) (hL : (lateL t.d).length = L) (t' : Tk) (e : turnT t = t') :
    Calls Try.prog 30 #[.pointer (some ⟨p, 0, none⟩)] w fun e w' => e = .returned (.int .i64 L) ∧ Step F w w' ∧ IsPool w' p (Grew F w w') t' := by
  subst e; exact pturn_any w p F t h L hL
theorem row_new {w : World} {F : Nat → Prop} (hF : ∀ k, F k → k < w.heap.size) (x : Int) : RowAt (w.alloc (.cells #[.int .i64 x] 3)) F (some ⟨w.heap.size, 0, none⟩) (intsOf [x]) := rowAt_new w F hF _ _ _ rfl _ rfl

set_option maxHeartbeats 2000000 in
theorem awake_any (w : World) : Calls Try.prog 7 #[] w fun e w' => e = .returned (.bool true) ∧ Step noF w w' := by
  go_enter Try.func7, Try.ntmps7
  go_wp2_with fail
  refine (pnew_any w 10 0 2 10 0 rfl rfl (by decide) (by decide) (by decide) (by decide) (by decide)).mono ?_
  rintro e w1 ⟨p, rfl, hp, h1⟩
  have P1 : Pl w w1 p _ tA0 := Pl.new h1
  clear h1
  go_wp2_with fail
  refine (pnew_none w1 10 9 2 (by unfold canNew; omega)).mono ?_
  rintro e w2 ⟨rfl, s2⟩
  have P2 := P1.read s2
  clear P1
  go_wp2_with fail
  refine (hold_call w2 p _ _ P2.2.1 9 (by decide) _ _ _ awA.2.1 awA.1 awA.2.2).mono ?_
  rintro e w3 ⟨rfl, h3⟩
  have P3 := P2.next h3
  clear P2 h3
  go_wp2_with fail
  refine (hold_call w3 p _ _ P3.2.1 8 (by decide) _ _ _ awB.2.1 awB.1 awB.2.2).mono ?_
  rintro e w4 ⟨rfl, h4⟩
  have P4 := P3.next h4
  clear P3 h4
  go_wp2_with fail
  refine (draw_call w4 p _ _ P4.2.1 1 (by decide) _ _ _ awC.2.1 awC.1 awC.2.2).mono ?_
  rintro e w5 ⟨rfl, h5⟩
  have P5 := P4.next h5
  clear P4 h5
  go_wp2_with fail
  refine (pleft_call w5 p _ _ P5.2.1 0 awD.1).mono ?_
  rintro e w6 ⟨rfl, s6⟩
  have P6 := P5.read s6
  clear P5
  go_wp2_with fail
  refine (pheld_call w6 p _ _ P6.2.1 7 awD.2.1).mono ?_
  rintro e w7 ⟨rfl, s7⟩
  have P7 := P6.read s7
  clear P6
  go_wp2_with fail
  refine (pfree_call w7 p _ _ P7.2.1 9 awD.2.2.1).mono ?_
  rintro e w8 ⟨rfl, s8⟩
  have P8 := P7.read s8
  clear P7
  have P8' := P8.read ((Step.refl noF w8).alloc (.cells #[.int .i64 0] 3))
  go_wp2_with fail
  refine (shadow_call _ p _ _ P8'.2.1 _ _ 1 [0] rfl (row_new P8.2.1.lt 0) (by decide) _ _ awD.2.2.2.1 awD.2.2.2.2).mono ?_
  rintro e w9 ⟨rfl, h9⟩
  have P9 := P8'.next h9
  clear P8 P8' h9
  go_wp2_with fail
  refine (kind_call w9 p _ _ P9.2.1 0 2 awE.1).mono ?_
  rintro e w10 ⟨rfl, s10⟩
  have P10 := P9.read s10
  clear P9
  go_wp2_with fail
  refine (turn_call w10 p _ _ P10.2.1 1 awE.2.1 _ awE.2.2.1).mono ?_
  rintro e w11 ⟨rfl, h11⟩
  have P11 := P10.next h11
  clear P10 h11
  go_wp2_with fail
  refine (kind_call w11 p _ _ P11.2.1 0 3 awE.2.2.2.1).mono ?_
  rintro e w12 ⟨rfl, s12⟩
  have P12 := P11.read s12
  clear P11
  go_wp2_with fail
  refine (pleft_call w12 p _ _ P12.2.1 1 awE.2.2.2.2).mono ?_
  rintro e w13 ⟨rfl, s13⟩
  have P13 := P12.read s13
  go_wp2_with fail
  go_ret
  exact ⟨rfl, P13.1⟩

/-- Of nil. -/
theorem hold_nil (w : World) (n : Int) : Calls Try.prog 23 #[.pointer none, .int .i64 n] w fun e w' => e = .returned (.tuple #[.int .i64 0, .int .i64 2]) ∧ w = w' := by
  go_enter Try.func23, Try.ntmps23
  go_wp2
  go_ret2
  exact ⟨rfl, rfl⟩
theorem of_nil (w : World) (n : Int) : Calls Try.prog 12 #[.pointer none, .int .i64 n] w fun e w' => e = .returned (.tuple #[.int .i64 0, .int .i64 2]) ∧ w = w' := by
  go_enter Try.func12, Try.ntmps12
  go_wp2
  go_ret2
  exact ⟨rfl, rfl⟩
theorem draw_nil (w : World) (n : Int) : Calls Try.prog 24 #[.pointer none, .int .i64 n] w fun e w' => e = .returned (.tuple #[.int .i64 0, .int .i64 2]) ∧ w = w' := by
  have co := of_nil w n
  go_enter Try.func24, Try.ntmps24
  go_wp2_with fail
  refine co.mono ?_
  rintro e w1 ⟨rfl, rfl⟩
  go_wp2_with fail
  go_ret2
  exact ⟨rfl, rfl⟩
theorem use_nil (w : World) (v : Value) : Calls Try.prog 25 #[.pointer none, v] w fun e w' => e = .returned (.int .i64 2) ∧ w = w' := by
  go_enter Try.func25, Try.ntmps25
  go_wp2
  go_ret
  exact ⟨rfl, rfl⟩
theorem change_nil (w : World) (n m : Int) : Calls Try.prog 26 #[.pointer none, .int .i64 n, .int .i64 m] w fun e w' => e = .returned (.int .i64 2) ∧ w = w' := by
  have co := of_nil w n
  go_enter Try.func26, Try.ntmps26
  go_wp2_with fail
  refine co.mono ?_
  rintro e w1 ⟨rfl, rfl⟩
  go_wp2_with fail
  go_ret
  exact ⟨rfl, rfl⟩
theorem drop_nil (w : World) (n : Int) : Calls Try.prog 27 #[.pointer none, .int .i64 n] w fun e w' => e = .returned (.int .i64 2) ∧ w = w' := by
  have co := of_nil w n
  go_enter Try.func27, Try.ntmps27
  go_wp2_with fail
  refine co.mono ?_
  rintro e w1 ⟨rfl, rfl⟩
  go_wp2_with fail
  go_ret
  exact ⟨rfl, rfl⟩
theorem areUsed_nil (w : World) (v : Value) : Calls Try.prog 46 #[.pointer none, v] w fun e w' => e = .returned (.int .i64 2) ∧ w = w' := by
  go_enter Try.func46, Try.ntmps46
  go_wp2
  go_ret
  exact ⟨rfl, rfl⟩
theorem shadow_nil (w : World) (v : Value) : Calls Try.prog 28 #[.pointer none, v] w fun e w' => e = .returned (.int .i64 2) ∧ w = w' := by
  have co := areUsed_nil w v
  go_enter Try.func28, Try.ntmps28
  go_wp2_with fail
  refine co.mono ?_
  rintro e w1 ⟨rfl, rfl⟩
  go_wp2_with fail
  go_ret
  exact ⟨rfl, rfl⟩
theorem back_nil (w : World) (v : Value) : Calls Try.prog 29 #[.pointer none, v] w fun e w' => e = .returned (.int .i64 2) ∧ w = w' := by
  have co := areUsed_nil w v
  go_enter Try.func29, Try.ntmps29
  go_wp2_with fail
  refine co.mono ?_
  rintro e w1 ⟨rfl, rfl⟩
  go_wp2_with fail
  go_ret
  exact ⟨rfl, rfl⟩
theorem turn_nil (w : World) : Calls Try.prog 30 #[.pointer none] w fun e w' => e = .returned (.int .i64 0) ∧ w = w' := by
  go_enter Try.func30, Try.ntmps30
  go_wp2
  go_ret
  exact ⟨rfl, rfl⟩
theorem kind_nil (w : World) (n : Int) : Calls Try.prog 11 #[.pointer none, .int .i64 n] w fun e w' => e = .returned (.int .i64 0) ∧ w = w' := by
  go_enter Try.func11, Try.ntmps11
  go_wp2
  go_ret
  exact ⟨rfl, rfl⟩
theorem pfree_nil (w : World) : Calls Try.prog 14 #[.pointer none] w fun e w' => e = .returned (.int .i64 0) ∧ w = w' := by
  go_enter Try.func14, Try.ntmps14
  go_wp2
  go_ret
  exact ⟨rfl, rfl⟩
theorem pheld_nil (w : World) : Calls Try.prog 16 #[.pointer none] w fun e w' => e = .returned (.int .i64 0) ∧ w = w' := by
  go_enter Try.func16, Try.ntmps16
  go_wp2
  go_ret
  exact ⟨rfl, rfl⟩
theorem pleft_nil (w : World) : Calls Try.prog 18 #[.pointer none] w fun e w' => e = .returned (.int .i64 0) ∧ w = w' := by
  go_enter Try.func18, Try.ntmps18
  go_wp2
  go_ret
  exact ⟨rfl, rfl⟩
theorem ids_nil (w : World) : Calls Try.prog 21 #[.pointer none] w fun e w' => e = .returned (.slice none 0 0) ∧ w = w' := by
  go_enter Try.func21, Try.ntmps21
  go_wp2
  go_ret
  exact ⟨rfl, rfl⟩
theorem late_nil (w : World) : Calls Try.prog 22 #[.pointer none] w fun e w' => e = .returned (.slice none 0 0) ∧ w = w' := by
  go_enter Try.func22, Try.ntmps22
  go_wp2
  go_ret
  exact ⟨rfl, rfl⟩
end Go.Proofs.Ytmijbplhmjledaa
