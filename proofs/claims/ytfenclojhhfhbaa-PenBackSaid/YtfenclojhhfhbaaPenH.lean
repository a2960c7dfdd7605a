/-
  'awake' answers true, and touches nothing that was there.
-/
import Derived.Test.YtfenclojhhfhbaaPenG
namespace Go.Proofs.Ytfenclojhhfhbaa
open Go.RowKit
set_option linter.unusedVariables false

/-- A new Out. -/
theorem newOut (w : World) : IsOut (w.alloc (.cells #[.slice none 0 0] 27)) w.heap.size (oneF w.heap.size) [] :=
  ⟨fun k hk => by have : k = w.heap.size := hk; subst this; simp, rfl, .slice none 0 0, block_alloc_new _ _, World.ownsRow_nil _ _ _ _, fun k hk => by simp [Value.ownBlock] at hk⟩

theorem IsOut.step {w w' : World} {p : Nat} {F : Nat → Prop} {bs : List UInt8} (h : IsOut w p F bs) (hs : Step noF w w') : IsOut w' p F bs := h.mono hs (fun _ _ x => x)

/-- A row that a literal has just laid. -/
theorem rowAt_new (w : World) (F : Nat → Prop) (hF : ∀ k, F k → k < w.heap.size) (cs : Array Value) (t : TypeId) (g : Nat) (hg : g = w.heap.size) (xs : List Value) (hx : xs = cs.toList) : RowAt (w.alloc (.cells cs t)) F (some ⟨g, 0, none⟩) xs := by
  subst hg hx
  refine .inr ⟨w.heap.size, 0, rfl, fun h => by have := hF _ h; omega, fun j h => ?_⟩
  rw [cell_of_block (block_alloc_new w _)]
  simp at h
  simp [h]

theorem num_call (wd : Int) (zs : List Int) (len : Nat) (hlen : len = zs.length) (hz : inI64 zs) (hzl : zs.length ≤ 1000) (a : Option Addr) (cap : Nat) (p : Nat) (F : Nat → Prop) (bs : List UInt8) (w : World) (ho : IsOut w p F bs) (hb : bs.length ≤ 900000)
    (hr : RowAt w F a (intsOf zs)) (bs2 : List UInt8) (h2 : bs ++ numB wd zs = bs2) (r : Int) (h3 : (if numV wd zs then 0 else 1) = r) :
    Calls Try.prog 8 #[.pointer (some ⟨p, 0, none⟩), .int .i64 wd, .slice a len cap] w fun e w' => e = .returned (.int .i64 r) ∧ OutPost w p F bs2 w' := by
  subst hlen h2 h3
  exact num_any wd zs hz hzl a cap p F bs w ho hb hr

theorem text_call (ts : List ByteArray) (len : Nat) (hlen : len = ts.length) (hzl : ts.length ≤ 1000) (hts : ∀ t ∈ ts, t.size ≤ maxLen) (a : Option Addr) (cap : Nat) (p : Nat) (F : Nat → Prop) (bs : List UInt8) (w : World) (ho : IsOut w p F bs) (hb : bs.length ≤ 600000)
    (hr : RowAt w F a (strsOf ts)) (bs2 : List UInt8) (h2 : bs ++ textB ts = bs2) (r : Int) (h3 : (if textV ts then 0 else 1) = r) :
    Calls Try.prog 10 #[.pointer (some ⟨p, 0, none⟩), .slice a len cap] w fun e w' => e = .returned (.int .i64 r) ∧ OutPost w p F bs2 w' := by
  subst hlen h2 h3
  exact text_any ts hzl hts a cap p F bs w ho hb hr

theorem inNum_call (wd : Int) (p : Nat) (l : List UInt8) (e0 : Int) (w : World) (h : IsIn w p l e0) (hl : l.length ≤ maxLen) (r : Int) (l2 : List UInt8) (e2 : Int) (h1 : numVal wd l = r) (h2 : numL wd l = l2) (h3 : numE wd l e0 = e2) :
    Calls Try.prog 15 #[.pointer (some ⟨p, 0, none⟩), .int .i64 wd] w fun e w' => e = .returned (.int .i64 r) ∧ Step (oneF p) w w' ∧ IsIn w' p l2 e2 := by
  subst h1 h2 h3
  exact inNum_any wd p l e0 w h hl
theorem inRaw_call (n : Int) (p : Nat) (l : List UInt8) (e0 : Int) (w : World) (h : IsIn w p l e0) (hl : l.length ≤ maxLen) (r : ByteArray) (l2 : List UInt8) (e2 : Int) (h1 : str (rawV n l) = r) (h2 : rawL n l = l2) (h3 : rawE n l e0 = e2) :
    Calls Try.prog 19 #[.pointer (some ⟨p, 0, none⟩), .int .i64 n] w fun e w' => e = .returned (.string r) ∧ Step (oneF p) w w' ∧ IsIn w' p l2 e2 := by
  subst h1 h2 h3
  exact inRaw_any n p l e0 w h hl
theorem end_call (p : Nat) (l : List UInt8) (e0 : Int) (w : World) (h : IsIn w p l e0) (r : Int) (h1 : endE l e0 = r) : Calls Try.prog 23 #[.pointer (some ⟨p, 0, none⟩)] w fun e w' => e = .returned (.int .i64 r) ∧ w = w' := by
  subst h1
  exact end_any p l e0 w h
theorem left_call (p : Nat) (l : List UInt8) (e0 : Int) (w : World) (h : IsIn w p l e0) (r : Int) (h1 : (l.length : Int) = r) : Calls Try.prog 21 #[.pointer (some ⟨p, 0, none⟩)] w fun e w' => e = .returned (.int .i64 r) ∧ w = w' := by
  subst h1
  exact left_any p l e0 w h
theorem len_call (p : Nat) (F : Nat → Prop) (bs : List UInt8) (w : World) (ho : IsOut w p F bs) (r : Int) (h1 : (bs.length : Int) = r) : Calls Try.prog 13 #[.pointer (some ⟨p, 0, none⟩)] w fun e w' => e = .returned (.int .i64 r) ∧ w = w' := by
  subst h1
  exact len_any p F bs w ho

theorem le_max {n : Nat} (h : n ≤ 9223372036854775807) : n ≤ maxLen := by unfold maxLen; omega

set_option maxHeartbeats 1000000 in
theorem awake_any (w : World) : Calls Try.prog 6 #[] w fun e w' => e = .returned (.bool true) ∧ Step noF w w' := by
  go_enter Try.func6, Try.ntmps6
  go_wp2_with fail
  have o0 := newOut w
  refine (num_call 2 [258, 3] 2 rfl (by unfold inI64; decide) (by decide) _ 2 w.heap.size (oneF w.heap.size) [] _ (o0.step ((Step.refl _ _).alloc _)) (by decide) (rowAt_new _ _ o0.lt _ _ _ (by simp) _ rfl) [1, 2, 0, 3] (by decide) 0 (by decide)).mono ?_
  rintro e w1 ⟨rfl, F1, s1, o1, n1⟩
  go_wp2_with fail
  refine (num_call 1 [7, 256] 2 rfl (by unfold inI64; decide) (by decide) _ 2 w.heap.size F1 [1, 2, 0, 3] _ (o1.step ((Step.refl _ _).alloc _)) (by decide) (rowAt_new _ _ o1.lt _ _ _ rfl _ rfl) [1, 2, 0, 3] (by decide) 1 (by decide)).mono ?_
  rintro e w2 ⟨rfl, F2, s2, o2, n2⟩
  go_wp2_with fail
  refine (text_call [⟨#[97, 98]⟩] 1 rfl (by decide) (by intro t ht; simp at ht; subst ht; exact le_max (by decide)) _ 1 w.heap.size F2 [1, 2, 0, 3] _ (o2.step ((Step.refl _ _).alloc _)) (by decide) (rowAt_new _ _ o2.lt _ _ _ rfl _ rfl) [1, 2, 0, 3, 2, 97, 98] (by decide) 0 (by decide)).mono ?_
  rintro e w3 ⟨rfl, F3, s3, o3, n3⟩
  go_wp2_with fail
  refine (of_any [1, 2, 33] _).mono ?_
  rintro e w4 ⟨rfl, s4, i4, z4⟩
  have o4 := o3.step s4
  go_wp2_with fail
  refine (bytes_any _ F3 _ _ o4).mono ?_
  rintro e w5 ⟨rfl, rfl⟩
  go_wp2_with fail
  refine (len_call _ F3 _ _ o4 7 rfl).mono ?_
  rintro e w5 ⟨rfl, rfl⟩
  go_wp2_with fail
  refine (inNum_call 2 _ [1, 2, 33] 0 _ i4 (le_max (by decide)) 258 [33] 0 (by decide) (by decide) (by decide)).mono ?_
  rintro e w5 ⟨rfl, s5, i5⟩
  go_wp2_with fail
  refine (left_call _ _ _ _ i5 1 rfl).mono ?_
  rintro e w6 ⟨rfl, rfl⟩
  go_wp2_with fail
  refine (end_call _ _ _ _ i5 5 rfl).mono ?_
  rintro e w6 ⟨rfl, rfl⟩
  go_wp2_with fail
  refine (inRaw_call 1 _ _ _ _ i5 (le_max (by decide)) ⟨#[33]⟩ [] 0 rfl (by decide) (by decide)).mono ?_
  rintro e w6 ⟨rfl, s6, i6⟩
  go_wp2_with fail
  refine (end_call _ _ _ _ i6 0 rfl).mono ?_
  rintro e w7 ⟨rfl, rfl⟩
  go_wp2_with fail
  go_ret
  refine ⟨rfl, ?_⟩
  have z1 := s1.size
  have z2 := s2.size
  have z3 := s3.size
  simp at z1 z2 z3
  have g1 : ∀ j, F1 j → w.heap.size ≤ j := fun j hj => by rcases n1 j hj with h | h; exact Nat.le_of_eq h.symm; simp at h; omega
  have g2 : ∀ j, F2 j → w.heap.size ≤ j := fun j hj => by rcases n2 j hj with h | h; exact g1 j h; simp at h; omega
  have a1 : Step noF w w1 := (((Step.refl noF w).alloc _).alloc _).then s1 (fun j hj => .inr (Nat.le_of_eq hj.symm))
  have a2 : Step noF w w2 := (a1.alloc _).then s2 (fun j hj => .inr (g1 j hj))
  have a3 : Step noF w w3 := (a2.alloc _).then s3 (fun j hj => .inr (g2 j hj))
  have a4 : Step noF w w4 := a3.then s4 (fun j hj => hj.elim)
  have a5 : Step noF w w5 := a4.then s5 (fun j hj => .inr (by rw [show j = w3.heap.size from hj]; omega))
  exact a5.then s6 (fun j hj => .inr (by rw [show j = w3.heap.size from hj]; omega))
end Go.Proofs.Ytfenclojhhfhbaa
