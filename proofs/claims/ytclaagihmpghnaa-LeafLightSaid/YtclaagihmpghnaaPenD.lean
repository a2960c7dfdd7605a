/-
  What an In does: Of, fail, Raw, Left, Err, End, of an In and of nil. The plain functions that say it.
-/
import Derived.Test.YtclaagihmpghnaaPenC
namespace Go.Proofs.Ytclaagihmpghnaa
open Go.RowKit
set_option linter.unusedVariables false

theorem Step.setOne {p : Nat} {a b : World} (h : Step (oneF p) a b) (j : Nat) (v : Value) : Step (oneF p) a (b.setCell ⟨p, j, none⟩ v) := h.setCell (p := ⟨p, j, none⟩) (.inl rfl) v

/-- What is left of a text, and whether something was wrong (0, or 5). -/
def rawV (n : Int) (l : List UInt8) : List UInt8 := if 0 ≤ n ∧ n ≤ l.length then l.take n.toNat else []
def rawL (n : Int) (l : List UInt8) : List UInt8 := if 0 ≤ n ∧ n ≤ l.length then l.drop n.toNat else []
def rawE (n : Int) (l : List UInt8) (e : Int) : Int := if 0 ≤ n ∧ n ≤ l.length then e else 5

/-- The In at block p. -/
def IsIn (w : World) (p : Nat) (l : List UInt8) (e : Int) : Prop := w.heap[p]? = some (.cells #[.string (str l), .int .i64 e] 138 (0, 0))
theorem IsIn.c0 {w : World} {p : Nat} {l : List UInt8} {e : Int} (h : IsIn w p l e) : w.cell? ⟨p, 0, none⟩ = some (.string (str l)) := by simpa using cell_of_block h 0
theorem IsIn.c1 {w : World} {p : Nat} {l : List UInt8} {e : Int} (h : IsIn w p l e) : w.cell? ⟨p, 1, none⟩ = some (.int .i64 e) := by simpa using cell_of_block h 1
theorem IsIn.f {w : World} {p : Nat} {l : List UInt8} {e : Int} (h : IsIn w p l e) (j : Nat) : w.frozen? ⟨p, j, none⟩ = false := frozen_of_block h j
theorem IsIn.set0 {w : World} {p : Nat} {l : List UInt8} {e : Int} (h : IsIn w p l e) (l2 : List UInt8) : IsIn (w.setCell ⟨p, 0, none⟩ (.string (str l2))) p l2 e := by
  have := block_setCell h 0 (.string (str l2)); simpa [IsIn] using this
theorem IsIn.set1 {w : World} {p : Nat} {l : List UInt8} {e : Int} (h : IsIn w p l e) (e2 : Int) : IsIn (w.setCell ⟨p, 1, none⟩ (.int .i64 e2)) p l e2 := by
  have := block_setCell h 1 (.int .i64 e2); simpa [IsIn] using this
theorem IsIn.mono {w w' : World} {p : Nat} {l : List UInt8} {e : Int} {G : Nat → Prop} (h : IsIn w p l e) (hs : Step G w w') (hd : ¬ G p) : IsIn w' p l e := (hs.block p (lt_of_block h) hd).trans h
theorem IsIn.alloc {w : World} {p : Nat} {l : List UInt8} {e : Int} (h : IsIn w p l e) (o : Obj) : IsIn (w.alloc o) p l e := block_alloc_old h o

set_option maxHeartbeats 400000 in
theorem of_any (l : List UInt8) (w : World) : Calls Try.prog 99 #[.string (str l)] w fun e w' => e = .returned (.pointer (some ⟨w.heap.size, 0, none⟩)) ∧ Step noF w w' ∧ IsIn w' w.heap.size l 0 ∧ w'.heap.size = w.heap.size + 1 := by
  go_enter Try.func99, Try.ntmps99
  go_wp2
  go_ret
  exact ⟨rfl, (Step.refl _ _).alloc _, block_alloc_new _ _, by simp⟩

set_option maxHeartbeats 400000 in
theorem fail_any (p : Nat) (l : List UInt8) (e0 : Int) (w : World) (h : IsIn w p l e0) : Calls Try.prog 111 #[.pointer (some ⟨p, 0, none⟩)] w fun e w' => e = .returned (.tuple #[]) ∧ Step (oneF p) w w' ∧ IsIn w' p [] 5 := by
  have c0 := h.c0
  have c1 := h.c1
  have f0 := h.f 0
  have f1 := h.f 1
  have H := hid h
  clear h
  go_enter Try.func111, Try.ntmps111
  go_wp2
  go_end0
  exact ⟨rfl, ((Step.refl (oneF p) _).setOne _ _).setOne _ _, (H.out.set0 []).set1 5⟩

set_option maxHeartbeats 400000 in
theorem inRaw_nil (n : Int) (w : World) : Calls Try.prog 112 #[.pointer none, .int .i64 n] w fun e w' => e = .returned (.string (str [])) ∧ w = w' := by
  go_enter Try.func112, Try.ntmps112
  go_wp2
  go_ret
  exact ⟨rfl, rfl⟩

set_option maxHeartbeats 400000 in
theorem inRaw_any (n : Int) (p : Nat) (l : List UInt8) (e0 : Int) (w : World) (h : IsIn w p l e0) (hl : l.length ≤ maxLen) :
    Calls Try.prog 112 #[.pointer (some ⟨p, 0, none⟩), .int .i64 n] w fun e w' => e = .returned (.string (str (rawV n l))) ∧ Step (oneF p) w w' ∧ IsIn w' p (rawL n l) (rawE n l e0) := by
  unfold maxLen at hl
  have c0 := h.c0
  have f0 := h.f 0
  have hsz := str_size l
  have hext := str_extract l
  generalize hs : str l = s at c0 hsz hext
  by_cases hn : 0 ≤ n ∧ n ≤ l.length
  · obtain ⟨k, rfl⟩ := Int.eq_ofNat_of_zero_le hn.1
    have hk : k ≤ s.size := by omega
    have e1 : Hid (s.extract 0 k = str (rawV k l)) := by show _ = _; rw [hext]; simp [rawV]; rw [if_pos (by omega)]
    have e2 : Hid (s.extract k s.size = str (rawL k l)) := by show _ = _; rw [hext, hsz]; simp [rawL]; rw [if_pos (by omega)]
    have e3 : Hid (rawE k l e0 = e0) := by show _ = _; simp [rawE]; intro; omega
    have H := hid h
    have hs2 : s.size ≤ 9223372036854775807 := by omega
    clear h hext hs hsz hn
    go_enter Try.func112, Try.ntmps112
    go_wp2
    go_ret
    rw [e3.out]
    refine ⟨ret_str e1.out, ?_, ?_⟩
    · exact (Step.refl (oneF p) _).setOne _ _
    · rw [e2.out]
      exact H.out.set0 _
  · have hn2 : n < 0 ∨ (s.size : Int) < n := by omega
    have e1 : Hid (str [] = str (rawV n l)) := by show _ = _; rw [rawV, if_neg hn]
    have e2 : Hid (rawL n l = []) := by show _ = _; rw [rawL, if_neg hn]
    have e3 : Hid (rawE n l e0 = 5) := by show _ = _; rw [rawE, if_neg hn]
    clear hext hs hsz hn
    have H := hid h
    clear h
    rcases hn2 with hn2 | hn2
    · go_enter Try.func112, Try.ntmps112
      go_wp2_with (go_at_call 111; refine (fail_any p l e0 _ H.out).mono ?_; rintro e w' ⟨rfl, hst, hin⟩)
      go_ret
      rw [e2.out, e3.out]
      exact ⟨ret_str e1.out, hst, hin⟩
    · go_enter Try.func112, Try.ntmps112
      go_wp2_with (go_at_call 111; refine (fail_any p l e0 _ H.out).mono ?_; rintro e w' ⟨rfl, hst, hin⟩)
      all_goals go_ret
      all_goals rw [e2.out, e3.out]
      all_goals exact ⟨ret_str e1.out, hst, hin⟩

def endE (l : List UInt8) (e : Int) : Int := if l.length = 0 then e else 5
set_option maxHeartbeats 400000 in
theorem end_nil (w : World) : Calls Try.prog 101 #[.pointer none] w fun e w' => e = .returned (.int .i64 2) ∧ w = w' := by
  go_enter Try.func101, Try.ntmps101
  go_wp2
  go_ret
  exact ⟨rfl, rfl⟩
set_option maxHeartbeats 400000 in
theorem end_any (p : Nat) (l : List UInt8) (e0 : Int) (w : World) (h : IsIn w p l e0) : Calls Try.prog 101 #[.pointer (some ⟨p, 0, none⟩)] w fun e w' => e = .returned (.int .i64 (endE l e0)) ∧ w = w' := by
  have c0 := h.c0
  have c1 := h.c1
  have hsz := str_size l
  generalize str l = s at c0 hsz
  clear h
  by_cases h0 : l.length = 0
  · have hE : Hid (e0 = endE l e0) := by show _ = _; simp [endE, h0]
    have hs0 : s.size = 0 := by omega
    clear hsz h0
    go_enter Try.func101, Try.ntmps101
    go_wp2
    go_ret
    exact ⟨ret_int hE.out, rfl⟩
  · have hE : Hid (5 = endE l e0) := by show _ = _; simp [endE, h0]
    have hs0 : 0 < s.size := by omega
    clear hsz h0
    go_enter Try.func101, Try.ntmps101
    go_wp2
    go_ret
    exact ⟨ret_int hE.out, rfl⟩
end Go.Proofs.Ytclaagihmpghnaa
