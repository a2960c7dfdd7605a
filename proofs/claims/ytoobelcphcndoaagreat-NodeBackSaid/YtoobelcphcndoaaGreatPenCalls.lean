/-
  The contracts of package pen with their results by equation.
-/
import Derived.Test.YtoobelcphcndoaaGreatPenE
namespace Go.Proofs.YtoobelcphcndoaaGreat
open Go.RowKit
set_option linter.unusedVariables false

/-- A new Out. -/
theorem newOut (w : World) : IsOut (w.alloc (.cells #[.slice none 0 0] 87)) w.heap.size (oneF w.heap.size) [] :=
  ⟨fun k hk => by have : k = w.heap.size := hk; subst this; simp, rfl, .slice none 0 0, block_alloc_new _ _, World.ownsRow_nil _ _ _ _, fun k hk => by simp [Value.ownBlock] at hk⟩

theorem IsOut.step {w w' : World} {p : Nat} {F : Nat → Prop} {bs : List UInt8} (h : IsOut w p F bs) (hs : Step noF w w') : IsOut w' p F bs := h.mono hs (fun _ _ x => x)

theorem num_call (wd : Int) (zs : List Int) (len : Nat) (hlen : len = zs.length) (hz : inI64 zs) (hzl : zs.length ≤ 1000) (a : Option Addr) (cap : Nat) (p : Nat) (F : Nat → Prop) (bs : List UInt8) (w : World) (ho : IsOut w p F bs) (hb : bs.length ≤ 900000)
    (hr : RowAt w F a (intsOf zs)) (bs2 : List UInt8) (h2 : bs ++ numB wd zs = bs2) (r : Int) (h3 : (if numV wd zs then 0 else 1) = r) :
    Calls Tryz.prog 93 #[.pointer (some ⟨p, 0, none⟩), .int .i64 wd, .slice a len cap] w fun e w' => e = .returned (.int .i64 r) ∧ OutPost w p F bs2 w' := by
  subst hlen h2 h3
  exact num_any wd zs hz hzl a cap p F bs w ho hb hr

theorem text_call (ts : List ByteArray) (len : Nat) (hlen : len = ts.length) (hzl : ts.length ≤ 1000) (hts : ∀ t ∈ ts, t.size ≤ maxLen) (a : Option Addr) (cap : Nat) (p : Nat) (F : Nat → Prop) (bs : List UInt8) (w : World) (ho : IsOut w p F bs) (hb : bs.length ≤ 600000)
    (hr : RowAt w F a (strsOf ts)) (bs2 : List UInt8) (h2 : bs ++ textB ts = bs2) (r : Int) (h3 : (if textV ts then 0 else 1) = r) :
    Calls Tryz.prog 95 #[.pointer (some ⟨p, 0, none⟩), .slice a len cap] w fun e w' => e = .returned (.int .i64 r) ∧ OutPost w p F bs2 w' := by
  subst hlen h2 h3
  exact text_any ts hzl hts a cap p F bs w ho hb hr

theorem inNum_call (wd : Int) (p : Nat) (l : List UInt8) (e0 : Int) (w : World) (h : IsIn w p l e0) (hl : l.length ≤ maxLen) (r : Int) (l2 : List UInt8) (e2 : Int) (h1 : numVal wd l = r) (h2 : numL wd l = l2) (h3 : numE wd l e0 = e2) :
    Calls Tryz.prog 55 #[.pointer (some ⟨p, 0, none⟩), .int .i64 wd] w fun e w' => e = .returned (.int .i64 r) ∧ Step (oneF p) w w' ∧ IsIn w' p l2 e2 := by
  subst h1 h2 h3
  exact inNum_any wd p l e0 w h hl
theorem inRaw_call (n : Int) (p : Nat) (l : List UInt8) (e0 : Int) (w : World) (h : IsIn w p l e0) (hl : l.length ≤ maxLen) (r : ByteArray) (l2 : List UInt8) (e2 : Int) (h1 : str (rawV n l) = r) (h2 : rawL n l = l2) (h3 : rawE n l e0 = e2) :
    Calls Tryz.prog 103 #[.pointer (some ⟨p, 0, none⟩), .int .i64 n] w fun e w' => e = .returned (.string r) ∧ Step (oneF p) w w' ∧ IsIn w' p l2 e2 := by
  subst h1 h2 h3
  exact inRaw_any n p l e0 w h hl
theorem end_call (p : Nat) (l : List UInt8) (e0 : Int) (w : World) (h : IsIn w p l e0) (r : Int) (h1 : endE l e0 = r) : Calls Tryz.prog 197 #[.pointer (some ⟨p, 0, none⟩)] w fun e w' => e = .returned (.int .i64 r) ∧ w = w' := by
  subst h1
  exact end_any p l e0 w h
end Go.Proofs.YtoobelcphcndoaaGreat
