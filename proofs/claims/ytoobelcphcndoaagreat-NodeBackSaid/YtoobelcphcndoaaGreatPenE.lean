/-
  What an In's Num and Text do.
-/
import Derived.Test.YtoobelcphcndoaaGreatPenA
import Derived.Laws.IdiomStrings
namespace Go.Proofs.YtoobelcphcndoaaGreat
open Go.RowKit
set_option linter.unusedVariables false

/-- The number of bytes, the highest first. -/
def beN (l : List UInt8) : Nat := l.foldl (fun a b => a * 256 + b.toNat) 0
theorem beN_snoc (l : List UInt8) (b : UInt8) : beN (l ++ [b]) = beN l * 256 + b.toNat := by simp [beN]
theorem beN_lt' : ∀ n (l : List UInt8), l.length = n → beN l < 256 ^ n
  | 0, l, h => by rw [List.eq_nil_of_length_eq_zero h]; simp [beN]
  | n + 1, l, h => by
    obtain ⟨m, b, rfl⟩ : ∃ m b, l = m ++ [b] := ⟨l.dropLast, l.getLast (by intro e; simp [e] at h), (List.dropLast_concat_getLast _).symm⟩
    have ih := beN_lt' n m (by simpa using h)
    rw [beN_snoc]
    have := UInt8.toNat_lt b
    rw [Nat.pow_succ]
    omega
theorem beN_lt (l : List UInt8) : beN l < 256 ^ l.length := beN_lt' _ l rfl

/-- What a []byte of a string lays. -/
def bytesObj (s : ByteArray) (cap : Nat) (e : TypeId) : Obj := .cells (bytesRow s cap) e ((bytesRow s cap).size, (bytesRow s cap).size + 1)
theorem run_bytes_str {P : Program} (w : World) (src dst e : TypeId) (l : List UInt8) (hs : P.underlying src = some .string) (hd : P.underlying dst = some (.slice e)) (he : P.underlying e = some (.int .u8)) :
    (convert src dst (.string (str l))).run P w = .ok (.slice (some ⟨w.heap.size, 0, none⟩) l.length (grownCap w l.length 0 e)) (w.drew.alloc (bytesObj (str l) (grownCap w l.length 0 e) e)) := by
  have := run_bytes_of_string (P := P) w src dst e (str l) hs hd he
  rw [str_size] at this
  exact this
theorem bytesObj_cell (w : World) (l : List UInt8) (cap : Nat) (e : TypeId) (j : Nat) (hj : j < l.length) : (w.alloc (bytesObj (str l) cap e)).cell? ⟨w.heap.size, j, none⟩ = some (.int .u8 (l[j].toNat : Int)) := by
  unfold bytesObj
  rw [World.cell?_alloc_mark, bytesRow_at _ _ _ (by simpa [str] using hj)]
  simp [str]

theorem or_low (a b : Nat) (ha : a < 72057594037927936) (hb : b < 256) : bits .or .u64 ((a : Int) * 256) (b : Int) = ((a * 256 + b : Nat) : Int) := by
  have e : ((a : Int) * 256) = ((a * 256 : Nat) : Int) := by omega
  rw [e, u64_or_nat (a * 256) b (by omega) (by omega)]
  have := Nat.two_pow_add_eq_or_of_lt (b := b) (i := 8) (by omega) a
  rw [show a * 256 = 2 ^ 8 * a by omega, ← this]

def numOk (wd : Int) (l : List UInt8) : Bool := isW wd && decide (beN (rawV wd l) ≤ 9223372036854775807)
def numVal (wd : Int) (l : List UInt8) : Int := if numOk wd l then beN (rawV wd l) else 0
def numL (wd : Int) (l : List UInt8) : List UInt8 := if numOk wd l then rawL wd l else []
def numE (wd : Int) (l : List UInt8) (e : Int) : Int := if numOk wd l then rawE wd l e else 5

set_option maxHeartbeats 400000 in
theorem inNum_nil (n : Int) (w : World) : Calls Tryz.prog 55 #[.pointer none, .int .i64 n] w fun e w' => e = .returned (.int .i64 0) ∧ w = w' := by
  go_enter Tryz.func55, Tryz.ntmps55
  go_wp2
  go_ret
  exact ⟨rfl, rfl⟩

set_option maxHeartbeats 400000 in
theorem inNum_wide (wd : Int) (hw : isW wd = false) (p : Nat) (l : List UInt8) (e0 : Int) (w : World) (h : IsIn w p l e0) :
    Calls Tryz.prog 55 #[.pointer (some ⟨p, 0, none⟩), .int .i64 wd] w fun e w' => e = .returned (.int .i64 0) ∧ Step (oneF p) w w' ∧ IsIn w' p [] 5 := by
  have H := hid h
  clear h
  go_enter Tryz.func55, Tryz.ntmps55
  go_wp2_with (first | (go_at_call 101; refine (isWidth_any _ _).mono ?_; rintro e w' ⟨rfl, rfl⟩) | (go_at_call 102; refine (fail_any p l e0 _ H.out).mono ?_; rintro e w2 ⟨rfl, hst, hin⟩))
  go_ret
  exact ⟨rfl, hst, hin⟩

set_option maxHeartbeats 1000000 in
theorem inNum_in (k : Nat) (hk : k = 1 ∨ k = 2 ∨ k = 4 ∨ k = 8) (p : Nat) (l : List UInt8) (e0 : Int) (w : World) (h : IsIn w p l e0) (hl : l.length ≤ maxLen) :
    Calls Tryz.prog 55 #[.pointer (some ⟨p, 0, none⟩), .int .i64 k] w fun e w' => Step (oneF p) w w' ∧
      ((beN (rawV k l) ≤ 9223372036854775807 ∧ e = .returned (.int .i64 (beN (rawV k l))) ∧ IsIn w' p (rawL k l) (rawE k l e0)) ∨ (9223372036854775807 < beN (rawV k l) ∧ e = .returned (.int .i64 0) ∧ IsIn w' p [] 5)) := by
  have hw : isW (k : Int) = true := by rw [isW_iff]; omega
  have hcv := fun w l => run_bytes_str (P := Tryz.prog) w 9 85 5 l Tryz.underlying9 Tryz.underlying85 Tryz.underlying5
  have hvl : (rawV (k : Int) l).length ≤ 8 := by unfold rawV; split <;> simp; omega
  have hpl : p < w.heap.size := lt_of_block h
  generalize ht : rawV (k : Int) l = t at hvl ⊢
  have HT := hid ht
  clear ht
  have H := hid h
  clear h
  go_enter Tryz.func55, Tryz.ntmps55
  go_wp2_with (first | (go_at_call 101; refine (isWidth_any _ _).mono ?_; rintro e w' ⟨rfl, rfl⟩) | (go_at_call 103; refine (inRaw_any k p l e0 _ H.out hl).mono ?_; rintro e w2 ⟨rfl, hst, hin⟩; rw [HT.out]; have HI := hid hin; clear hin))
  clear hcv
  go_loop [5, 20] (fun n i => ∃ j : Nat, j ≤ t.length ∧ i = .int .i64 j ∧ n = .int .u64 (beN (t.take j))) (fun _ i => t.length - (intOf i).toNat)
  case atStart => exact ⟨0, Nat.zero_le _, rfl, rfl⟩
  case round =>
    obtain ⟨j, hj, rfl, rfl⟩ := hrel
    by_cases hlt : j < t.length
    · have hc := bytesObj_cell w2 t (grownCap w2 t.length 0 5) 5 j hlt
      have hb : beN (t.take j) < 72057594037927936 := by
        have h1 := beN_lt (t.take j)
        have h2 : 256 ^ (t.take j).length ≤ 256 ^ 7 := Nat.pow_le_pow_right (by omega) (by rw [List.length_take]; omega)
        omega
      have hb2 := UInt8.toNat_lt t[j]
      have HO : Hid (bits .or .u64 ((beN (t.take j) : Int) * 256) (t[j].toNat : Int) = (beN (t.take (j + 1)) : Int)) := by
        show _ = _
        rw [or_low _ _ hb (by omega), List.take_succ_eq_append_getElem hlt, beN_snoc]
      go_wp2
      go_round
      case rel => exact ⟨j + 1, by omega, by go_num, int_eq HO.out⟩
      case measure => simp [intOf]; omega
    · have hj2 : t.take j = t := List.take_of_length_le (by omega)
      rw [hj2]
      by_cases hm : 9223372036854775807 < beN t
      · have HI2 : Hid (IsIn (w2.alloc (bytesObj (str t) (grownCap w2 t.length 0 5) 5)).drew p (rawL k l) (rawE k l e0)) := HI.out.alloc _
        go_wp2_with (go_at_call 102; refine (fail_any p _ _ _ HI2.out).mono ?_; rintro e w3 ⟨rfl, hst2, hin2⟩)
        go_ret
        exact ⟨((hst.alloc _).drew).trans hst2, .inr ⟨hm, rfl, hin2⟩⟩
      · go_wp2
        go_ret
        exact ⟨(hst.alloc _).drew, by omega, rfl, HI.out.alloc _⟩

theorem inNum_any (wd : Int) (p : Nat) (l : List UInt8) (e0 : Int) (w : World) (h : IsIn w p l e0) (hl : l.length ≤ maxLen) :
    Calls Tryz.prog 55 #[.pointer (some ⟨p, 0, none⟩), .int .i64 wd] w fun e w' => e = .returned (.int .i64 (numVal wd l)) ∧ Step (oneF p) w w' ∧ IsIn w' p (numL wd l) (numE wd l e0) := by
  cases hw : isW wd
  · refine (inNum_wide wd hw p l e0 w h).mono ?_
    rintro e w' ⟨rfl, h1, h2⟩
    have h3 : numOk wd l = false := by simp [numOk, hw]
    simp only [numVal, numL, numE, h3]
    exact ⟨rfl, h1, h2⟩
  · have hk := (isW_iff wd).1 hw
    obtain ⟨k, rfl⟩ := Int.eq_ofNat_of_zero_le (show 0 ≤ wd by omega)
    refine (inNum_in k (by omega) p l e0 w h hl).mono ?_
    rintro e w' ⟨h1, (⟨h2, rfl, h3⟩ | ⟨h2, rfl, h3⟩)⟩
    · have h4 : numOk (k : Int) l = true := by simp [numOk, hw, h2]
      simp only [numVal, numL, numE, h4]
      exact ⟨rfl, h1, h3⟩
    · have h4 : numOk (k : Int) l = false := by simp [numOk]; intro _; omega
      simp only [numVal, numL, numE, h4]
      exact ⟨rfl, h1, h3⟩

theorem numL_len (wd : Int) (l : List UInt8) : (numL wd l).length ≤ l.length := by
  unfold numL rawL
  split
  · split <;> simp
  · simp
theorem rawL_len (n : Int) (l : List UInt8) : (rawL n l).length ≤ l.length := by
  unfold rawL
  split <;> simp

def textVal (most : Int) (l : List UInt8) : List UInt8 := if most < numVal 1 l then [] else rawV (numVal 1 l) (numL 1 l)
def textL (most : Int) (l : List UInt8) : List UInt8 := if most < numVal 1 l then [] else rawL (numVal 1 l) (numL 1 l)
def textE (most : Int) (l : List UInt8) (e : Int) : Int := if most < numVal 1 l then 5 else rawE (numVal 1 l) (numL 1 l) (numE 1 l e)

set_option maxHeartbeats 400000 in
theorem inText_nil (n : Int) (w : World) : Calls Tryz.prog 166 #[.pointer none, .int .i64 n] w fun e w' => e = .returned (.string (str [])) ∧ w = w' := by
  go_enter Tryz.func166, Tryz.ntmps166
  go_wp2
  go_ret
  exact ⟨rfl, rfl⟩

set_option maxHeartbeats 400000 in
theorem inText_any (most : Int) (p : Nat) (l : List UInt8) (e0 : Int) (w : World) (h : IsIn w p l e0) (hl : l.length ≤ maxLen) :
    Calls Tryz.prog 166 #[.pointer (some ⟨p, 0, none⟩), .int .i64 most] w fun e w' => e = .returned (.string (str (textVal most l))) ∧ Step (oneF p) w w' ∧ IsIn w' p (textL most l) (textE most l e0) := by
  have H := hid h
  clear h
  have hl2 : Hid ((numL 1 l).length ≤ maxLen) := Nat.le_trans (numL_len 1 l) hl
  by_cases hm : most < numVal 1 l
  · have hE : Hid (textVal most l = [] ∧ textL most l = [] ∧ textE most l e0 = 5) := ⟨if_pos hm, if_pos hm, if_pos hm⟩
    rw [hE.out.1, hE.out.2.1, hE.out.2.2]
    go_enter Tryz.func166, Tryz.ntmps166
    go_wp2_with (first | (go_at_call 55; refine (inNum_any 1 p l e0 _ H.out hl).mono ?_; rintro e w2 ⟨rfl, hst, hin⟩; have HI := hid hin; clear hin) | (go_at_call 102; refine (fail_any p _ _ _ HI.out).mono ?_; rintro e w3 ⟨rfl, hst2, hin2⟩))
    go_ret
    exact ⟨rfl, hst.trans hst2, hin2⟩
  · have hE : Hid (textVal most l = rawV (numVal 1 l) (numL 1 l) ∧ textL most l = rawL (numVal 1 l) (numL 1 l) ∧ textE most l e0 = rawE (numVal 1 l) (numL 1 l) (numE 1 l e0)) := ⟨if_neg hm, if_neg hm, if_neg hm⟩
    rw [hE.out.1, hE.out.2.1, hE.out.2.2]
    go_enter Tryz.func166, Tryz.ntmps166
    go_wp2_with (first | (go_at_call 55; refine (inNum_any 1 p l e0 _ H.out hl).mono ?_; rintro e w2 ⟨rfl, hst, hin⟩; have HI := hid hin; clear hin) | (go_at_call 103; refine (inRaw_any _ p _ _ _ HI.out hl2.out).mono ?_; rintro e w3 ⟨rfl, hst2, hin2⟩))
    go_ret
    exact ⟨rfl, hst.trans hst2, hin2⟩
end Go.Proofs.YtoobelcphcndoaaGreat
