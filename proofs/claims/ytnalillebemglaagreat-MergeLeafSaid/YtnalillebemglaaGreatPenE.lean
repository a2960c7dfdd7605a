/-
  What an In's Num and Text do.
  The contracts of package pen with their results by equation.
  What the document's own answers do (package grangerref01): Num, Text.
-/
import Derived.Test.YtnalillebemglaaGreatPenA
import Derived.Laws.IdiomStrings
namespace Go.Proofs.YtnalillebemglaaGreat
open Go.RowKit
set_option linter.unusedVariables false

/-- The number of bytes, the highest first. -/
def beN (l : List UInt8) : Nat := l.foldl (fun a b => a * 256 + b.toNat) 0
theorem beN_snoc (l : List UInt8) (b : UInt8) : beN (l ++ [b]) = beN l * 256 + b.toNat := by simp [beN]
theorem beN_lt' : ∀ n (l : List UInt8), l.length = n → beN l < 256 ^ n
  | 0, l, h => by rw [List.eq_nil_of_length_eq_zero h]; simp [beN]
  | n + 1, l, h => by
    obtain ⟨m, b, rfl⟩ : ∃ m b, l = m ++ [b] := ⟨l.dropLast, l.getLast (by intro e; simp [e] at h), (List.dropLast_concat_getLast _).symm⟩
    have ih := beN_lt' n m (by simpa using h)
    rw [beN_snoc]
    have := UInt8.toNat_lt b
    rw [Nat.pow_succ]
    omega
theorem beN_lt (l : List UInt8) : beN l < 256 ^ l.length := beN_lt' _ l rfl

/-- What a []byte of a string lays. -/
def bytesObj (s : ByteArray) (cap : Nat) (e : TypeId) : Obj := .cells (bytesRow s cap) e ((bytesRow s cap).size, (bytesRow s cap).size + 1)
theorem run_bytes_str {P : Program} (w : World) (src dst e : TypeId) (l : List UInt8) (hs : P.underlying src = some .string) (hd : P.underlying dst = some (.slice e)) (he : P.underlying e = some (.int .u8)) :
    (convert src dst (.string (str l))).run P w = .ok (.slice (some ⟨w.heap.size, 0, none⟩) l.length (grownCap w l.length 0 e)) (w.drew.alloc (bytesObj (str l) (grownCap w l.length 0 e) e)) := by
  have := run_bytes_of_string (P := P) w src dst e (str l) hs hd he
  rw [str_size] at this
  exact this
theorem bytesObj_cell (w : World) (l : List UInt8) (cap : Nat) (e : TypeId) (j : Nat) (hj : j < l.length) : (w.alloc (bytesObj (str l) cap e)).cell? ⟨w.heap.size, j, none⟩ = some (.int .u8 (l[j].toNat : Int)) := by
  unfold bytesObj
  rw [World.cell?_alloc_mark, bytesRow_at _ _ _ (by simpa [str] using hj)]
  simp [str]

theorem or_low (a b : Nat) (ha : a < 72057594037927936) (hb : b < 256) : bits .or .u64 ((a : Int) * 256) (b : Int) = ((a * 256 + b : Nat) : Int) := by
  have e : ((a : Int) * 256) = ((a * 256 : Nat) : Int) := by omega
  rw [e, u64_or_nat (a * 256) b (by omega) (by omega)]
  have := Nat.two_pow_add_eq_or_of_lt (b := b) (i := 8) (by omega) a
  rw [show a * 256 = 2 ^ 8 * a by omega, ← this]

def numOk (wd : Int) (l : List UInt8) : Bool := isW wd && decide (beN (rawV wd l) ≤ 9223372036854775807)
def numVal (wd : Int) (l : List UInt8) : Int := if numOk wd l then beN (rawV wd l) else 0
def numL (wd : Int) (l : List UInt8) : List UInt8 := if numOk wd l then rawL wd l else []
def numE (wd : Int) (l : List UInt8) (e : Int) : Int := if numOk wd l then rawE wd l e else 5

set_option maxHeartbeats 400000 in
theorem inNum_nil (n : Int) (w : World) : Calls Tryz.prog 115 #[.pointer none, .int .i64 n] w fun e w' => e = .returned (.int .i64 0) ∧ w = w' := by
  go_enter Tryz.func115, Tryz.ntmps115
  go_wp2
  go_ret
  exact ⟨rfl, rfl⟩

set_option maxHeartbeats 400000 in
theorem inNum_wide (wd : Int) (hw : isW wd = false) (p : Nat) (l : List UInt8) (e0 : Int) (w : World) (h : IsIn w p l e0) :
    Calls Tryz.prog 115 #[.pointer (some ⟨p, 0, none⟩), .int .i64 wd] w fun e w' => e = .returned (.int .i64 0) ∧ Step (oneF p) w w' ∧ IsIn w' p [] 5 := by
  have H := hid h
  clear h
  go_enter Tryz.func115, Tryz.ntmps115
  go_wp2_with (first | (go_at_call 102; refine (isWidth_any _ _).mono ?_; rintro e w' ⟨rfl, rfl⟩) | (go_at_call 119; refine (fail_any p l e0 _ H.out).mono ?_; rintro e w2 ⟨rfl, hst, hin⟩))
  go_ret
  exact ⟨rfl, hst, hin⟩

set_option maxHeartbeats 1000000 in
theorem inNum_in (k : Nat) (hk : k = 1 ∨ k = 2 ∨ k = 4 ∨ k = 8) (p : Nat) (l : List UInt8) (e0 : Int) (w : World) (h : IsIn w p l e0) (hl : l.length ≤ maxLen) :
    Calls Tryz.prog 115 #[.pointer (some ⟨p, 0, none⟩), .int .i64 k] w fun e w' => Step (oneF p) w w' ∧
      ((beN (rawV k l) ≤ 9223372036854775807 ∧ e = .returned (.int .i64 (beN (rawV k l))) ∧ IsIn w' p (rawL k l) (rawE k l e0)) ∨ (9223372036854775807 < beN (rawV k l) ∧ e = .returned (.int .i64 0) ∧ IsIn w' p [] 5)) := by
  have hw : isW (k : Int) = true := by rw [isW_iff]; omega
  have hcv := fun w l => run_bytes_str (P := Tryz.prog) w 9 120 5 l Tryz.underlying9 Tryz.underlying120 Tryz.underlying5
  have hvl : (rawV (k : Int) l).length ≤ 8 := by unfold rawV; split <;> simp; omega
  have hpl : p < w.heap.size := lt_of_block h
  generalize ht : rawV (k : Int) l = t at hvl ⊢
  have HT := hid ht
  clear ht
  have H := hid h
  clear h
  go_enter Tryz.func115, Tryz.ntmps115
  go_wp2_with (first | (go_at_call 102; refine (isWidth_any _ _).mono ?_; rintro e w' ⟨rfl, rfl⟩) | (go_at_call 120; refine (inRaw_any k p l e0 _ H.out hl).mono ?_; rintro e w2 ⟨rfl, hst, hin⟩; rw [HT.out]; have HI := hid hin; clear hin))
  clear hcv
  go_loop [5, 20] (fun n i => ∃ j : Nat, j ≤ t.length ∧ i = .int .i64 j ∧ n = .int .u64 (beN (t.take j))) (fun _ i => t.length - (intOf i).toNat)
  case atStart => exact ⟨0, Nat.zero_le _, rfl, rfl⟩
  case round =>
    obtain ⟨j, hj, rfl, rfl⟩ := hrel
    by_cases hlt : j < t.length
    · have hc := bytesObj_cell w2 t (grownCap w2 t.length 0 5) 5 j hlt
      have hb : beN (t.take j) < 72057594037927936 := by
        have h1 := beN_lt (t.take j)
        have h2 : 256 ^ (t.take j).length ≤ 256 ^ 7 := Nat.pow_le_pow_right (by omega) (by rw [List.length_take]; omega)
        omega
      have hb2 := UInt8.toNat_lt t[j]
      have HO : Hid (bits .or .u64 ((beN (t.take j) : Int) * 256) (t[j].toNat : Int) = (beN (t.take (j + 1)) : Int)) := by
        show _ = _
        rw [or_low _ _ hb (by omega), List.take_succ_eq_append_getElem hlt, beN_snoc]
      go_wp2
      go_round
      case rel => exact ⟨j + 1, by omega, by go_num, int_eq HO.out⟩
      case measure => simp [intOf]; omega
    · have hj2 : t.take j = t := List.take_of_length_le (by omega)
      rw [hj2]
      by_cases hm : 9223372036854775807 < beN t
      · have HI2 : Hid (IsIn (w2.alloc (bytesObj (str t) (grownCap w2 t.length 0 5) 5)).drew p (rawL k l) (rawE k l e0)) := HI.out.alloc _
        go_wp2_with (go_at_call 119; refine (fail_any p _ _ _ HI2.out).mono ?_; rintro e w3 ⟨rfl, hst2, hin2⟩)
        go_ret
        exact ⟨((hst.alloc _).drew).trans hst2, .inr ⟨hm, rfl, hin2⟩⟩
      · go_wp2
        go_ret
        exact ⟨(hst.alloc _).drew, by omega, rfl, HI.out.alloc _⟩

theorem inNum_any (wd : Int) (p : Nat) (l : List UInt8) (e0 : Int) (w : World) (h : IsIn w p l e0) (hl : l.length ≤ maxLen) :
    Calls Tryz.prog 115 #[.pointer (some ⟨p, 0, none⟩), .int .i64 wd] w fun e w' => e = .returned (.int .i64 (numVal wd l)) ∧ Step (oneF p) w w' ∧ IsIn w' p (numL wd l) (numE wd l e0) := by
  cases hw : isW wd
  · refine (inNum_wide wd hw p l e0 w h).mono ?_
    rintro e w' ⟨rfl, h1, h2⟩
    have h3 : numOk wd l = false := by simp [numOk, hw]
    simp only [numVal, numL, numE, h3]
    exact ⟨rfl, h1, h2⟩
  · have hk := (isW_iff wd).1 hw
    obtain ⟨k, rfl⟩ := Int.eq_ofNat_of_zero_le (show 0 ≤ wd by omega)
    refine (inNum_in k (by omega) p l e0 w h hl).mono ?_
    rintro e w' ⟨h1, (⟨h2, rfl, h3⟩ | ⟨h2, rfl, h3⟩)⟩
    · have h4 : numOk (k : Int) l = true := by simp [numOk, hw, h2]
      simp only [numVal, numL, numE, h4]
      exact ⟨rfl, h1, h3⟩
    · have h4 : numOk (k : Int) l = false := by simp [numOk]; intro _; omega
      simp only [numVal, numL, numE, h4]
      exact ⟨rfl, h1, h3⟩

theorem numL_len (wd : Int) (l : List UInt8) : (numL wd l).length ≤ l.length := by
  unfold numL rawL
  split
  · split <;> simp
  · simp
theorem rawL_len (n : Int) (l : List UInt8) : (rawL n l).length ≤ l.length := by
  unfold rawL
  split <;> simp

def textVal (most : Int) (l : List UInt8) : List UInt8 := if most < numVal 1 l then [] else rawV (numVal 1 l) (numL 1 l)
def textL (most : Int) (l : List UInt8) : List UInt8 := if most < numVal 1 l then [] else rawL (numVal 1 l) (numL 1 l)
def textE (most : Int) (l : List UInt8) (e : Int) : Int := if most < numVal 1 l then 5 else rawE (numVal 1 l) (numL 1 l) (numE 1 l e)

end Go.Proofs.YtnalillebemglaaGreat
namespace Go.Proofs.YtnalillebemglaaGreat
open Go.RowKit
set_option linter.unusedVariables false

/-- A new Out. -/
theorem newOut (w : World) : IsOut (w.alloc (.cells #[.slice none 0 0] 122)) w.heap.size (oneF w.heap.size) [] :=
  ⟨fun k hk => by have : k = w.heap.size := hk; subst this; simp, rfl, .slice none 0 0, block_alloc_new _ _, World.ownsRow_nil _ _ _ _, fun k hk => by simp [Value.ownBlock] at hk⟩

theorem IsOut.step {w w' : World} {p : Nat} {F : Nat → Prop} {bs : List UInt8} (h : IsOut w p F bs) (hs : Step noF w w') : IsOut w' p F bs := h.mono hs (fun _ _ x => x)

theorem num_call (wd : Int) (zs : List Int) (len : Nat) (hlen : len = zs.length) (hz : inI64 zs) (hzl : zs.length ≤ 1000) (a : Option Addr) (cap : Nat) (p : Nat) (F : Nat → Prop) (bs : List UInt8) (w : World) (ho : IsOut w p F bs) (hb : bs.length ≤ 900000)
    (hr : RowAt w F a (intsOf zs)) (bs2 : List UInt8) (h2 : bs ++ numB wd zs = bs2) (r : Int) (h3 : (if numV wd zs then 0 else 1) = r) :
    Calls Tryz.prog 79 #[.pointer (some ⟨p, 0, none⟩), .int .i64 wd, .slice a len cap] w fun e w' => e = .returned (.int .i64 r) ∧ OutPost w p F bs2 w' := by
  subst hlen h2 h3
  exact num_any wd zs hz hzl a cap p F bs w ho hb hr

theorem inNum_call (wd : Int) (p : Nat) (l : List UInt8) (e0 : Int) (w : World) (h : IsIn w p l e0) (hl : l.length ≤ maxLen) (r : Int) (l2 : List UInt8) (e2 : Int) (h1 : numVal wd l = r) (h2 : numL wd l = l2) (h3 : numE wd l e0 = e2) :
    Calls Tryz.prog 115 #[.pointer (some ⟨p, 0, none⟩), .int .i64 wd] w fun e w' => e = .returned (.int .i64 r) ∧ Step (oneF p) w w' ∧ IsIn w' p l2 e2 := by
  subst h1 h2 h3
  exact inNum_any wd p l e0 w h hl
theorem inRaw_call (n : Int) (p : Nat) (l : List UInt8) (e0 : Int) (w : World) (h : IsIn w p l e0) (hl : l.length ≤ maxLen) (r : ByteArray) (l2 : List UInt8) (e2 : Int) (h1 : str (rawV n l) = r) (h2 : rawL n l = l2) (h3 : rawE n l e0 = e2) :
    Calls Tryz.prog 120 #[.pointer (some ⟨p, 0, none⟩), .int .i64 n] w fun e w' => e = .returned (.string r) ∧ Step (oneF p) w w' ∧ IsIn w' p l2 e2 := by
  subst h1 h2 h3
  exact inRaw_any n p l e0 w h hl
theorem end_call (p : Nat) (l : List UInt8) (e0 : Int) (w : World) (h : IsIn w p l e0) (r : Int) (h1 : endE l e0 = r) : Calls Tryz.prog 116 #[.pointer (some ⟨p, 0, none⟩)] w fun e w' => e = .returned (.int .i64 r) ∧ w = w' := by
  subst h1
  exact end_any p l e0 w h
theorem len_call (p : Nat) (F : Nat → Prop) (bs : List UInt8) (w : World) (ho : IsOut w p F bs) (r : Int) (h1 : (bs.length : Int) = r) : Calls Tryz.prog 143 #[.pointer (some ⟨p, 0, none⟩)] w fun e w' => e = .returned (.int .i64 r) ∧ w = w' := by
  subst h1
  exact len_any p F bs w ho
end Go.Proofs.YtnalillebemglaaGreat
namespace Go.Proofs.YtnalillebemglaaGreat
open Go.RowKit
set_option linter.unusedVariables false
set_option maxRecDepth 20000

theorem be_cons (j n : Nat) : be (j + 1) n = UInt8.ofNat (n / 256 ^ j) :: be j n := by
  induction j generalizing n with
  | zero => simp [be]
  | succ j ih =>
    rw [show be (j + 1 + 1) n = be (j + 1) (n / 256) ++ [UInt8.ofNat n] from rfl, ih (n / 256)]
    rw [show be (j + 1) n = be j (n / 256) ++ [UInt8.ofNat n] from rfl]
    rw [Nat.div_div_eq_div_mul, show 256 * 256 ^ j = 256 ^ (j + 1) by rw [Nat.pow_succ]; omega]
    rfl

theorem mk_bytes (c : Int) (h0 : 0 ≤ c) (h8 : c ≤ 1000000) (u : World) : (Instr.makeSlice 120 (.int .i64 c) (.int .i64 c)).run Tryz.prog u =
      .ok (.slice (some ⟨u.heap.size, 0, none⟩) c.toNat c.toNat) (u.alloc (.cells (madeCells #[.int .u8 0] c.toNat) 5)) := by
  obtain ⟨i0, hi, hz0, hz1, hz2⟩ := info_parts info_u8
  have h := run_make (P := Tryz.prog) u 120 5 i0 (.int .u8 0) Tryz.underlying120 hi hz0 .i64 .i64 c c h0 (Int.le_refl _) (by rw [hz2]; omega) (by omega)
  simpa [hz1, Value.cells] using h

theorem set_replicate (m : Nat) (hm : 0 < m) (z v : Value) (xs : List Value) : (List.replicate m z ++ xs).set (m - 1) v = List.replicate (m - 1) z ++ v :: xs := by
  obtain ⟨q, rfl⟩ : ∃ q, m = q + 1 := ⟨m - 1, by omega⟩
  simp only [Nat.add_sub_cancel]
  rw [List.replicate_succ', List.append_assoc, List.set_append_right _ _ (by simp)]
  simp

theorem u8_wrap_mod (n : Nat) : IntKind.u8.wrap ((n : Int) % 256) = ((UInt8.ofNat n).toNat : Int) := by
  simp [IntKind.wrap, IntKind.bits, IntKind.signed]

/-- Out of a block of bytes its text. -/
theorem run_string_block {P : Program} (w : World) (src dst e : TypeId) (hs : P.underlying src = some (.slice e)) (he : P.underlying e = some (.int .u8)) (hd : P.underlying dst = some .string) (g cap n : Nat) (A : Array Value) (bs : List UInt8) (hg : w.heap[g]? = some (.cells A e (0, 0)))
    (hA : A.toList = cellsOf bs) (hn : n = bs.length) : (convert src dst (.slice (some ⟨g, 0, none⟩) n cap)).run P w = .ok (.string (str bs)) w := by
  subst hn
  refine run_convert_bytes_back w src dst e ⟨g, 0, none⟩ cap bs hs he hd (fun j hj => ?_)
  rw [Addr.add_lit, Nat.zero_add, cell_of_block hg]
  rw [← Array.getElem?_toList, hA]
  simp [cellsOf, List.getElem?_eq_getElem hj]

theorem ret_sb {a b : ByteArray} {c d : Bool} (h : a = b) (h2 : c = d) : Ending.returned (.tuple #[.string a, .bool c]) = .returned (.tuple #[.string b, .bool d]) := by rw [h, h2]
theorem nat_beq0 (x : Nat) : ((x : Int) == 0) = decide (x = 0) := by rw [Bool.eq_iff_iff]; simp
theorem fit_div (k n : Nat) : decide (n / 256 ^ k = 0) = fitB k n := by
  unfold fitB
  have h1 : 0 < 256 ^ k := Nat.pow_pos (by omega)
  have h2 : ((256 : Int) ^ k) = ((256 ^ k : Nat) : Int) := by rw [Int.natCast_pow]; rfl
  rw [h2]
  generalize 256 ^ k = m at *
  congr 1
  rw [eq_iff_iff, Nat.div_eq_zero_iff_lt h1]
  omega

end Go.Proofs.YtnalillebemglaaGreat
namespace Go.Proofs.YtnalillebemglaaGreat
open Go.RowKit
set_option linter.unusedVariables false
set_option maxRecDepth 20000

theorem beN_be : ∀ (k n : Nat), n < 256 ^ k → beN (be k n) = n
  | 0, n, h => by simp at h; subst h; rfl
  | k + 1, n, h => by
    have ih := beN_be k (n / 256) (by rw [Nat.pow_succ] at h; omega)
    rw [show be (k + 1) n = be k (n / 256) ++ [UInt8.ofNat n] from rfl, beN_snoc, ih]
    simp
    omega

theorem raw_app (k : Nat) (a rest : List UInt8) (h : a.length = k) (e : Int) : rawV k (a ++ rest) = a ∧ rawL k (a ++ rest) = rest ∧ rawE k (a ++ rest) e = e := by
  subst h
  have h1 : (0 : Int) ≤ (a.length : Int) ∧ (a.length : Int) ≤ ((a ++ rest).length : Int) := by simp; omega
  refine ⟨?_, ?_, ?_⟩
  · rw [rawV, if_pos h1]; simp
  · rw [rawL, if_pos h1]; simp
  · rw [rawE, if_pos h1]

theorem num_app (k : Nat) (hk : k = 1 ∨ k = 2 ∨ k = 4 ∨ k = 8) (n : Nat) (h1 : n < 256 ^ k) (h2 : n ≤ 9223372036854775807) (rest : List UInt8) (e : Int) :
    numVal k (be k n ++ rest) = n ∧ numL k (be k n ++ rest) = rest ∧ numE k (be k n ++ rest) e = e := by
  obtain ⟨r1, r2, r3⟩ := raw_app k (be k n) rest (be_length k n) e
  have hw : isW (k : Int) = true := by rw [isW_iff]; omega
  have hok : numOk k (be k n ++ rest) = true := by
    unfold numOk
    rw [r1, beN_be k n h1, hw]
    simpa using h2
  refine ⟨?_, ?_, ?_⟩
  · rw [numVal, if_pos hok, r1, beN_be k n h1]
  · rw [numL, if_pos hok, r2]
  · rw [numE, if_pos hok, r3]

theorem text_app (s : ByteArray) (hs : s.size ≤ 255) (rest : List UInt8) (e : Int) :
    textVal 255 (txt s ++ rest) = s.data.toList ∧ textL 255 (txt s ++ rest) = rest ∧ textE 255 (txt s ++ rest) e = e := by
  have ht : txt s ++ rest = be 1 s.size ++ (s.data.toList ++ rest) := by simp [txt, be]
  obtain ⟨n1, n2, n3⟩ := num_app 1 (.inl rfl) s.size (by omega) (by omega) (s.data.toList ++ rest) e
  obtain ⟨r1, r2, r3⟩ := raw_app s.size s.data.toList rest (list_len s) e
  have hm : ¬ (255 : Int) < numVal 1 (txt s ++ rest) := by rw [ht]; rw [show ((1 : Int)) = ((1 : Nat) : Int) from rfl, n1]; omega
  have e1 : numVal 1 (txt s ++ rest) = s.size := by rw [ht]; exact n1
  have e2 : numL 1 (txt s ++ rest) = s.data.toList ++ rest := by rw [ht]; exact n2
  have e3 : numE 1 (txt s ++ rest) e = e := by rw [ht]; exact n3
  refine ⟨?_, ?_, ?_⟩
  · rw [textVal, if_neg hm, e1, e2, r1]
  · rw [textL, if_neg hm, e1, e2, r2]
  · rw [textE, if_neg hm, e1, e2, e3, r3]

theorem be_mod : ∀ (k n : Nat), be k (n % 256 ^ k) = be k n
  | 0, n => rfl
  | k + 1, n => by
    rw [show be (k + 1) n = be k (n / 256) ++ [UInt8.ofNat n] from rfl, show be (k + 1) (n % 256 ^ (k + 1)) = be k (n % 256 ^ (k + 1) / 256) ++ [UInt8.ofNat (n % 256 ^ (k + 1))] from rfl]
    have h1 : n % 256 ^ (k + 1) / 256 = n / 256 % 256 ^ k := by
      rw [Nat.pow_succ, Nat.mul_comm, Nat.mod_mul_right_div_self]
    have h2 : UInt8.ofNat (n % 256 ^ (k + 1)) = UInt8.ofNat n := by
      apply UInt8.toNat_inj.1
      simp
      rw [Nat.mod_mod_of_dvd]
      exact Nat.dvd_trans (Nat.dvd_refl _) (by rw [Nat.pow_succ]; exact Nat.dvd_mul_left _ _)
    rw [h1, h2, be_mod k (n / 256)]

theorem bytesLess_be : ∀ (k a b : Nat), a < 256 ^ k → b < 256 ^ k → Op.bytesLess (be k a) (be k b) = decide (a < b)
  | 0, a, b, ha, hb => by
    simp at ha hb
    subst ha hb
    rfl
  | k + 1, a, b, ha, hb => by
    have hp : 0 < 256 ^ k := Nat.pow_pos (by omega)
    have ih := bytesLess_be k (a % 256 ^ k) (b % 256 ^ k) (Nat.mod_lt _ hp) (Nat.mod_lt _ hp)
    rw [be_mod, be_mod] at ih
    rw [be_cons k a, be_cons k b]
    simp only [Op.bytesLess, ih]
    have ha2 : a / 256 ^ k < 256 := by rw [Nat.div_lt_iff_lt_mul hp]; rw [Nat.pow_succ] at ha; omega
    have hb2 : b / 256 ^ k < 256 := by rw [Nat.div_lt_iff_lt_mul hp]; rw [Nat.pow_succ] at hb; omega
    have ea := Nat.div_add_mod a (256 ^ k)
    have eb := Nat.div_add_mod b (256 ^ k)
    have la := Nat.mod_lt a hp
    have lb := Nat.mod_lt b hp
    have hlt : (UInt8.ofNat (a / 256 ^ k) < UInt8.ofNat (b / 256 ^ k)) ↔ a / 256 ^ k < b / 256 ^ k := by
      rw [UInt8.lt_iff_toNat_lt]; simp; rw [Nat.mod_eq_of_lt ha2, Nat.mod_eq_of_lt hb2]
    have heq : (UInt8.ofNat (a / 256 ^ k) = UInt8.ofNat (b / 256 ^ k)) ↔ a / 256 ^ k = b / 256 ^ k := by
      rw [← UInt8.toNat_inj]; simp; rw [Nat.mod_eq_of_lt ha2, Nat.mod_eq_of_lt hb2]
    rw [Bool.eq_iff_iff]
    simp only [Bool.or_eq_true, Bool.and_eq_true, decide_eq_true_eq, beq_iff_eq, hlt, heq]
    generalize a / 256 ^ k = x at *
    generalize b / 256 ^ k = y at *
    generalize a % 256 ^ k = u at *
    generalize b % 256 ^ k = v at *
    generalize 256 ^ k = m at *
    subst ea eb
    constructor
    · rintro (h | ⟨rfl, h⟩)
      · have : m * (x + 1) ≤ m * y := Nat.mul_le_mul_left _ h
        rw [Nat.mul_add] at this
        omega
      · omega
    · intro h
      by_cases hxy : x < y
      · exact .inl hxy
      · right
        have hle : y ≤ x := by omega
        by_cases e : x = y
        · subst e; exact ⟨rfl, by omega⟩
        · have : m * (y + 1) ≤ m * x := Nat.mul_le_mul_left _ (by omega)
          rw [Nat.mul_add] at this
          omega
end Go.Proofs.YtnalillebemglaaGreat
