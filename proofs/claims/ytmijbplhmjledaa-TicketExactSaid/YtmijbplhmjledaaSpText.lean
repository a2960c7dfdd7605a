/-
  A bit for each block: the bytes of a row of bools, and back. Nothing of the program is named here.
-/
import Derived.Test.YtmijbplhmjledaaSpMath
namespace Go.Proofs.Ytmijbplhmjledaa
open Go.RowKit
set_option linter.unusedVariables false

/-- The bit of a block in its byte. -/
def bitN (k : Nat) : Nat := 128 / 2 ^ (k % 8)
def mk8 (f : Nat → Bool) : Nat := (if f 0 then 128 else 0) + (if f 1 then 64 else 0) + (if f 2 then 32 else 0) + (if f 3 then 16 else 0) + (if f 4 then 8 else 0) + (if f 5 then 4 else 0) + (if f 6 then 2 else 0) + (if f 7 then 1 else 0)
theorem mk8_lt (f : Nat → Bool) : mk8 f < 256 := by
  unfold mk8
  split <;> split <;> split <;> split <;> split <;> split <;> split <;> split <;> omega
/-- Eight bools as a function. -/
def fun8 (b0 b1 b2 b3 b4 b5 b6 b7 : Bool) : Nat → Bool
  | 0 => b0 | 1 => b1 | 2 => b2 | 3 => b3 | 4 => b4 | 5 => b5 | 6 => b6 | 7 => b7 | _ => false
theorem mk8_fun8 (f : Nat → Bool) : mk8 f = mk8 (fun8 (f 0) (f 1) (f 2) (f 3) (f 4) (f 5) (f 6) (f 7)) := rfl
theorem fun8_at (f : Nat → Bool) (k : Nat) (h : k < 8) : fun8 (f 0) (f 1) (f 2) (f 3) (f 4) (f 5) (f 6) (f 7) k = f k := by
  match k, h with
  | 0, _ => rfl | 1, _ => rfl | 2, _ => rfl | 3, _ => rfl | 4, _ => rfl | 5, _ => rfl | 6, _ => rfl | 7, _ => rfl
  | k + 8, h => omega
theorem mk8_congr {f g : Nat → Bool} (h : ∀ k, k < 8 → f k = g k) : mk8 f = mk8 g := by
  rw [mk8_fun8 f, mk8_fun8 g, h 0 (by omega), h 1 (by omega), h 2 (by omega), h 3 (by omega), h 4 (by omega), h 5 (by omega), h 6 (by omega), h 7 (by omega)]
theorem add8_all : ∀ b0 b1 b2 b3 b4 b5 b6 b7 : Bool, ∀ k : Fin 8, fun8 b0 b1 b2 b3 b4 b5 b6 b7 k = false →
    mk8 (fun i => fun8 b0 b1 b2 b3 b4 b5 b6 b7 i || decide (i = k.1)) = mk8 (fun8 b0 b1 b2 b3 b4 b5 b6 b7) + bitN k ∧ (mk8 (fun8 b0 b1 b2 b3 b4 b5 b6 b7) ||| bitN k) = mk8 (fun8 b0 b1 b2 b3 b4 b5 b6 b7) + bitN k := by decide +kernel
theorem bit8_all : ∀ b0 b1 b2 b3 b4 b5 b6 b7 : Bool, ∀ k : Fin 8, decide ((mk8 (fun8 b0 b1 b2 b3 b4 b5 b6 b7) &&& bitN k) ≠ 0) = fun8 b0 b1 b2 b3 b4 b5 b6 b7 k := by decide +kernel
theorem bits8_all : ∀ n : Fin 256, mk8 (fun k => decide ((n.1 &&& bitN k) ≠ 0)) = n.1 := by decide +kernel
theorem shift8_all : ∀ n : Fin 256, ∀ k : Fin 8, decide (((n.1 / 2 ^ (7 - k.1)) &&& 1) = 1) = decide ((n.1 &&& bitN k) ≠ 0) := by decide +kernel

theorem add8 (f : Nat → Bool) (k : Nat) (hk : k < 8) (h : f k = false) : mk8 (fun i => f i || decide (i = k)) = mk8 f + bitN k ∧ (mk8 f ||| bitN k) = mk8 f + bitN k := by
  have := add8_all (f 0) (f 1) (f 2) (f 3) (f 4) (f 5) (f 6) (f 7) ⟨k, hk⟩ (by rw [fun8_at f k hk]; exact h)
  rw [← mk8_fun8] at this
  refine ⟨?_, this.2⟩
  rw [← this.1]
  exact mk8_congr (fun i hi => by rw [fun8_at f i hi])
theorem bit8 (f : Nat → Bool) (k : Nat) (hk : k < 8) : decide ((mk8 f &&& bitN k) ≠ 0) = f k := by
  have := bit8_all (f 0) (f 1) (f 2) (f 3) (f 4) (f 5) (f 6) (f 7) ⟨k, hk⟩
  rw [← mk8_fun8, fun8_at f k hk] at this
  exact this
theorem bits8 (n : Nat) (h : n < 256) : mk8 (fun k => decide ((n &&& bitN k) ≠ 0)) = n := bits8_all ⟨n, h⟩
theorem shift8 (n k : Nat) (h : n < 256) (hk : k < 8) : decide (((n / 2 ^ (7 - k)) &&& 1) = 1) = decide ((n &&& bitN k) ≠ 0) := shift8_all ⟨n, h⟩ ⟨k, hk⟩
theorem bitN_mod (k : Nat) : bitN (k % 8) = bitN k := by rw [bitN, Nat.mod_mod, ← bitN]
theorem bitN_lt (k : Nat) : bitN k < 256 := by
  unfold bitN
  exact Nat.lt_of_le_of_lt (Nat.div_le_self _ _) (by decide)

/-- The bits of byte i, of the first j blocks. -/
def fT (l : List Bool) (j i : Nat) : Nat → Bool := fun k => decide (8 * i + k < j) && l.getD (8 * i + k) false
def bytesT (l : List Bool) (m j : Nat) : List UInt8 := (List.range m).map fun i => UInt8.ofNat (mk8 (fT l j i))
def textL (l : List Bool) : List UInt8 := bytesT l ((l.length + 7) / 8) l.length
theorem bytesT_len (l : List Bool) (m j : Nat) : (bytesT l m j).length = m := by simp [bytesT]
theorem textL_len (l : List Bool) : (textL l).length = (l.length + 7) / 8 := bytesT_len _ _ _
theorem bytesT_at (l : List Bool) (m j i : Nat) (h : i < (bytesT l m j).length) : (bytesT l m j)[i] = UInt8.ofNat (mk8 (fT l j i)) := by simp [bytesT]
theorem ofNat_mk8 (f : Nat → Bool) : (UInt8.ofNat (mk8 f)).toNat = mk8 f := by
  have := mk8_lt f
  rw [UInt8.toNat_ofNat']; omega
theorem bytesT_zero (l : List Bool) (m : Nat) : bytesT l m 0 = List.replicate m 0 := by
  apply List.ext_getElem
  · simp [bytesT]
  · intro i h1 h2
    rw [bytesT_at]
    simp [fT, mk8]
theorem fT_skip (l : List Bool) (j i : Nat) (h : l.getD j false = false) : fT l (j + 1) i = fT l j i := by
  funext k
  unfold fT
  by_cases hk : 8 * i + k = j
  · rw [hk, h]; simp
  · rw [show decide (8 * i + k < j + 1) = decide (8 * i + k < j) from decide_eq_decide.2 (by omega)]
theorem bytesT_skip (l : List Bool) (m j : Nat) (h : l.getD j false = false) : bytesT l m (j + 1) = bytesT l m j := by
  unfold bytesT
  simp only [fT_skip l j _ h]
theorem fT_at (l : List Bool) (j : Nat) : fT l j (j / 8) (j % 8) = false := by
  unfold fT
  rw [show 8 * (j / 8) + j % 8 = j by omega]; simp
theorem fT_put (l : List Bool) (j : Nat) (h : l.getD j false = true) : fT l (j + 1) (j / 8) = fun i => fT l j (j / 8) i || decide (i = j % 8) := by
  funext k
  unfold fT
  by_cases hk : 8 * (j / 8) + k = j
  · rw [hk, h, show decide (k = j % 8) = true from decide_eq_true (by omega)]; simp
  · rw [show decide (8 * (j / 8) + k < j + 1) = decide (8 * (j / 8) + k < j) from decide_eq_decide.2 (by omega), show decide (k = j % 8) = false from decide_eq_false (by omega)]; simp
theorem fT_other (l : List Bool) (j i : Nat) (h : i ≠ j / 8) : mk8 (fT l (j + 1) i) = mk8 (fT l j i) := by
  refine mk8_congr (fun k hk => ?_)
  unfold fT
  rw [show decide (8 * i + k < j + 1) = decide (8 * i + k < j) from decide_eq_decide.2 (by omega)]
/-- One more block that is free. -/
theorem bytesT_put (l : List Bool) (m j : Nat) (h : l.getD j false = true) (hm : j / 8 < m) :
    bytesT l m (j + 1) = (bytesT l m j).set (j / 8) (UInt8.ofNat (mk8 (fT l j (j / 8)) + bitN j)) ∧ (mk8 (fT l j (j / 8)) ||| bitN j) = mk8 (fT l j (j / 8)) + bitN j ∧ mk8 (fT l j (j / 8)) + bitN j < 256 := by
  obtain ⟨h1, h2⟩ := add8 (fT l j (j / 8)) (j % 8) (Nat.mod_lt _ (by decide)) (fT_at l j)
  rw [bitN_mod] at h1 h2
  have h3 := mk8_lt (fun i => fT l j (j / 8) i || decide (i = j % 8))
  refine ⟨?_, h2, by omega⟩
  apply List.ext_getElem
  · simp [bytesT]
  · intro i i1 i2
    rw [bytesT_at, List.getElem_set]
    by_cases hi : j / 8 = i
    · subst hi
      rw [if_pos rfl, fT_put l j h, h1]
    · rw [if_neg hi, bytesT_at, fT_other l j i (fun e => hi e.symm)]

/-- Whether a byte has the bit of block k. -/
def bitB (a : UInt8) (k : Nat) : Bool := decide ((a.toNat &&& bitN k) ≠ 0)
def bitsL (t : List UInt8) (n : Nat) : List Bool := (List.range n).map fun k => bitB (t.getD (k / 8) 0) k
theorem bitsL_len (t : List UInt8) (n : Nat) : (bitsL t n).length = n := by simp [bitsL]
theorem bitsL_at (t : List UInt8) (n k : Nat) (h : k < n) : (bitsL t n).getD k false = bitB (t.getD (k / 8) 0) k := by
  rw [getD_lt _ (by rw [bitsL_len]; exact h)]; simp [bitsL]
theorem bitB_mk8 (f : Nat → Bool) (k : Nat) : bitB (UInt8.ofNat (mk8 f)) k = f (k % 8) := by
  rw [bitB, ofNat_mk8, ← bitN_mod, bit8 f (k % 8) (Nat.mod_lt _ (by decide))]
theorem mk8_bitB (a : UInt8) : mk8 (bitB a) = a.toNat := bits8 a.toNat a.toNat_lt
theorem bitB_mod (a : UInt8) (k : Nat) : bitB a (k % 8) = bitB a k := by rw [bitB, bitN_mod]; rfl
theorem shiftB (a : UInt8) (k : Nat) (hk : k < 8) : decide (((a.toNat / 2 ^ (7 - k)) &&& 1) = 1) = bitB a k := shift8 a.toNat k a.toNat_lt hk

/-- What is told is read as it was. -/
theorem bits_text (l : List Bool) : bitsL (textL l) l.length = l := by
  refine ext_getD (bitsL_len _ _) (fun k hk => ?_)
  rw [bitsL_len] at hk
  rw [bitsL_at _ _ _ hk, getD_lt _ (by rw [textL_len]; omega)]
  rw [show (textL l)[k / 8]'(by rw [textL_len]; omega) = UInt8.ofNat (mk8 (fT l l.length (k / 8))) from bytesT_at _ _ _ _ _, bitB_mk8]
  unfold fT
  rw [show 8 * (k / 8) + k % 8 = k by omega]
  simp [hk]
theorem textL_inj {a b : List Bool} (h : a.length = b.length) (ht : textL a = textL b) : a = b := by
  rw [← bits_text a, ← bits_text b, ht, h]
/-- Which bytes are a Text. -/
theorem text_bits (t : List UInt8) (n : Nat) (hl : t.length = (n + 7) / 8) : textL (bitsL t n) = t ↔ ∀ i, n ≤ i → i < 8 * t.length → bitB (t.getD (i / 8) 0) i = false := by
  have hlen : (textL (bitsL t n)).length = t.length := by rw [textL_len, bitsL_len, hl]
  have hat : ∀ i (h : i < (textL (bitsL t n)).length), (textL (bitsL t n))[i] = UInt8.ofNat (mk8 (fT (bitsL t n) n i)) := fun i h => by
    have := bytesT_at (bitsL t n) ((bitsL t n).length + 7) (bitsL t n).length i
    simp only [textL]
    rw [bytesT_at, bitsL_len]
  constructor
  · intro h i h1 h2
    have hi : i / 8 < t.length := by omega
    have e := hat (i / 8) (by rw [hlen]; exact hi)
    have e2 : t.getD (i / 8) 0 = UInt8.ofNat (mk8 (fT (bitsL t n) n (i / 8))) := by
      rw [← e, getD_lt _ hi]; simp only [h]
    rw [e2, bitB_mk8]
    unfold fT
    rw [show 8 * (i / 8) + i % 8 = i by omega]
    simp
    omega
  · intro h
    apply List.ext_getElem hlen
    intro i i1 i2
    rw [hat i i1]
    have : mk8 (fT (bitsL t n) n i) = t[i].toNat := by
      rw [← mk8_bitB t[i]]
      refine mk8_congr (fun k hk => ?_)
      unfold fT
      by_cases hn : 8 * i + k < n
      · rw [bitsL_at _ _ _ hn, show (8 * i + k) / 8 = i by omega, getD_lt _ i2, ← bitB_mod _ (8 * i + k), show (8 * i + k) % 8 = k by omega]
        simp [hn]
      · have := h (8 * i + k) (by omega) (by omega)
        rw [show (8 * i + k) / 8 = i by omega, getD_lt _ i2, ← bitB_mod _ (8 * i + k), show (8 * i + k) % 8 = k by omega] at this
        rw [this]
        simp [hn]
    rw [this]
    exact UInt8.ofNat_toNat
end Go.Proofs.Ytmijbplhmjledaa
