/-
  What the document's own answers do (package grangerref01): Num, Text.
-/
import Derived.Test.YtclaagihmpghnaaPenE
namespace Go.Proofs.Ytclaagihmpghnaa
open Go.RowKit
set_option linter.unusedVariables false

theorem be_cons (j n : Nat) : be (j + 1) n = UInt8.ofNat (n / 256 ^ j) :: be j n := by
  induction j generalizing n with
  | zero => simp [be]
  | succ j ih =>
    rw [show be (j + 1 + 1) n = be (j + 1) (n / 256) ++ [UInt8.ofNat n] from rfl, ih (n / 256)]
    rw [show be (j + 1) n = be j (n / 256) ++ [UInt8.ofNat n] from rfl]
    rw [Nat.div_div_eq_div_mul, show 256 * 256 ^ j = 256 ^ (j + 1) by rw [Nat.pow_succ]; omega]
    rfl

theorem mk_bytes (c : Int) (h0 : 0 ≤ c) (h8 : c ≤ 1000000) (u : World) : (Instr.makeSlice 127 (.int .i64 c) (.int .i64 c)).run Try.prog u =
      .ok (.slice (some ⟨u.heap.size, 0, none⟩) c.toNat c.toNat) (u.alloc (.cells (madeCells #[.int .u8 0] c.toNat) 5)) := by
  obtain ⟨i0, hi, hz0, hz1, hz2⟩ := info_parts info_u8
  have h := run_make (P := Try.prog) u 127 5 i0 (.int .u8 0) Try.underlying127 hi hz0 .i64 .i64 c c h0 (Int.le_refl _) (by rw [hz2]; omega) (by omega)
  simpa [hz1, Value.cells] using h

theorem set_replicate (m : Nat) (hm : 0 < m) (z v : Value) (xs : List Value) : (List.replicate m z ++ xs).set (m - 1) v = List.replicate (m - 1) z ++ v :: xs := by
  obtain ⟨q, rfl⟩ : ∃ q, m = q + 1 := ⟨m - 1, by omega⟩
  simp only [Nat.add_sub_cancel]
  rw [List.replicate_succ', List.append_assoc, List.set_append_right _ _ (by simp)]
  simp

theorem u8_wrap_mod (n : Nat) : IntKind.u8.wrap ((n : Int) % 256) = ((UInt8.ofNat n).toNat : Int) := by
  simp [IntKind.wrap, IntKind.bits, IntKind.signed]

/-- Out of a block of bytes its text. -/
theorem run_string_block {P : Program} (w : World) (src dst e : TypeId) (hs : P.underlying src = some (.slice e)) (he : P.underlying e = some (.int .u8)) (hd : P.underlying dst = some .string) (g cap n : Nat) (A : Array Value) (bs : List UInt8) (hg : w.heap[g]? = some (.cells A e (0, 0)))
    (hA : A.toList = cellsOf bs) (hn : n = bs.length) : (convert src dst (.slice (some ⟨g, 0, none⟩) n cap)).run P w = .ok (.string (str bs)) w := by
  subst hn
  refine run_convert_bytes_back w src dst e ⟨g, 0, none⟩ cap bs hs he hd (fun j hj => ?_)
  rw [Addr.add_lit, Nat.zero_add, cell_of_block hg]
  rw [← Array.getElem?_toList, hA]
  simp [cellsOf, List.getElem?_eq_getElem hj]

theorem ret_sb {a b : ByteArray} {c d : Bool} (h : a = b) (h2 : c = d) : Ending.returned (.tuple #[.string a, .bool c]) = .returned (.tuple #[.string b, .bool d]) := by rw [h, h2]
theorem nat_beq0 (x : Nat) : ((x : Int) == 0) = decide (x = 0) := by rw [Bool.eq_iff_iff]; simp
theorem fit_div (k n : Nat) : decide (n / 256 ^ k = 0) = fitB k n := by
  unfold fitB
  have h1 : 0 < 256 ^ k := Nat.pow_pos (by omega)
  have h2 : ((256 : Int) ^ k) = ((256 ^ k : Nat) : Int) := by rw [Int.natCast_pow]; rfl
  rw [h2]
  generalize 256 ^ k = m at *
  congr 1
  rw [eq_iff_iff, Nat.div_eq_zero_iff_lt h1]
  omega

end Go.Proofs.Ytclaagihmpghnaa
