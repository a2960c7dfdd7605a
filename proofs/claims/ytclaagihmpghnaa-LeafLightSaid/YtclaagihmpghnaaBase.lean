/-
  Small things that every layer's texts use: texts as bytes, rows of cells, endings. Nothing of the program is named here.
-/
import Derived.Test.YtclaagihmpghnaaFrame
namespace Go.Proofs.Ytclaagihmpghnaa
open Go.RowKit
set_option linter.unusedVariables false

theorem ret_bool {a b : Bool} (h : a = b) : Ending.returned (.bool a) = .returned (.bool b) := by rw [h]
theorem ret_int {k : IntKind} {a b : Int} (h : a = b) : Ending.returned (.int k a) = .returned (.int k b) := by rw [h]
theorem int_eq {k : IntKind} {a b : Int} (h : a = b) : Value.int k a = .int k b := by rw [h]
theorem ret_str {a b : ByteArray} (h : a = b) : Ending.returned (.string a) = .returned (.string b) := by rw [h]
theorem le_max {n : Nat} (h : n ≤ 9223372036854775807) : n ≤ maxLen := by unfold maxLen; omega

/-- Bytes as a text. -/
def str (l : List UInt8) : ByteArray := ⟨l.toArray⟩
theorem str_size (l : List UInt8) : (str l).size = l.length := by simp [str, ByteArray.size]
theorem str_list (l : List UInt8) : (str l).data.toList = l := by simp [str]
theorem str_of (s : ByteArray) : s = str s.data.toList := by simp [str]
theorem list_len (s : ByteArray) : s.data.toList.length = s.size := by rw [Array.length_toList]; rfl
theorem str_inj {a b : List UInt8} (h : str a = str b) : a = b := by rw [← str_list a, h, str_list]
theorem str_extract (l : List UInt8) (a b : Nat) : (str l).extract a b = str ((l.take b).drop a) := by
  apply ByteArray.ext
  simp [str]
  rw [List.drop_take]
theorem str_append (l : List UInt8) (s : ByteArray) : str l ++ s = str (l ++ s.data.toList) := by
  apply ByteArray.ext
  simp [str]
theorem str_app (a b : List UInt8) : str a ++ str b = str (a ++ b) := by rw [str_append, str_list]

/-- A row of cells that lies outside F. -/
def RowAt (w : World) (F : Nat → Prop) (a : Option Addr) (cs : List Value) : Prop :=
  cs = [] ∨ ∃ b off, a = some ⟨b, off, none⟩ ∧ ¬ F b ∧ ∀ j (h : j < cs.length), w.cell? ⟨b, off + j, none⟩ = some cs[j]
def intsOf (zs : List Int) : List Value := zs.map (Value.int .i64)
def inI64 (zs : List Int) : Prop := ∀ z ∈ zs, -9223372036854775808 ≤ z ∧ z ≤ 9223372036854775807
def strsOf (ts : List ByteArray) : List Value := ts.map Value.string
/-- A row that a literal has just laid. -/
theorem rowAt_new (w : World) (F : Nat → Prop) (hF : ∀ k, F k → k < w.heap.size) (cs : Array Value) (t : TypeId) (g : Nat) (hg : g = w.heap.size) (xs : List Value) (hx : xs = cs.toList) : RowAt (w.alloc (.cells cs t)) F (some ⟨g, 0, none⟩) xs := by
  subst hg hx
  refine .inr ⟨w.heap.size, 0, rfl, fun h => by have := hF _ h; omega, fun j h => ?_⟩
  rw [cell_of_block (block_alloc_new w _)]
  simp at h
  simp [h]
theorem RowAt.at {w : World} {F : Nat → Prop} {a : Option Addr} {α : Type} {f : α → Value} {zs : List α} (h : RowAt w F a (zs.map f)) (j : Nat) (hj : j < zs.length) : ∃ b off, a = some ⟨b, off, none⟩ ∧ w.cell? ⟨b, off + j, none⟩ = some (f zs[j]) := by
  rcases h with h | ⟨b, off, h1, _, h3⟩
  · simp at h; subst h; simp at hj
  · exact ⟨b, off, h1, by rw [h3 j (by simpa using hj), List.getElem_map]⟩
theorem rowAt_step {w w' : World} {F : Nat → Prop} {a : Option Addr} {cs : List Value} (h : RowAt w noF a cs) (hs : Step noF w w') (hF : ∀ b, b < w.heap.size → ¬ F b) : RowAt w' F a cs := by
  rcases h with h | ⟨b, off, h1, _, h3⟩
  · exact .inl h
  · by_cases h0 : cs = []
    · exact .inl h0
    · have hl : 0 < cs.length := List.length_pos_iff.2 h0
      have hb : b < w.heap.size := World.block_lt_of_cell? w _ (h3 0 hl)
      exact .inr ⟨b, off, h1, hF b hb, fun j hj => (hs.cell (p := ⟨b, off + j, none⟩) (fun h => h) hb).trans (h3 j hj)⟩
theorem RowAt.step {w w' : World} {a : Option Addr} {cs : List Value} (h : RowAt w noF a cs) (hs : Step noF w w') : RowAt w' noF a cs := rowAt_step h hs (fun _ _ h => h)
theorem RowAt.nil {w : World} {F : Nat → Prop} {a : Option Addr} : RowAt w F a [] := .inl rfl

/-- Out of a block of bytes its text. -/
theorem run_string_row {P : Program} (w : World) (src dst e bt : TypeId) (fz : Nat × Nat) (hs : P.underlying src = some (.slice e)) (he : P.underlying e = some (.int .u8)) (hd : P.underlying dst = some .string) (g cap n : Nat) (A : Array Value) (bs : List UInt8) (hg : w.heap[g]? = some (.cells A bt fz))
    (hA : A.toList = cellsOf bs) (hn : n = bs.length) : (convert src dst (.slice (some ⟨g, 0, none⟩) n cap)).run P w = .ok (.string (str bs)) w := by
  subst hn
  refine run_convert_bytes_back w src dst e ⟨g, 0, none⟩ cap bs hs he hd (fun j hj => ?_)
  rw [Addr.add_lit, Nat.zero_add, cell_of_block hg]
  rw [← Array.getElem?_toList, hA]
  simp [cellsOf, List.getElem?_eq_getElem hj]
end Go.Proofs.Ytclaagihmpghnaa
