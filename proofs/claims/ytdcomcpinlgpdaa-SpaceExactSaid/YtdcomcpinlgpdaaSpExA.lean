/-
  Pieces of the law SpaceExact: the small ones.
-/
import Derived.Test.YtdcomcpinlgpdaaSpNavE
import Derived.Test.YtdcomcpinlgpdaaSpActs
import Derived.Test.YtdcomcpinlgpdaaSpRefC
import Derived.Test.YtdcomcpinlgpdaaSpAwake
namespace Go.Proofs.Ytdcomcpinlgpdaa
open Go.RowKit
set_option linter.unusedVariables false
set_option linter.unusedSimpArgs false

/-- What the frame has all the time. -/
def baseE (p n j : Nat) (lv av : Value) : List (Nat × Value) := [(0, .int .i64 n), (1, av), (5, .pointer (some ⟨p, 0, none⟩)), (6, lv), (7, .int .i64 j)]
/-- Both sides, the same free blocks. -/
def BothE (w0 : World) (p n : Nat) (lv : Value) (w : World) : Prop := ∃ l, Step noF w0 w ∧ w0.heap.size ≤ p ∧ IsSp w p l ∧ IsRow w lv l ∧ l.length = n
/-- The round's deed in memory. -/
def XE (w : World) (xb : Nat) (x : ActS) : Prop := w.heap[xb]? = some (.cells #[.int .i64 x.kind, .int .i64 x.num, .slice x.la x.xs.length x.lc] 29 (0, 0))
theorem XE.cells {w : World} {xb : Nat} {x : ActS} (h : XE w xb x) : w.cell? ⟨xb, 0, none⟩ = some (.int .i64 x.kind) ∧ w.cell? ⟨xb, 1, none⟩ = some (.int .i64 x.num) ∧ w.cell? ⟨xb, 2, none⟩ = some (.slice x.la x.xs.length x.lc) := ⟨cell_of_block h 0, cell_of_block h 1, cell_of_block h 2⟩
theorem XE.step {w w' : World} {xb : Nat} {x : ActS} (h : XE w xb x) (hs : Step noF w w') : XE w' xb x := (hs.block xb (lt_of_block h) (fun x => x)).trans h
theorem XE.beside {w w' : World} {xb p : Nat} {x : ActS} {m : List Bool} (h : XE w xb x) (hp : IsSp w p m) (hs : Step (oneF p) w w') : XE w' xb x := by
  refine (hs.block xb (lt_of_block h) ?_).trans h
  obtain ⟨_, _, g, c, h3, _⟩ := hp
  intro e
  unfold oneF at e
  subst e
  unfold XE at h
  rw [h] at h3
  injection h3 with h3
  injection h3 with _ h3 _
  exact absurd h3 (by decide)
def TailE (w0 : World) (p n xb : Nat) (x : ActS) (lv : Value) (w : World) : Prop := BothE w0 p n lv w ∧ XE w xb x

set_option maxHeartbeats 4000000 in
set_option maxRecDepth 100000 in
theorem r8_any (p n j l cap : Nat) (aa : Option Addr) (lv av : Value) (hav : av = .slice aa l cap) (w : World) (hl : l ≤ 9223372036854775807) (Q : Exit → Act → World → Prop) (a : Act) (ha : KnE (baseE p n j lv av) a)
    (hend : (j < l ∧ j < 50 → ∀ a', KnE (baseE p n j lv av) a' → Q .normal a' w) ∧ (¬ (j < l ∧ j < 50) → ∀ a', KnE (baseE p n j lv av) a' → Q (.exit 0) a' w)) :
    Code.wp Try.prog (navE [1, 1, 1, 1, 1, 0, 1, 0, 0, 0] (Try.f3.body.getD .skip)) Q a w := by
  obtain ⟨f, rfl, hf⟩ := ha.open
  have h0 : f 0 = .int .i64 n := hf (0, _) (by simp [baseE])
  have h1 : f 1 = av := hf (1, _) (by simp [baseE])
  have h5 : f 5 = .pointer (some ⟨p, 0, none⟩) := hf (5, _) (by simp [baseE])
  have h6 : f 6 = lv := hf (6, _) (by simp [baseE])
  have h7 : f 7 = .int .i64 j := hf (7, _) (by simp [baseE])
  simp only [frE, h0, h1, h5, h6, h7]
  clear hf ha h0 h1 h5 h6 h7
  conv => arg 2; whnf
  have HE := hid hend
  clear hend
  by_cases h1 : j < l
  · have k1 : (j : Int) < (l : Int) := by omega
    by_cases h2 : j < 50
    · have k2 : (j : Int) < 50 := by omega
      have HC : Hid (j < l ∧ j < 50) := ⟨h1, h2⟩
      clear h1 h2
      rw [hav]
      go_wp2_with fail
      refine HE.out.1 HC.out _ ?_
      rw [hav]
      refine ⟨rfl, rfl, ?_⟩
      intro y hy
      simp only [baseE, List.mem_cons, List.not_mem_nil, or_false] at hy
      rcases hy with rfl | rfl | rfl | rfl | rfl <;> rfl
    · have k2 : ¬ (j : Int) < 50 := by omega
      have HC : Hid (¬ (j < l ∧ j < 50)) := fun h => h2 h.2
      clear h1 h2
      rw [hav]
      go_wp2_with fail
      refine HE.out.2 HC.out _ ?_
      rw [hav]
      refine ⟨rfl, rfl, ?_⟩
      intro y hy
      simp only [baseE, List.mem_cons, List.not_mem_nil, or_false] at hy
      rcases hy with rfl | rfl | rfl | rfl | rfl <;> rfl
  · have k1 : ¬ (j : Int) < (l : Int) := by omega
    have HC : Hid (¬ (j < l ∧ j < 50)) := fun h => h1 h.1
    clear h1
    rw [hav]
    go_wp2_with fail
    refine HE.out.2 HC.out _ ?_
    rw [hav]
    refine ⟨rfl, rfl, ?_⟩
    intro y hy
    simp only [baseE, List.mem_cons, List.not_mem_nil, or_false] at hy
    rcases hy with rfl | rfl | rfl | rfl | rfl <;> rfl

set_option maxHeartbeats 4000000 in
set_option maxRecDepth 100000 in
theorem r9_any (p n j : Nat) (lv av : Value) (w : World) (hj : j < 50) (Q : Exit → Act → World → Prop) (a : Act) (ha : KnE (baseE p n j lv av) a) (hend : ∀ a', KnE (baseE p n (j + 1) lv av) a' → Q .normal a' w) :
    Code.wp Try.prog (navE [1, 1, 1, 1, 1, 0, 1, 0, 0, 1, 1] (Try.f3.body.getD .skip)) Q a w := by
  have hj2 : (j : Int) < 50 := by omega
  obtain ⟨f, rfl, hf⟩ := ha.open
  have h0 : f 0 = .int .i64 n := hf (0, _) (by simp [baseE])
  have h1 : f 1 = av := hf (1, _) (by simp [baseE])
  have h5 : f 5 = .pointer (some ⟨p, 0, none⟩) := hf (5, _) (by simp [baseE])
  have h6 : f 6 = lv := hf (6, _) (by simp [baseE])
  have h7 : f 7 = .int .i64 j := hf (7, _) (by simp [baseE])
  simp only [frE, h0, h1, h5, h6, h7]
  clear hf ha h0 h1 h5 h6 h7
  conv => arg 2; whnf
  have HE := hid hend
  clear hend
  go_wp2_with fail
  refine HE.out _ ?_
  refine ⟨rfl, rfl, ?_⟩
  intro y hy
  simp only [baseE, List.mem_cons, List.not_mem_nil, or_false] at hy
  rcases hy with rfl | rfl | rfl | rfl | rfl <;> rfl

def xCellsE (x : ActS) : Obj := .cells #[.int .i64 x.kind, .int .i64 x.num, .slice x.la x.xs.length x.lc] 29
set_option maxHeartbeats 4000000 in
set_option maxRecDepth 100000 in
theorem r10_any (p n j ab off l cap : Nat) (x : ActS) (lv : Value) (w : World) (x0 : w.cell? ⟨ab, off + j * 3, none⟩ = some (.int .i64 x.kind)) (x1 : w.cell? ⟨ab, off + j * 3 + 1, none⟩ = some (.int .i64 x.num)) (x2 : w.cell? ⟨ab, off + j * 3 + 2, none⟩ = some (.slice x.la x.xs.length x.lc)) (hj : j < l) (hj5 : j < 50)
    (av : Value) (hav : av = .slice (some ⟨ab, off, none⟩) l cap) (Q : Exit → Act → World → Prop) (a : Act) (ha : KnE (baseE p n j lv av) a)
    (hend : ∀ a', KnE ((8, .pointer (some ⟨w.heap.size, 0, none⟩)) :: baseE p n j lv av) a' → Q .normal a' (w.alloc (xCellsE x))) :
    Code.wp Try.prog (navE [1, 1, 1, 1, 1, 0, 1, 0, 0, 1, 0, 0, 0] (Try.f3.body.getD .skip)) Q a w := by
  have hji : (j : Int) < (l : Int) := by omega
  obtain ⟨f, rfl, hf⟩ := ha.open
  have h0 : f 0 = .int .i64 n := hf (0, _) (by simp [baseE])
  have h1 : f 1 = av := hf (1, _) (by simp [baseE])
  have h5 : f 5 = .pointer (some ⟨p, 0, none⟩) := hf (5, _) (by simp [baseE])
  have h6 : f 6 = lv := hf (6, _) (by simp [baseE])
  have h7 : f 7 = .int .i64 j := hf (7, _) (by simp [baseE])
  simp only [frE, h0, h1, h5, h6, h7]
  clear hf ha h0 h1 h5 h6 h7
  conv => arg 2; whnf
  have HE := hid hend
  clear hend
  rw [hav]
  unfold xCellsE at HE
  clear hj
  go_wp2_with fail
  refine HE.out _ ?_
  rw [hav]
  refine ⟨rfl, rfl, ?_⟩
  intro y hy
  simp only [baseE, List.mem_cons, List.not_mem_nil, or_false] at hy
  rcases hy with rfl | rfl | rfl | rfl | rfl | rfl <;> rfl

set_option maxHeartbeats 4000000 in
set_option maxRecDepth 100000 in
theorem r11_any (p n j xb : Nat) (x : ActS) (lv av : Value) (w : World) (hX : XE w xb x) (Q : Exit → Act → World → Prop) (a : Act) (ha : KnE ((8, .pointer (some ⟨xb, 0, none⟩)) :: baseE p n j lv av) a)
    (hend : (x.xs.length ≤ 10 → ∀ a', KnE ((8, .pointer (some ⟨xb, 0, none⟩)) :: baseE p n j lv av) a' → Q .normal a' w) ∧ (10 < x.xs.length → ∀ a', KnE [(4, .bool true)] a' → Q .ret a' w)) (hkl : x.xs.length ≤ 9223372036854775807) :
    Code.wp Try.prog (navE [1, 1, 1, 1, 1, 0, 1, 0, 0, 1, 0, 0, 1, 0] (Try.f3.body.getD .skip)) Q a w := by
  obtain ⟨f, rfl, hf⟩ := ha.open
  have h0 : f 0 = .int .i64 n := hf (0, _) (by simp [baseE])
  have h1 : f 1 = av := hf (1, _) (by simp [baseE])
  have h5 : f 5 = .pointer (some ⟨p, 0, none⟩) := hf (5, _) (by simp [baseE])
  have h6 : f 6 = lv := hf (6, _) (by simp [baseE])
  have h7 : f 7 = .int .i64 j := hf (7, _) (by simp [baseE])
  have h8 : f 8 = .pointer (some ⟨xb, 0, none⟩) := hf (8, _) (by simp [baseE])
  simp only [frE, h0, h1, h5, h6, h7, h8]
  clear hf ha h0 h1 h5 h6 h7 h8
  conv => arg 2; whnf
  have HE := hid hend
  clear hend
  obtain ⟨x0, x1, x2⟩ := hX.cells
  by_cases hl : x.xs.length ≤ 10
  · have hl2 : ¬ (10 : Int) < (x.xs.length : Int) := by omega
    have HL := hid hl
    clear hl
    go_wp2_with fail
    refine HE.out.1 HL.out _ ?_
    refine ⟨rfl, rfl, ?_⟩
    intro y hy
    simp only [baseE, List.mem_cons, List.not_mem_nil, or_false] at hy
    rcases hy with rfl | rfl | rfl | rfl | rfl | rfl <;> rfl
  · have hl2 : (10 : Int) < (x.xs.length : Int) := by omega
    have HL : Hid (10 < x.xs.length) := by show _ < _; omega
    clear hl
    go_wp2_with fail
    refine HE.out.2 HL.out _ ?_
    refine ⟨rfl, rfl, ?_⟩
    intro y hy
    simp only [baseE, List.mem_cons, List.not_mem_nil, or_false] at hy
    subst hy
    rfl

set_option maxHeartbeats 4000000 in
set_option maxRecDepth 100000 in
theorem r13_any (p n j xb : Nat) (lv av : Value) (w : World) (Q : Exit → Act → World → Prop) (a : Act) (ha : KnE ((8, .pointer (some ⟨xb, 0, none⟩)) :: baseE p n j lv av) a)
    (hend : ∀ a', KnE ((8, .pointer (some ⟨xb, 0, none⟩)) :: baseE p n j lv av) a' → Q .normal a' w) :
    Code.wp Try.prog (navE [1, 1, 1, 1, 1, 0, 1, 0, 0, 1, 0, 0, 1, 1, 0] (Try.f3.body.getD .skip)) Q a w := by
  obtain ⟨f, rfl, hf⟩ := ha.open
  have h0 : f 0 = .int .i64 n := hf (0, _) (by simp [baseE])
  have h1 : f 1 = av := hf (1, _) (by simp [baseE])
  have h5 : f 5 = .pointer (some ⟨p, 0, none⟩) := hf (5, _) (by simp [baseE])
  have h6 : f 6 = lv := hf (6, _) (by simp [baseE])
  have h7 : f 7 = .int .i64 j := hf (7, _) (by simp [baseE])
  have h8 : f 8 = .pointer (some ⟨xb, 0, none⟩) := hf (8, _) (by simp [baseE])
  simp only [frE, h0, h1, h5, h6, h7, h8]
  clear hf ha h0 h1 h5 h6 h7 h8
  conv => arg 2; whnf
  have HE := hid hend
  clear hend
  go_wp2_with fail
  refine HE.out _ ?_
  refine ⟨rfl, rfl, ?_⟩
  intro y hy
  simp only [baseE, List.mem_cons, List.not_mem_nil, or_false] at hy
  rcases hy with rfl | rfl | rfl | rfl | rfl | rfl <;> rfl

set_option maxHeartbeats 4000000 in
set_option maxRecDepth 100000 in
theorem r14_any (p n j xb : Nat) (x : ActS) (lv av : Value) (w : World) (hX : XE w xb x) (Q : Exit → Act → World → Prop) (a : Act) (ha : KnE ((8, .pointer (some ⟨xb, 0, none⟩)) :: baseE p n j lv av) a)
    (hend : ∀ a', KnE ((54, .int .i64 x.kind) :: (8, .pointer (some ⟨xb, 0, none⟩)) :: baseE p n j lv av) a' → Q .normal a' w) :
    Code.wp Try.prog (navE [1, 1, 1, 1, 1, 0, 1, 0, 0, 1, 0, 0, 1, 1, 1, 0, 0] (Try.f3.body.getD .skip)) Q a w := by
  obtain ⟨f, rfl, hf⟩ := ha.open
  have h0 : f 0 = .int .i64 n := hf (0, _) (by simp [baseE])
  have h1 : f 1 = av := hf (1, _) (by simp [baseE])
  have h5 : f 5 = .pointer (some ⟨p, 0, none⟩) := hf (5, _) (by simp [baseE])
  have h6 : f 6 = lv := hf (6, _) (by simp [baseE])
  have h7 : f 7 = .int .i64 j := hf (7, _) (by simp [baseE])
  have h8 : f 8 = .pointer (some ⟨xb, 0, none⟩) := hf (8, _) (by simp [baseE])
  simp only [frE, h0, h1, h5, h6, h7, h8]
  clear hf ha h0 h1 h5 h6 h7 h8
  conv => arg 2; whnf
  have HE := hid hend
  clear hend
  obtain ⟨x0, x1, x2⟩ := hX.cells
  go_wp2_with fail
  refine HE.out _ ?_
  refine ⟨rfl, rfl, ?_⟩
  intro y hy
  simp only [baseE, List.mem_cons, List.not_mem_nil, or_false] at hy
  rcases hy with rfl | rfl | rfl | rfl | rfl | rfl | rfl <;> rfl
end Go.Proofs.Ytdcomcpinlgpdaa
