/-
  A round of DevExact's loop, and the walk of the law.
-/
import Derived.Test.YthgcpeibjnflaaaDevArmsE
import Derived.Test.YthgcpeibjnflaaaDevAwake
namespace Go.Proofs.Ythgcpeibjnflaaa
open Go.RowKit
set_option linter.unusedVariables false
set_option linter.unusedSimpArgs false

def xCells (x : ActD) : Obj := .cells #[.int .i64 x.kind, .int .i64 x.at_, .int .u8 x.n.toNat, .slice x.ka x.ks.length x.kc] 30

set_option maxHeartbeats 4000000 in
set_option maxRecDepth 100000 in
theorem r15_any (p q n j ab off l cap : Nat) (x : ActD) (w : World) (x0 : w.cell? ⟨ab, off + j * 4, none⟩ = some (.int .i64 x.kind)) (x1 : w.cell? ⟨ab, off + j * 4 + 1, none⟩ = some (.int .i64 x.at_)) (x2 : w.cell? ⟨ab, off + j * 4 + 2, none⟩ = some (.int .u8 x.n.toNat)) (x3 : w.cell? ⟨ab, off + j * 4 + 3, none⟩ = some (.slice x.ka x.ks.length x.kc)) (hj : j < l) (hj5 : j < 50)
    (av : Value) (hav : av = .slice (some ⟨ab, off, none⟩) l cap) (Q : Exit → Act → World → Prop) (a : Act) (ha : Kn (base p q n j av) a)
    (hend : ∀ a', Kn ((9, .pointer (some ⟨w.heap.size, 0, none⟩)) :: base p q n j av) a' → Q .normal a' (w.alloc (xCells x))) :
    Code.wp Try.prog (nav [1, 1, 1, 1, 1, 1, 1, 1, 0, 1, 0, 0, 1, 0, 0, 0] (Try.f3.body.getD .skip)) Q a w := by
  subst hav
  have hji : (j : Int) < (l : Int) := by omega
  obtain ⟨av, hav⟩ : ∃ av : Value, av = .slice (some ⟨ab, off, none⟩) l cap := ⟨_, rfl⟩
  rw [← hav] at ha hend
  obtain ⟨f, rfl, hf⟩ := ha.open
  have h1 : f 1 = av := hf (1, av) (by simp [armK, base])
  have h5 : f 5 = .pointer (some ⟨p, 0, none⟩) := hf (5, _) (by simp [armK, base])
  have h6 : f 6 = .int .i64 n := hf (6, _) (by simp [armK, base])
  have h7 : f 7 = .pointer (some ⟨q, 0, none⟩) := hf (7, _) (by simp [armK, base])
  have h8 : f 8 = .int .i64 j := hf (8, _) (by simp [armK, base])
  simp only [fr, h1, h5, h6, h7, h8]
  clear hf h1 h5 h6 h7 h8 ha
  conv => arg 2; whnf
  have HE := hid hend
  clear hend
  rw [hav]
  obtain ⟨N, hN⟩ : ∃ N : Nat, x.n.toNat = N := ⟨_, rfl⟩
  unfold xCells at HE
  rw [hN] at x2 HE
  clear hj
  go_wp2_with fail
  refine HE.out _ ?_
  rw [hav]
  refine ⟨rfl, rfl, ?_⟩
  intro y hy
  simp only [armK, base, List.mem_cons, List.not_mem_nil, or_false] at hy
  rcases hy with rfl | rfl | rfl | rfl | rfl | rfl <;> rfl

set_option maxHeartbeats 4000000 in
set_option maxRecDepth 100000 in
theorem r16_any (p q n j xb : Nat) (x : ActD) (av : Value) (w : World) (hX : XB w xb x) (Q : Exit → Act → World → Prop) (a : Act) (ha : Kn ((9, .pointer (some ⟨xb, 0, none⟩)) :: base p q n j av) a)
    (hend : (x.ks.length ≤ 100 → ∀ a', Kn ((9, .pointer (some ⟨xb, 0, none⟩)) :: base p q n j av) a' → Q .normal a' w) ∧ (100 < x.ks.length → ∀ a', Kn [(4, .bool true)] a' → Q .ret a' w)) (hkl : x.ks.length ≤ 9223372036854775807) :
    Code.wp Try.prog (nav [1, 1, 1, 1, 1, 1, 1, 1, 0, 1, 0, 0, 1, 0, 0, 1, 0] (Try.f3.body.getD .skip)) Q a w := by
  obtain ⟨f, rfl, hf⟩ := ha.open
  have h1 : f 1 = av := hf (1, av) (by simp [armK, base])
  have h5 : f 5 = .pointer (some ⟨p, 0, none⟩) := hf (5, _) (by simp [armK, base])
  have h6 : f 6 = .int .i64 n := hf (6, _) (by simp [armK, base])
  have h7 : f 7 = .pointer (some ⟨q, 0, none⟩) := hf (7, _) (by simp [armK, base])
  have h8 : f 8 = .int .i64 j := hf (8, _) (by simp [armK, base])
  have h9 : f 9 = .pointer (some ⟨xb, 0, none⟩) := hf (9, _) (by simp [armK, base])
  simp only [fr, h1, h5, h6, h7, h8, h9]
  clear hf h1 h5 h6 h7 h8 h9 ha
  conv => arg 2; whnf
  have HE := hid hend
  clear hend
  obtain ⟨x0, x1, x2, x3⟩ := hX.cells
  by_cases hl : x.ks.length ≤ 100
  · have hl2 : ¬ (100 : Int) < (x.ks.length : Int) := by omega
    have HL := hid hl
    clear hl
    go_wp2_with fail
    refine HE.out.1 HL.out _ ?_
    refine ⟨rfl, rfl, ?_⟩
    intro y hy
    simp only [armK, base, List.mem_cons, List.not_mem_nil, or_false] at hy
    rcases hy with rfl | rfl | rfl | rfl | rfl | rfl <;> rfl
  · have hl2 : (100 : Int) < (x.ks.length : Int) := by omega
    have HL : Hid (100 < x.ks.length) := by show _ < _; omega
    clear hl
    go_wp2_with fail
    refine HE.out.2 HL.out _ ?_
    refine ⟨rfl, rfl, ?_⟩
    intro y hy
    simp only [List.mem_cons, List.not_mem_nil, or_false] at hy
    subst hy
    rfl

set_option maxHeartbeats 4000000 in
set_option maxRecDepth 100000 in
theorem r18_any (p q n j xb : Nat) (x : ActD) (av : Value) (w : World) (hX : XB w xb x) (Q : Exit → Act → World → Prop) (a : Act) (ha : Kn ((9, .pointer (some ⟨xb, 0, none⟩)) :: base p q n j av) a)
    (hend : ∀ a', Kn ((9, .pointer (some ⟨xb, 0, none⟩)) :: (10, .bool (decide (0 ≤ x.at_) && decide (x.at_ < (n : Int)))) :: base p q n j av) a' → Q .normal a' w) :
    Code.wp Try.prog (nav [1, 1, 1, 1, 1, 1, 1, 1, 0, 1, 0, 0, 1, 0, 0, 1, 1, 0] (Try.f3.body.getD .skip)) Q a w := by
  obtain ⟨f, rfl, hf⟩ := ha.open
  have h1 : f 1 = av := hf (1, av) (by simp [armK, base])
  have h5 : f 5 = .pointer (some ⟨p, 0, none⟩) := hf (5, _) (by simp [armK, base])
  have h6 : f 6 = .int .i64 n := hf (6, _) (by simp [armK, base])
  have h7 : f 7 = .pointer (some ⟨q, 0, none⟩) := hf (7, _) (by simp [armK, base])
  have h8 : f 8 = .int .i64 j := hf (8, _) (by simp [armK, base])
  have h9 : f 9 = .pointer (some ⟨xb, 0, none⟩) := hf (9, _) (by simp [armK, base])
  simp only [fr, h1, h5, h6, h7, h8, h9]
  clear hf h1 h5 h6 h7 h8 h9 ha
  conv => arg 2; whnf
  have HE := hid hend
  clear hend
  obtain ⟨x0, x1, x2, x3⟩ := hX.cells
  by_cases h0 : 0 ≤ x.at_
  · have HB : Hid ((decide (0 ≤ x.at_) && decide (x.at_ < (n : Int))) = decide (x.at_ < (n : Int))) := by show _ = _; simp [h0]
    rw [HB.out] at HE
    go_wp2_with fail
    refine HE.out _ ?_
    refine ⟨rfl, rfl, ?_⟩
    intro y hy
    simp only [armK, base, List.mem_cons, List.not_mem_nil, or_false] at hy
    rcases hy with rfl | rfl | rfl | rfl | rfl | rfl | rfl <;> rfl
  · have HB : Hid ((decide (0 ≤ x.at_) && decide (x.at_ < (n : Int))) = false) := by show _ = _; simp [h0]
    rw [HB.out] at HE
    go_wp2_with fail
    refine HE.out _ ?_
    refine ⟨rfl, rfl, ?_⟩
    intro y hy
    simp only [armK, base, List.mem_cons, List.not_mem_nil, or_false] at hy
    rcases hy with rfl | rfl | rfl | rfl | rfl | rfl | rfl <;> rfl

set_option maxHeartbeats 4000000 in
set_option maxRecDepth 100000 in
theorem r19_any (p q n j xb : Nat) (x : ActD) (av : Value) (w : World) (hX : XB w xb x) (Q : Exit → Act → World → Prop) (a : Act) (ha : Kn ((9, .pointer (some ⟨xb, 0, none⟩)) :: (10, .bool (decide (0 ≤ x.at_) && decide (x.at_ < (n : Int)))) :: base p q n j av) a)
    (hend : ∀ a', Kn (armK p q n j xb x av) a' → Q .normal a' w) :
    Code.wp Try.prog (nav [1, 1, 1, 1, 1, 1, 1, 1, 0, 1, 0, 0, 1, 0, 0, 1, 1, 1, 0, 0] (Try.f3.body.getD .skip)) Q a w := by
  obtain ⟨f, rfl, hf⟩ := ha.open
  have h1 : f 1 = av := hf (1, av) (by simp [armK, base])
  have h5 : f 5 = .pointer (some ⟨p, 0, none⟩) := hf (5, _) (by simp [armK, base])
  have h6 : f 6 = .int .i64 n := hf (6, _) (by simp [armK, base])
  have h7 : f 7 = .pointer (some ⟨q, 0, none⟩) := hf (7, _) (by simp [armK, base])
  have h8 : f 8 = .int .i64 j := hf (8, _) (by simp [armK, base])
  have h9 : f 9 = .pointer (some ⟨xb, 0, none⟩) := hf (9, _) (by simp [armK, base])
  have h10 : f 10 = .bool (decide (0 ≤ x.at_) && decide (x.at_ < (n : Int))) := hf (10, _) (by simp [armK, base])
  simp only [fr, h1, h5, h6, h7, h8, h9, h10]
  clear hf h1 h5 h6 h7 h8 h9 h10 ha
  conv => arg 2; whnf
  have HE := hid hend
  clear hend
  obtain ⟨x0, x1, x2, x3⟩ := hX.cells
  go_wp2_with fail
  refine HE.out _ ?_
  refine ⟨rfl, rfl, ?_⟩
  intro y hy
  simp only [armK, base, List.mem_cons, List.not_mem_nil, or_false] at hy
  rcases hy with rfl | rfl | rfl | rfl | rfl | rfl | rfl | rfl <;> rfl

set_option maxHeartbeats 4000000 in
set_option maxRecDepth 100000 in
theorem r14_any (p q n j : Nat) (av : Value) (w : World) (hj : j < 50) (Q : Exit → Act → World → Prop) (a : Act) (ha : Kn (base p q n j av) a) (hend : ∀ a', Kn (base p q n (j + 1) av) a' → Q .normal a' w) :
    Code.wp Try.prog (nav [1, 1, 1, 1, 1, 1, 1, 1, 0, 1, 0, 0, 1, 1] (Try.f3.body.getD .skip)) Q a w := by
  have hj2 : (j : Int) < 50 := by omega
  obtain ⟨f, rfl, hf⟩ := ha.open
  have h1 : f 1 = av := hf (1, av) (by simp [armK, base])
  have h5 : f 5 = .pointer (some ⟨p, 0, none⟩) := hf (5, _) (by simp [armK, base])
  have h6 : f 6 = .int .i64 n := hf (6, _) (by simp [armK, base])
  have h7 : f 7 = .pointer (some ⟨q, 0, none⟩) := hf (7, _) (by simp [armK, base])
  have h8 : f 8 = .int .i64 j := hf (8, _) (by simp [armK, base])
  simp only [fr, h1, h5, h6, h7, h8]
  clear hf h1 h5 h6 h7 h8 ha
  conv => arg 2; whnf
  have HE := hid hend
  clear hend
  go_wp2_with fail
  refine HE.out _ ?_
  refine ⟨rfl, rfl, ?_⟩
  intro y hy
  simp only [armK, base, List.mem_cons, List.not_mem_nil, or_false] at hy
  rcases hy with rfl | rfl | rfl | rfl | rfl <;> rfl

set_option maxHeartbeats 4000000 in
set_option maxRecDepth 100000 in
theorem r13_any (p q n j l cap : Nat) (aa : Option Addr) (av : Value) (hav : av = .slice aa l cap) (w : World) (hl : l ≤ 9223372036854775807) (Q : Exit → Act → World → Prop) (a : Act) (ha : Kn (base p q n j av) a)
    (hend : (j < l ∧ j < 50 → ∀ a', Kn (base p q n j av) a' → Q .normal a' w) ∧ (¬ (j < l ∧ j < 50) → ∀ a', Kn (base p q n j av) a' → Q (.exit 0) a' w)) :
    Code.wp Try.prog (nav [1, 1, 1, 1, 1, 1, 1, 1, 0, 1, 0, 0, 0] (Try.f3.body.getD .skip)) Q a w := by
  obtain ⟨f, rfl, hf⟩ := ha.open
  have h1 : f 1 = av := hf (1, av) (by simp [armK, base])
  have h5 : f 5 = .pointer (some ⟨p, 0, none⟩) := hf (5, _) (by simp [armK, base])
  have h6 : f 6 = .int .i64 n := hf (6, _) (by simp [armK, base])
  have h7 : f 7 = .pointer (some ⟨q, 0, none⟩) := hf (7, _) (by simp [armK, base])
  have h8 : f 8 = .int .i64 j := hf (8, _) (by simp [armK, base])
  simp only [fr, h1, h5, h6, h7, h8]
  clear hf h1 h5 h6 h7 h8 ha
  conv => arg 2; whnf
  have HE := hid hend
  clear hend
  by_cases h1 : j < l
  · have k1 : (j : Int) < (l : Int) := by omega
    by_cases h2 : j < 50
    · have k2 : (j : Int) < 50 := by omega
      have HC : Hid (j < l ∧ j < 50) := ⟨h1, h2⟩
      clear h1 h2
      rw [hav]
      go_wp2_with fail
      refine HE.out.1 HC.out _ ?_
      rw [hav]
      refine ⟨rfl, rfl, ?_⟩
      intro y hy
      simp only [armK, base, List.mem_cons, List.not_mem_nil, or_false] at hy
      rcases hy with rfl | rfl | rfl | rfl | rfl <;> rfl
    · have k2 : ¬ (j : Int) < 50 := by omega
      have HC : Hid (¬ (j < l ∧ j < 50)) := fun h => h2 h.2
      clear h1 h2
      rw [hav]
      go_wp2_with fail
      refine HE.out.2 HC.out _ ?_
      rw [hav]
      refine ⟨rfl, rfl, ?_⟩
      intro y hy
      simp only [armK, base, List.mem_cons, List.not_mem_nil, or_false] at hy
      rcases hy with rfl | rfl | rfl | rfl | rfl <;> rfl
  · have k1 : ¬ (j : Int) < (l : Int) := by omega
    have HC : Hid (¬ (j < l ∧ j < 50)) := fun h => h1 h.1
    clear h1
    rw [hav]
    go_wp2_with fail
    refine HE.out.2 HC.out _ ?_
    rw [hav]
    refine ⟨rfl, rfl, ?_⟩
    intro y hy
    simp only [armK, base, List.mem_cons, List.not_mem_nil, or_false] at hy
    rcases hy with rfl | rfl | rfl | rfl | rfl <;> rfl

end Go.Proofs.Ythgcpeibjnflaaa
