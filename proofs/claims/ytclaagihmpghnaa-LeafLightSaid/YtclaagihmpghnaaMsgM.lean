/-
  Layer 8 (msg) as plain functions: messages, whether they can be, what they do to a key's value, two of them as one. Nothing of the program is named here.
-/
import Derived.Test.YtclaagihmpghnaaKeyK
namespace Go.Proofs.Ytclaagihmpghnaa
open Go.RowKit
set_option linter.unusedVariables false
set_option linter.unusedSimpArgs false

/-- A message. -/
structure Mg where
  kind : Int
  key : List UInt8
  val : List UInt8
theorem Mg.ext' {a b : Mg} (h1 : a.kind = b.kind) (h2 : a.key = b.key) (h3 : a.val = b.val) : a = b := by
  cases a
  cases b
  simp_all
/-- As the program holds it. -/
def Mg.value (m : Mg) : Value := .agg #[.int .i64 m.kind, .string (str m.key), .string (str m.val)]
def Mg.zero : Mg := ⟨0, [], []⟩
/-- A message of that kind may have v. -/
def isV (k : Int) (v : List UInt8) : Bool := if k = 1 then decide (v.length ≤ 16) else if k = 2 then decide (v = []) else if k = 3 then decide (v.length = 8) else false
def Mg.is (m : Mg) : Bool := isK m.key && isV m.kind m.val
/-- Both numbers' sum, round and round. -/
def sumL (a b : List UInt8) : List UInt8 := be 8 ((numOf a + numOf b) % 18446744073709551616)
def moreL (v a : List UInt8) : List UInt8 := if v.length = 8 ∧ a.length = 8 then sumL v a else v
def Mg.appV (m : Mg) (v : List UInt8) (has : Bool) : List UInt8 := if m.is then (if m.kind = 2 then [] else if m.kind = 3 ∧ has = true then moreL v m.val else m.val) else if has then v else []
def Mg.appH (m : Mg) (has : Bool) : Bool := if m.is then decide (m.kind ≠ 2) else has
/-- Two can go together. -/
def Mg.both (a b : Mg) : Bool := a.is && b.is && decide (a.key = b.key)
def Mg.then (a b : Mg) : Mg := if a.both b then (if b.kind = 3 then (if a.kind = 3 then ⟨3, a.key, sumL a.val b.val⟩ else if a.kind = 2 then ⟨1, a.key, b.val⟩ else ⟨1, a.key, moreL a.val b.val⟩) else b) else Mg.zero
def Mg.thenE (a b : Mg) : Int := if a.both b then 0 else 1

theorem numOf_lt (l : List UInt8) : numOf l < 18446744073709551616 := by
  unfold numOf
  split
  · rename_i h
    have := beN_lt l
    rw [h] at this
    omega
  · omega
theorem numOf_be (n : Nat) (h : n < 18446744073709551616) : numOf (be 8 n) = n := by
  rw [numOf, if_pos (be_length 8 n), beN_be 8 n (by omega)]
theorem sumL_length (a b : List UInt8) : (sumL a b).length = 8 := be_length 8 _
theorem numOf_sum (a b : List UInt8) : numOf (sumL a b) = (numOf a + numOf b) % 18446744073709551616 := by
  rw [sumL, numOf_be _ (by omega)]
theorem sumL_assoc (a b c : List UInt8) : sumL (sumL a b) c = sumL a (sumL b c) := by
  rw [sumL, numOf_sum, sumL, numOf_sum]
  congr 1
  omega
theorem sumL_comm (a b : List UInt8) : sumL a b = sumL b a := by
  rw [sumL, sumL, Nat.add_comm]
theorem moreL_length (v a : List UInt8) (h : v.length ≤ 16) : (moreL v a).length ≤ 16 := by
  unfold moreL
  split
  · rw [sumL_length]; omega
  · exact h
theorem moreL_eight (v a : List UInt8) (h : v.length = 8) (h2 : a.length = 8) : moreL v a = sumL v a := by rw [moreL, if_pos ⟨h, h2⟩]
theorem moreL_more (v a b : List UInt8) (ha : a.length = 8) (hb : b.length = 8) : moreL (moreL v a) b = moreL v (sumL a b) := by
  by_cases h : v.length = 8
  · rw [moreL_eight v a h ha, moreL_eight _ b (sumL_length _ _) hb, moreL_eight v _ h (sumL_length _ _), sumL_assoc]
  · have e : ∀ x : List UInt8, moreL v x = v := fun x => by rw [moreL, if_neg (fun y => h y.1)]
    rw [e, e, e]

theorem isV_iff (k : Int) (v : List UInt8) : isV k v = true ↔ (k = 1 ∧ v.length ≤ 16) ∨ (k = 2 ∧ v = []) ∨ (k = 3 ∧ v.length = 8) := by
  unfold isV
  grind
theorem is_iff (m : Mg) : m.is = true ↔ isK m.key = true ∧ ((m.kind = 1 ∧ m.val.length ≤ 16) ∨ (m.kind = 2 ∧ m.val = []) ∨ (m.kind = 3 ∧ m.val.length = 8)) := by
  unfold Mg.is
  rw [Bool.and_eq_true, isV_iff]

/-- What two of one key make. -/
theorem both_of {a b : Mg} (ha : a.is = true) (hb : b.is = true) (hk : b.key = a.key) : a.both b = true := by simp [Mg.both, ha, hb, hk]
theorem then_good {a b : Mg} (ha : a.is = true) (hb : b.is = true) (hk : b.key = a.key) : (a.then b).is = true ∧ (a.then b).key = a.key := by
  have h0 := both_of ha hb hk
  obtain ⟨k1, a1⟩ := (is_iff a).1 ha
  obtain ⟨k2, b1⟩ := (is_iff b).1 hb
  rw [Mg.then, if_pos h0]
  by_cases b3 : b.kind = 3
  · have bl : b.val.length = 8 := by grind
    rw [if_pos b3]
    by_cases a3 : a.kind = 3
    · rw [if_pos a3]
      exact ⟨(is_iff _).2 ⟨k1, .inr (.inr ⟨rfl, sumL_length _ _⟩)⟩, rfl⟩
    · rw [if_neg a3]
      by_cases a2 : a.kind = 2
      · rw [if_pos a2]
        exact ⟨(is_iff _).2 ⟨k1, .inl ⟨rfl, by show b.val.length ≤ 16; omega⟩⟩, rfl⟩
      · rw [if_neg a2]
        exact ⟨(is_iff _).2 ⟨k1, .inl ⟨rfl, moreL_length _ _ (by grind)⟩⟩, rfl⟩
  · rw [if_neg b3]
    exact ⟨hb, hk⟩
/-- A message that can be, by its three kinds. -/
theorem Mg.cases {m : Mg} (h : m.is = true) : (m.kind = 1 ∧ m.val.length ≤ 16) ∨ (m.kind = 2 ∧ m.val = []) ∨ (m.kind = 3 ∧ m.val.length = 8) := ((is_iff m).1 h).2
theorem app_then {a b : Mg} (ha : a.is = true) (hb : b.is = true) (hk : b.key = a.key) (v : List UInt8) (has : Bool) :
    b.appV (a.appV v has) (a.appH has) = (a.then b).appV v has ∧ b.appH (a.appH has) = (a.then b).appH has := by
  have h0 := both_of ha hb hk
  obtain ⟨hc, hk2⟩ := then_good ha hb hk
  have ca := Mg.cases ha
  have cb := Mg.cases hb
  unfold Mg.appV Mg.appH
  rw [if_pos hb, if_pos ha, if_pos hc, if_pos ha, if_pos hb, if_pos hc]
  rw [Mg.then, if_pos h0]
  rcases cb with ⟨kb, lb⟩ | ⟨kb, lb⟩ | ⟨kb, lb⟩
  · simp [kb]
  · simp [kb]
  · rcases ca with ⟨ka, la⟩ | ⟨ka, la⟩ | ⟨ka, la⟩
    · simp [kb, ka]
    · simp [kb, ka]
    · cases has
      · simp [kb, ka, moreL_eight _ _ la lb]
      · simp [kb, ka, moreL_more _ _ _ la lb]
theorem then_assoc {a b c : Mg} (ha : a.is = true) (hb : b.is = true) (hc : c.is = true) (hk : b.key = a.key) (hk2 : c.key = a.key) : (a.then b).then c = a.then (b.then c) := by
  obtain ⟨g1, g2⟩ := then_good ha hb hk
  obtain ⟨g3, g4⟩ := then_good hb hc (hk2.trans hk.symm)
  have h0 := both_of ha hb hk
  have h1 := both_of hb hc (hk2.trans hk.symm)
  have h2 := both_of g1 hc (hk2.trans g2.symm)
  have h3 := both_of ha g3 (g4.trans hk)
  have ca := Mg.cases ha
  have cb := Mg.cases hb
  have cc := Mg.cases hc
  conv => lhs; rw [Mg.then, if_pos h2]
  conv => rhs; rw [Mg.then, if_pos h3]
  rw [Mg.then, if_pos h0, Mg.then, if_pos h1]
  rcases cc with ⟨kc, lc⟩ | ⟨kc, lc⟩ | ⟨kc, lc⟩
  · simp [kc]
  · simp [kc]
  · rcases cb with ⟨kb, lb⟩ | ⟨kb, lb⟩ | ⟨kb, lb⟩
    · simp [kc, kb, hk]
    · simp [kc, kb, hk]
    · rcases ca with ⟨ka, la⟩ | ⟨ka, la⟩ | ⟨ka, la⟩
      · simp [kc, kb, ka, moreL_more _ _ _ lb lc]
      · simp [kc, kb, ka, moreL_eight _ _ lb lc]
      · simp [kc, kb, ka, sumL_assoc]
/-- A message in memory. -/
def TripAt (w : World) (g : Nat) (t : TypeId) (m : Mg) : Prop := w.heap[g]? = some (.cells #[.int .i64 m.kind, .string (str m.key), .string (str m.val)] t (0, 0))
theorem TripAt.all {w : World} {g : Nat} {t : TypeId} {m : Mg} (h : TripAt w g t m) : w.cell? ⟨g, 0, none⟩ = some (.int .i64 m.kind) ∧ w.cell? ⟨g, 1, none⟩ = some (.string (str m.key)) ∧ w.cell? ⟨g, 2, none⟩ = some (.string (str m.val)) ∧
    w.frozen? ⟨g, 0, none⟩ = false ∧ w.frozen? ⟨g, 1, none⟩ = false ∧ w.frozen? ⟨g, 2, none⟩ = false :=
  ⟨by simpa using cell_of_block h 0, by simpa using cell_of_block h 1, by simpa using cell_of_block h 2, frozen_of_block h 0, frozen_of_block h 1, frozen_of_block h 2⟩
theorem TripAt.step {w w' : World} {g : Nat} {t : TypeId} {m : Mg} (h : TripAt w g t m) (hs : Step noF w w') : TripAt w' g t m := (hs.block g (lt_of_block h) (fun x => x)).trans h
theorem TripAt.alloc {w : World} {g : Nat} {t : TypeId} {m : Mg} (h : TripAt w g t m) (o : Obj) : TripAt (w.alloc o) g t m := block_alloc_old h o
theorem trip_new (w : World) (t : TypeId) (m : Mg) : TripAt (w.alloc (.cells #[.int .i64 m.kind, .string (str m.key), .string (str m.val)] t)) w.heap.size t m := block_alloc_new w _
/-- Behind a store of a whole one. -/
theorem TripAt.put {w : World} {g : Nat} {t : TypeId} {m : Mg} (h : TripAt w g t m) (n : Mg) : TripAt (((w.setCell ⟨g, 0, none⟩ (.int .i64 n.kind)).setCell ⟨g, 1, none⟩ (.string (str n.key))).setCell ⟨g, 2, none⟩ (.string (str n.val))) g t n := by
  have h1 := block_setCell h 0 (.int .i64 n.kind)
  have h2 := block_setCell h1 1 (.string (str n.key))
  have h3 := block_setCell h2 2 (.string (str n.val))
  simpa [TripAt] using h3
theorem TripAt.putOther {w : World} {g q : Nat} {t : TypeId} {m : Mg} (h : TripAt w g t m) (hq : q ≠ g) (x y z : Value) : TripAt (((w.setCell ⟨q, 0, none⟩ x).setCell ⟨q, 1, none⟩ y).setCell ⟨q, 2, none⟩ z) g t m := by
  show _ = _
  rw [Below.heap_setCell _ _ _ _ (fun e => hq e.symm), Below.heap_setCell _ _ _ _ (fun e => hq e.symm), Below.heap_setCell _ _ _ _ (fun e => hq e.symm)]
  exact h
theorem Step.put3 {F : Nat → Prop} {w w' : World} (h : Step F w w') (g : Nat) (hg : w.heap.size ≤ g) (x y z : Value) : Step F w (((w'.setCell ⟨g, 0, none⟩ x).setCell ⟨g, 1, none⟩ y).setCell ⟨g, 2, none⟩ z) :=
  ((h.setCell (p := ⟨g, 0, none⟩) (.inr hg) x).setCell (p := ⟨g, 1, none⟩) (.inr hg) y).setCell (p := ⟨g, 2, none⟩) (.inr hg) z
/-- Two that came in, and a third one, new. -/
theorem trip3 (w : World) (t : TypeId) (a b c : Mg) : let W := ((w.alloc (.cells #[.int .i64 a.kind, .string (str a.key), .string (str a.val)] t)).alloc (.cells #[.int .i64 b.kind, .string (str b.key), .string (str b.val)] t)).alloc (.cells #[.int .i64 c.kind, .string (str c.key), .string (str c.val)] t)
    TripAt W w.heap.size t a ∧ TripAt W (w.heap.size + 1) t b ∧ TripAt W (w.heap.size + 1 + 1) t c ∧ Step noF w W := by
  refine ⟨((trip_new w t a).alloc _).alloc _, ?_, ?_, ((((Step.refl noF w).alloc _).alloc _).alloc _)⟩
  · have h := (trip_new (w.alloc (.cells #[.int .i64 a.kind, .string (str a.key), .string (str a.val)] t)) t b).alloc (.cells #[.int .i64 c.kind, .string (str c.key), .string (str c.val)] t)
    rw [World.size_alloc] at h
    exact h
  · have h := trip_new ((w.alloc (.cells #[.int .i64 a.kind, .string (str a.key), .string (str a.val)] t)).alloc (.cells #[.int .i64 b.kind, .string (str b.key), .string (str b.val)] t)) t c
    rw [World.size_alloc, World.size_alloc] at h
    exact h
theorem trip2 (w : World) (t : TypeId) (a b : Mg) : let W := (w.alloc (.cells #[.int .i64 a.kind, .string (str a.key), .string (str a.val)] t)).alloc (.cells #[.int .i64 b.kind, .string (str b.key), .string (str b.val)] t)
    TripAt W w.heap.size t a ∧ TripAt W (w.heap.size + 1) t b ∧ Step noF w W := by
  refine ⟨(trip_new w t a).alloc _, ?_, (((Step.refl noF w).alloc _).alloc _)⟩
  have h := trip_new (w.alloc (.cells #[.int .i64 a.kind, .string (str a.key), .string (str a.val)] t)) t b
  rw [World.size_alloc] at h
  exact h
/-- Behind a store of its key. -/
theorem TripAt.key1 {w : World} {g : Nat} {t : TypeId} {m : Mg} (h : TripAt w g t m) (x : List UInt8) : TripAt (w.setCell ⟨g, 1, none⟩ (.string (str x))) g t ⟨m.kind, x, m.val⟩ := by
  have h1 := block_setCell h 1 (.string (str x))
  simpa [TripAt] using h1
theorem TripAt.other1 {w : World} {g q : Nat} {t : TypeId} {m : Mg} (h : TripAt w g t m) (hq : q ≠ g) (j : Nat) (x : Value) : TripAt (w.setCell ⟨q, j, none⟩ x) g t m := by
  show _ = _
  rw [Below.heap_setCell _ _ _ _ (fun e => hq e.symm)]
  exact h
theorem Mg.val_le {m : Mg} (h : m.is = true) : m.val.length ≤ 16 := by
  rcases Mg.cases h with ⟨_, h⟩ | ⟨_, h⟩ | ⟨_, h⟩
  · exact h
  · rw [h]; simp
  · omega
theorem Mg.key_le {m : Mg} (h : m.is = true) : m.key.length ≤ 8 := by
  have := ((is_iff m).1 h).1
  simp [isK] at this
  exact this.2
theorem Mg.val_max {m : Mg} (h : m.is = true) : m.val.length ≤ maxLen := by
  have := Mg.val_le h
  unfold maxLen
  omega
end Go.Proofs.Ytclaagihmpghnaa
