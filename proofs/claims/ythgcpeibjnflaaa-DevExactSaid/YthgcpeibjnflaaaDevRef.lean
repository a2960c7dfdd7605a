/-
  The reference of layer 3 in memory, as the same plain device; lay, New.
-/
import Derived.Test.YthgcpeibjnflaaaDevI
import Derived.BigQuiet
namespace Go.Proofs.Ythgcpeibjnflaaa
open Go.RowKit
set_option linter.unusedVariables false

/-- The fuse as a number. -/
def fuI : Option (Nat × List Bool) → Int
  | none => -1
  | some (n, _) => n
/-- The reference's head. -/
def RHead (w : World) (q : Nat) (safe : List UInt8) (lv : Value) (on : Bool) (fz : Int) (kv : Value) (r wr fl : Nat) : Prop :=
  w.heap[q]? = some (.cells #[.string (str safe), lv, .bool on, .int .i64 fz, kv, .int .i64 r, .int .i64 wr, .int .i64 fl] 38 (0, 0))
/-- The reference's device d at block q. -/
def IsRef (w : World) (R : Nat → Nat) (o q : Nat) (d : Dv) : Prop :=
  ∃ lv ka kn kc, RHead w q d.safe.flatten lv d.on (fuI d.fuse) (.slice ka kn kc) d.reads d.writes d.flushes ∧ R q = o + 1 ∧ (∀ k, lv.ownBlock = some k → R k = o + 4) ∧ w.ownsRow 0 45 2 lv d.loose.length (wcells d.loose) ∧
    ∀ n ks, d.fuse = some (n, ks) → kn = ks.length ∧ RowAt w (fun k => R k ≠ 0) ka (bools ks)
theorem IsRef.lt {w : World} {R : Nat → Nat} {o q : Nat} {d : Dv} (h : IsRef w R o q d) : q < w.heap.size := by
  obtain ⟨lv, ka, kn, kc, h1, _⟩ := h
  exact lt_of_block h1
theorem IsRef.mono {w w' : World} {R R' : Nat → Nat} {o q : Nat} {d : Dv} {G : Nat → Prop} (h : IsRef w R o q d) (hs : Step G w w') (hG : ∀ k, R k = 0 ∨ (o < R k ∧ R k ≤ o + 6) → ¬ G k) (hR : ∀ k, k < w.heap.size → R' k = R k) : IsRef w' R' o q d := by
  obtain ⟨lv, ka, kn, kc, h1, h2, h3, h4, h5⟩ := h
  have hq := lt_of_block h1
  refine ⟨lv, ka, kn, kc, (hs.block q hq (hG q (.inr (by omega)))).trans h1, (hR q hq).trans h2, fun k hk => (hR k (h4.lt k hk).2).trans (h3 k hk), owns_keep h4 (fun k hk => hs.block k (h4.lt k hk).2 (hG k (.inr (by have := h3 k hk; omega)))), fun n ks h => ?_⟩
  obtain ⟨e, hr⟩ := h5 n ks h
  refine ⟨e, rowAt_keep hr (fun k hk hF => ?_)⟩
  have e0 : R k = 0 := Classical.not_not.1 hF
  exact ⟨hs.block k hk (hG k (.inl e0)), fun x => x ((hR k hk).trans e0)⟩
theorem ref_cells {w : World} {p : Nat} {v0 v1 v2 v3 v4 v5 v6 v7 : Value} (h : w.heap[p]? = some (.cells #[v0, v1, v2, v3, v4, v5, v6, v7] 38 (0, 0))) :
    w.cell? ⟨p, 0, none⟩ = some v0 ∧ w.cell? ⟨p, 1, none⟩ = some v1 ∧ w.cell? ⟨p, 2, none⟩ = some v2 ∧ w.cell? ⟨p, 3, none⟩ = some v3 ∧ w.cell? ⟨p, 4, none⟩ = some v4 ∧ w.cell? ⟨p, 5, none⟩ = some v5 ∧ w.cell? ⟨p, 6, none⟩ = some v6 ∧ w.cell? ⟨p, 7, none⟩ = some v7 := by
  exact ⟨cell_of_block h 0, cell_of_block h 1, cell_of_block h 2, cell_of_block h 3, cell_of_block h 4, cell_of_block h 5, cell_of_block h 6, cell_of_block h 7⟩

/-- Bytes over others. -/
def layL (s : List UInt8) (at_ : Nat) (t : List UInt8) : List UInt8 := s.take at_ ++ t ++ s.drop (at_ + t.length)
set_option maxHeartbeats 1000000 in
theorem lay_any (s : List UInt8) (at_ : Nat) (t : List UInt8) (h : at_ + t.length ≤ s.length) (hs : s.length ≤ 1000000) (w : World) :
    Calls Try.prog 30 #[.string (str s), .int .i64 at_, .string (str t)] w fun e w' => e = .returned (.string (str (layL s at_ t))) ∧ Step noF w w' := by
  obtain ⟨S, hS⟩ : ∃ S, str s = S := ⟨_, rfl⟩
  obtain ⟨T, hT⟩ : ∃ T, str t = T := ⟨_, rfl⟩
  have hSs : S.size = s.length := by rw [← hS, str_size]
  have hTs : T.size = t.length := by rw [← hT, str_size]
  obtain ⟨E, hE⟩ : ∃ E, at_ + T.size = E := ⟨_, rfl⟩
  have hres : Hid (S.extract 0 at_ ++ T ++ S.extract E S.size = str (layL s at_ t)) := by
    show _ = _
    rw [← hE, hSs, hTs, ← hS, ← hT, str_extract, str_extract, str_app, str_app, layL, List.take_of_length_le (l := s) (Nat.le_refl _), List.drop_zero]
  have hE1 : (at_ : Int) + (T.size : Int) = (E : Int) := by omega
  have hEl : (E : Int) ≤ (S.size : Int) := by omega
  have hal : (at_ : Int) ≤ (S.size : Int) := by omega
  have hE2 : IntKind.i64.wrap ((at_ : Int) + (T.size : Int)) = (E : Int) := iw hE1 (by omega) (by omega)
  have hE3 : wrap64 ((at_ : Int) + (T.size : Int)) = (E : Int) := w64 hE1 (by omega) (by omega)
  have hT9 : T.size ≤ 1000000 := by omega
  have hS9 : S.size ≤ 1000000 := by omega
  rw [hS, hT]
  clear hS hT hSs hTs hE h hs
  go_enter Try.func30, Try.ntmps30
  go_wp2
  go_quiet (fail)
  go_wp2
  go_ret
  exact ⟨ret_str hres.out, (Step.refl _ _).drewN _⟩
set_option maxHeartbeats 1000000 in
theorem refNew_any (s : List UInt8) (w : World) : Calls Try.prog 9 #[.string (str s)] w fun e w' => e = .returned (.pointer (some ⟨w.heap.size, 0, none⟩)) ∧ Step noF w w' ∧ RHead w' w.heap.size s (.slice none 0 0) true (-1) (.slice none 0 0) 0 0 0 := by
  obtain ⟨S, hS⟩ : ∃ S, str s = S := ⟨_, rfl⟩
  unfold RHead
  rw [hS]
  go_enter Try.func9, Try.ntmps9
  go_wp2
  go_ret
  exact ⟨rfl, (Step.refl _ _).alloc _, block_alloc_new _ _⟩

/-- A flat image, with one block turned. -/
theorem flat_set (l : List (List UInt8)) (hl : ∀ x ∈ l, x.length = 256) (i : Nat) (hi : i < l.length) (b : List UInt8) (hb : b.length = 256) : (l.set i b).flatten = layL l.flatten (256 * i) b := by
  induction l generalizing i with
  | nil => simp at hi
  | cons x l ih =>
    have hx := hl x List.mem_cons_self
    cases i with
    | zero =>
      rw [List.set_cons_zero, List.flatten_cons, List.flatten_cons, layL, Nat.mul_zero, List.take_zero, List.nil_append, Nat.zero_add, hb, ← hx, List.drop_left']
      rfl
    | succ i =>
      rw [List.set_cons_succ, List.flatten_cons, ih (fun y hy => hl y (List.mem_cons_of_mem _ hy)) i (by simpa using hi), List.flatten_cons, layL, layL, hb, show 256 * (i + 1) = x.length + 256 * i by omega]
      rw [List.take_append, List.drop_append, List.take_of_length_le (l := x) (by omega), show List.drop (x.length + 256 * i + 256) x = [] from List.drop_eq_nil_of_le (by omega)]
      simp [show x.length + 256 * i - x.length = 256 * i by omega, show x.length + 256 * i + 256 - x.length = 256 * i + 256 by omega]
theorem lay_lay (s : List UInt8) (a k : Nat) (b c : List UInt8) (hb : b.length = 256) (hc : c.length = 64) (hk : k < 4) (ha : a + 256 ≤ s.length) : layL (layL s a b) (a + 64 * k) c = layL s a (b.take (64 * k) ++ c ++ b.drop (64 * k + 64)) := by
  have hl : (s.take a).length = a := by rw [List.length_take]; omega
  unfold layL
  rw [hb, hc]
  have e1 : (b.take (64 * k) ++ c ++ b.drop (64 * k + 64)).length = 256 := by simp [hb, hc]; omega
  rw [e1]
  rw [show s.take a ++ b ++ s.drop (a + 256) = s.take a ++ (b ++ s.drop (a + 256)) from List.append_assoc _ _ _, List.take_append, List.drop_append, hl, List.take_of_length_le (l := s.take a) (by omega), show List.drop (a + 64 * k + 64) (s.take a) = [] from List.drop_eq_nil_of_le (by omega)]
  rw [show a + 64 * k - a = 64 * k by omega, show a + 64 * k + 64 - a = 64 * k + 64 by omega]
  rw [List.take_append_of_le_length (by omega), List.drop_append_of_le_length (by omega)]
  simp [List.append_assoc]
end Go.Proofs.Ythgcpeibjnflaaa
