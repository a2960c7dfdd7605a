/-
  A device of blocks in memory: the plain value, where it lies, and what stays. Nothing of the program but its types' numbers.
-/
import Derived.Test.YthgcpeibjnflaaaRows
import Derived.Test.YthgcpeibjnflaaaBase
import Derived.Test.YthgcpeibjnflaaaBytes
namespace Go.Proofs.Ythgcpeibjnflaaa
open Go.RowKit
set_option linter.unusedVariables false

/-- A device: the blocks that are safe, the writes that aren't, whether it is on, a fuse, three counts. -/
structure Dv where
  safe : List (List UInt8)
  loose : List (Nat × List UInt8)
  on : Bool
  fuse : Option (Nat × List Bool)
  reads : Nat
  writes : Nat
  flushes : Nat

def strs (xs : List (List UInt8)) : List Value := xs.map fun l => Value.string (str l)
def wcells (ws : List (Nat × List UInt8)) : List Value := ws.flatMap fun x => [Value.int .i64 x.1, .string (str x.2)]
def bools (ks : List Bool) : List Value := ks.map Value.bool
/-- All writes laid. -/
def flushL (s : List (List UInt8)) (ws : List (Nat × List UInt8)) : List (List UInt8) := ws.foldl (fun s x => s.set x.1 x.2) s

theorem strs_length (xs : List (List UInt8)) : (strs xs).length = xs.length := by simp [strs]
theorem strs_at (xs : List (List UInt8)) (j : Nat) (h : j < (strs xs).length) : (strs xs)[j] = .string (str (xs[j]'(by simpa [strs] using h))) := by simp [strs]
theorem strs_set (xs : List (List UInt8)) (j : Nat) (l : List UInt8) : (strs xs).set j (.string (str l)) = strs (xs.set j l) := by simp [strs, List.map_set]
theorem wcells_length (ws : List (Nat × List UInt8)) : (wcells ws).length = ws.length * 2 := by
  induction ws with
  | nil => rfl
  | cons x ws ih => simp [wcells] at ih ⊢; omega
theorem wcells_append (a b : List (Nat × List UInt8)) : wcells (a ++ b) = wcells a ++ wcells b := by simp [wcells]
theorem wcells_at (ws : List (Nat × List UInt8)) (j : Nat) (h : j < ws.length) : (wcells ws)[2 * j]? = some (.int .i64 ws[j].1) ∧ (wcells ws)[2 * j + 1]? = some (.string (str ws[j].2)) := by
  induction ws generalizing j with
  | nil => simp at h
  | cons x ws ih =>
    cases j with
    | zero => simp [wcells]
    | succ j =>
      have := ih j (by simpa using h)
      simp only [wcells, List.flatMap_cons] at this ⊢
      rw [show 2 * (j + 1) = 2 * j + 2 by omega]
      simpa using this
theorem flushL_length (s : List (List UInt8)) (ws : List (Nat × List UInt8)) : (flushL s ws).length = s.length := by
  induction ws generalizing s with
  | nil => rfl
  | cons x ws ih => simp only [flushL, List.foldl_cons] at ih ⊢; rw [ih]; simp
theorem flushL_snoc (s : List (List UInt8)) (ws : List (Nat × List UInt8)) (x : Nat × List UInt8) : flushL s (ws ++ [x]) = (flushL s ws).set x.1 x.2 := by simp [flushL]

/-- A row at the head of a block. -/
def RowIn (w : World) (g : Nat) (e : TypeId) (xs : List Value) : Prop := ∃ (A : Array Value) (rest : List Value), w.heap[g]? = some (.cells A e (0, 0)) ∧ A.toList = xs ++ rest
theorem RowIn.lt {w : World} {g : Nat} {e : TypeId} {xs : List Value} (h : RowIn w g e xs) : g < w.heap.size := by obtain ⟨A, r, h, _⟩ := h; exact lt_of_block h
theorem RowIn.cell {w : World} {g : Nat} {e : TypeId} {xs : List Value} (h : RowIn w g e xs) (j : Nat) (hj : j < xs.length) : w.cell? ⟨g, j, none⟩ = some xs[j] := by
  obtain ⟨A, r, h, hA⟩ := h
  rw [cell_of_block h, ← Array.getElem?_toList, hA, List.getElem?_append_left hj, List.getElem?_eq_getElem hj]
theorem RowIn.f {w : World} {g : Nat} {e : TypeId} {xs : List Value} (h : RowIn w g e xs) (j : Nat) : w.frozen? ⟨g, j, none⟩ = false := by
  obtain ⟨A, r, h, hA⟩ := h
  exact frozen_of_block h j
theorem RowIn.set {w : World} {g : Nat} {e : TypeId} {xs : List Value} (h : RowIn w g e xs) (j : Nat) (hj : j < xs.length) (v : Value) : RowIn (w.setCell ⟨g, j, none⟩ v) g e (xs.set j v) := by
  obtain ⟨A, r, h, hA⟩ := h
  refine ⟨_, r, block_setCell h j v, ?_⟩
  rw [Array.toList_setIfInBounds, hA, List.set_append_left _ _ hj]
theorem RowIn.keep {w w' : World} {g : Nat} {e : TypeId} {xs : List Value} (h : RowIn w g e xs) (hb : w'.heap[g]? = w.heap[g]?) : RowIn w' g e xs := by
  obtain ⟨A, r, h, hA⟩ := h
  exact ⟨A, r, hb.trans h, hA⟩
theorem RowIn.step {w w' : World} {F : Nat → Prop} {g : Nat} {e : TypeId} {xs : List Value} (h : RowIn w g e xs) (hs : Step F w w') (hF : ¬ F g) : RowIn w' g e xs := h.keep (hs.block g h.lt hF)
theorem rowIn_owns {w : World} {e : TypeId} {v : Value} {n : Nat} {xs : List Value} (h : w.ownsRow 0 e 1 v n xs) (hn : 0 < n) : ∃ g c, v = .slice (some ⟨g, 0, none⟩) n c ∧ n ≤ c ∧ RowIn w g e xs ∧ v.ownBlock = some g := by
  rcases h.2 with ⟨_, h0⟩ | ⟨g, cap, cur, rfl, _, hh, hnc, _, _, ht⟩
  · omega
  · refine ⟨g, cap, rfl, hnc, ⟨cur, cur.toList.drop xs.length, hh, ?_⟩, rfl⟩
    have hl := h.1
    rw [Nat.mul_one] at hl
    conv => lhs; rw [← List.take_append_drop xs.length cur.toList]
    rw [hl] at *
    rw [← ht]
    simp

/-- The blocks of the device that bears o. -/
def Rng (R : Nat → Nat) (o : Nat) : Nat → Prop := fun k => o < R k ∧ R k ≤ o + 6

def FuseAt (w : World) (R : Nat → Nat) (o : Nat) (fp : Option Addr) : Option (Nat × List Bool) → Prop
  | none => fp = none
  | some (n, ks) => ∃ f a c, fp = some ⟨f, 0, none⟩ ∧ R f = o + 5 ∧ w.heap[f]? = some (.cells #[.int .i64 n, .slice a ks.length c] 74 (0, 0)) ∧ ks.length ≤ c ∧ RowAt w (fun k => R k ≠ o + 6) a (bools ks)

/-- All of a device but its head at block p: its blocks bear o + 1 to o + 6. -/
def Parts (w : World) (R : Nat → Nat) (o p bs cs bl : Nat) (lv : Value) (fp : Option Addr) (safe : List (List UInt8)) (loose : List (Nat × List UInt8)) (fuse : Option (Nat × List Bool)) : Prop :=
  R p = o + 1 ∧ R bs = o + 2 ∧ R bl = o + 3 ∧ (∀ k, lv.ownBlock = some k → R k = o + 4) ∧
    RowIn w bs 9 (strs safe) ∧ RowIn w bl 9 (strs (flushL safe loose)) ∧ w.ownsRow 0 69 2 lv loose.length (wcells loose) ∧ FuseAt w R o fp fuse ∧ safe.length ≤ cs
/-- The head of a device. -/
def Head (w : World) (p bs cs bl cl : Nat) (lv : Value) (fp : Option Addr) (n : Nat) (on : Bool) (r wr fl : Nat) : Prop :=
  w.heap[p]? = some (.cells #[.slice (some ⟨bs, 0, none⟩) n cs, .slice (some ⟨bl, 0, none⟩) n cl, lv, .bool on, .pointer fp, .int .i64 r, .int .i64 wr, .int .i64 fl] 67 (0, 0))
/-- The device d at block p. -/
def IsDev (w : World) (R : Nat → Nat) (o p : Nat) (d : Dv) : Prop :=
  ∃ bs cs bl cl lv fp, Head w p bs cs bl cl lv fp d.safe.length d.on d.reads d.writes d.flushes ∧ Parts w R o p bs cs bl lv fp d.safe d.loose d.fuse

/-- What holds of every device that was made. -/
structure Wf (d : Dv) : Prop where
  n1 : 1 ≤ d.safe.length
  n2 : d.safe.length ≤ 512
  s : ∀ x ∈ d.safe, x.length = 256
  l : ∀ x ∈ d.loose, x.1 < d.safe.length ∧ x.2.length = 256
  ll : d.loose.length ≤ 1000
  cr : d.reads ≤ 1000
  cw : d.writes ≤ 1000
  cf : d.flushes ≤ 1000
  fu : ∀ n ks, d.fuse = some (n, ks) → n ≤ 9223372036854775807 ∧ ks.length ≤ 1000

theorem owns_keep {w w' : World} {base : Nat} {e : TypeId} {size : Nat} {v : Value} {n : Nat} {xs : List Value} (h : w.ownsRow base e size v n xs) (hb : ∀ k, v.ownBlock = some k → w'.heap[k]? = w.heap[k]?) : w'.ownsRow base e size v n xs := by
  refine ⟨h.1, ?_⟩
  rcases h.2 with x | ⟨g, cap, cur, rfl, hg, hh, rest⟩
  · exact .inl x
  · exact .inr ⟨g, cap, cur, rfl, hg, (hb g rfl).trans hh, rest⟩
theorem rowAt_keep {w w' : World} {F G : Nat → Prop} {a : Option Addr} {cs : List Value} (h : RowAt w F a cs) (hb : ∀ k, k < w.heap.size → ¬ F k → w'.heap[k]? = w.heap[k]? ∧ ¬ G k) : RowAt w' G a cs := by
  rcases h with h | ⟨b, off, h1, hF, h3⟩
  · exact .inl h
  · by_cases h0 : cs = []
    · exact .inl h0
    · have hl : 0 < cs.length := List.length_pos_iff.2 h0
      have hbl : b < w.heap.size := World.block_lt_of_cell? w _ (h3 0 hl)
      obtain ⟨e1, e2⟩ := hb b hbl hF
      exact .inr ⟨b, off, h1, e2, fun j hj => (World.cell?_of_block (w := w) e1).trans (h3 j hj)⟩

theorem FuseAt.mono {w w' : World} {R R' : Nat → Nat} {o : Nat} {fp : Option Addr} {x : Option (Nat × List Bool)} (h : FuseAt w R o fp x) (hb : ∀ k, k < w.heap.size → o + 4 < R k → R k ≤ o + 6 → w'.heap[k]? = w.heap[k]?) (hR : ∀ k, k < w.heap.size → R' k = R k) : FuseAt w' R' o fp x := by
  match x with
  | none => exact h
  | some (n, ks) =>
    obtain ⟨f, a, c, h1, h2, h3, h4, h5⟩ := h
    refine ⟨f, a, c, h1, (hR f (lt_of_block h3)).trans h2, (hb f (lt_of_block h3) (by omega) (by omega)).trans h3, h4, rowAt_keep h5 (fun k hk hF => ?_)⟩
    have e : R k = o + 6 := Classical.not_not.1 hF
    exact ⟨hb k hk (by omega) (by omega), fun x => x ((hR k hk).trans e)⟩

theorem IsDev.lt {w : World} {R : Nat → Nat} {o p : Nat} {d : Dv} (h : IsDev w R o p d) : p < w.heap.size := by
  obtain ⟨bs, cs, bl, cl, lv, fp, h5, _⟩ := h
  exact lt_of_block h5
theorem IsDev.role {w : World} {R : Nat → Nat} {o p : Nat} {d : Dv} (h : IsDev w R o p d) : R p = o + 1 := by
  obtain ⟨bs, cs, bl, cl, lv, fp, h5, h, _⟩ := h
  exact h
theorem Parts.mono {w w' : World} {R R' : Nat → Nat} {o p bs cs bl : Nat} {lv : Value} {fp : Option Addr} {safe : List (List UInt8)} {loose : List (Nat × List UInt8)} {fuse : Option (Nat × List Bool)} {G : Nat → Prop} (h : Parts w R o p bs cs bl lv fp safe loose fuse) (hp : p < w.heap.size) (hs : Step G w w') (hG : ∀ k, o + 1 < R k → R k ≤ o + 6 → ¬ G k) (hR : ∀ k, k < w.heap.size → R' k = R k) : Parts w' R' o p bs cs bl lv fp safe loose fuse := by
  obtain ⟨h1, h2, h3, h4, h6, h7, h8, h9, h10⟩ := h
  have key : ∀ k, k < w.heap.size → o + 1 < R k → R k ≤ o + 6 → w'.heap[k]? = w.heap[k]? := fun k hk a b => hs.block k hk (hG k a b)
  have lo : ∀ k, lv.ownBlock = some k → k < w.heap.size := fun k hk => (h8.lt k hk).2
  exact ⟨(hR p hp).trans h1, (hR bs h6.lt).trans h2, (hR bl h7.lt).trans h3, fun k hk => (hR k (lo k hk)).trans (h4 k hk),
    h6.keep (key bs h6.lt (by omega) (by omega)), h7.keep (key bl h7.lt (by omega) (by omega)), owns_keep h8 (fun k hk => key k (lo k hk) (by have := h4 k hk; omega) (by have := h4 k hk; omega)), h9.mono (fun k hk a b => key k hk (by omega) b) hR, h10⟩
/-- The head alone has turned. -/
theorem Parts.head {w w' : World} {R : Nat → Nat} {o p bs cs bl : Nat} {lv : Value} {fp : Option Addr} {safe : List (List UInt8)} {loose : List (Nat × List UInt8)} {fuse : Option (Nat × List Bool)} (h : Parts w R o p bs cs bl lv fp safe loose fuse) (hp : p < w.heap.size) (hs : Step (oneF p) w w') : Parts w' R o p bs cs bl lv fp safe loose fuse :=
  h.mono hp hs (fun k a b e => by have := h.1; unfold oneF at e; subst e; omega) (fun _ _ => rfl)
theorem Parts.unfuse {w : World} {R : Nat → Nat} {o p bs cs bl : Nat} {lv : Value} {fp : Option Addr} {safe : List (List UInt8)} {loose : List (Nat × List UInt8)} {fuse : Option (Nat × List Bool)} (h : Parts w R o p bs cs bl lv fp safe loose fuse) : Parts w R o p bs cs bl lv none safe loose none := by
  obtain ⟨h1, h2, h3, h4, h6, h7, h8, h9, h10⟩ := h
  exact ⟨h1, h2, h3, h4, h6, h7, h8, rfl, h10⟩
theorem IsDev.mono {w w' : World} {R R' : Nat → Nat} {o p : Nat} {d : Dv} {G : Nat → Prop} (h : IsDev w R o p d) (hs : Step G w w') (hG : ∀ k, o < R k → R k ≤ o + 6 → ¬ G k) (hR : ∀ k, k < w.heap.size → R' k = R k) : IsDev w' R' o p d := by
  obtain ⟨bs, cs, bl, cl, lv, fp, h5, hP⟩ := h
  have hp := lt_of_block h5
  exact ⟨bs, cs, bl, cl, lv, fp, (hs.block p hp (hG p (by have := hP.1; omega) (by have := hP.1; omega))).trans h5, hP.mono hp hs (fun k a b => hG k (by omega) b) hR⟩
theorem IsDev.roles {w : World} {R R' : Nat → Nat} {o p : Nat} {d : Dv} (h : IsDev w R o p d) (hR : ∀ k, k < w.heap.size → R' k = R k) : IsDev w R' o p d := h.mono (Step.refl noF w) (fun _ _ _ x => x) hR
theorem IsDev.step {w w' : World} {R : Nat → Nat} {o p : Nat} {d : Dv} (h : IsDev w R o p d) (hs : Step noF w w') : IsDev w' R o p d := h.mono hs (fun _ _ _ x => x) (fun _ _ => rfl)
theorem IsDev.other {w w' : World} {R R' : Nat → Nat} {o o2 p : Nat} {d : Dv} (h : IsDev w R o p d) (hs : Step (Rng R o2) w w') (ho : o + 6 ≤ o2 ∨ o2 + 6 ≤ o) (hR : ∀ k, k < w.heap.size → R' k = R k) : IsDev w' R' o p d :=
  h.mono hs (fun k a b x => by unfold Rng at x; omega) hR
end Go.Proofs.Ythgcpeibjnflaaa
