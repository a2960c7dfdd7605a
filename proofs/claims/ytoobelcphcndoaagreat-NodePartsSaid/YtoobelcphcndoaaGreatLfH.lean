/-
  Within; half and Parts.
  Parts.
-/
import Derived.Test.YtoobelcphcndoaaGreatLfG
import Derived.BigRegion
namespace Go.Proofs.YtoobelcphcndoaaGreat
open Go.RowKit Go.Sort
set_option linter.unusedVariables false
set_option linter.unusedSimpArgs false
set_option maxRecDepth 20000

theorem within_take (r : Rg) (xs : List Rg) (j : Nat) (hj : j < xs.length) : withinL r (xs.take (j + 1)) = withinL r (xs.take j) ++ (if r.has xs[j].lo then [xs[j]] else []) := by
  unfold withinL
  rw [List.take_succ_eq_append_getElem hj, List.filter_append]
  congr 1
  by_cases h : r.has xs[j].lo = true
  · simp [h]
  · simp [h]
theorem within_len (r : Rg) (xs : List Rg) : (withinL r xs).length ≤ xs.length := List.length_filter_le _ _

theorem half_eq (xs : List Rg) (n : Nat) (hn : n ≤ xs.length) (h1 : ∀ m, m < n → 2 * wtL (xs.take m) < wtL xs) (h2 : wtL xs ≤ 2 * wtL (xs.take n)) : halfN xs = n := by
  rcases Nat.lt_trichotomy (halfN xs) n with h | h | h
  · have := h1 _ h
    have := half_ge xs
    omega
  · exact h
  · have := half_lt xs n h
    omega
set_option maxHeartbeats 1000000 in
theorem half_any (p : Nat) (xs : List Rg) (hS : Small xs) (w : World) (h : LeafAt w p xs) : Calls Tryz.prog 69 #[.pointer (some ⟨p, 0, none⟩)] w fun e w' => e = .returned (.int .i64 (halfN xs)) ∧ Step noF w w' := by
  have cW := weight_anyL p xs hS w h
  have HL := hid h
  have hl := hS.1
  have HS := hid hS
  have hwt : wtL xs ≤ 2000002000000 := by
    have := wtL_small xs hS.2
    omega
  obtain ⟨W, hW⟩ : ∃ W, wtL xs = W := ⟨_, rfl⟩
  rw [hW] at cW hwt
  have HW := hid hW
  clear h hS hW
  go_enter Tryz.func69, Tryz.ntmps69
  go_wp2_with fail
  refine cW.mono ?_
  rintro e w2 ⟨rfl, s2⟩
  have S2 := hid s2
  clear s2
  go_wp2_with fail
  go_loopg [3, 4, 5, 6] xs.length (fun kx s3 s4 s5 s6 wr => ∃ (n x y : Nat), s3 = .int .i64 n ∧ s4 = .int .i64 x ∧ s5 = .int .i64 y ∧ n ≤ xs.length ∧ x + y ≤ 2000002000000 ∧ xs.length - n ≤ kx ∧ Hid (x + y = W ∧ x = wtL (xs.take n) ∧ ∀ m, m < n → 2 * wtL (xs.take m) < W) ∧ Hid (Step noF w wr))
  case atStart =>
    refine ⟨0, 0, W, rfl, rfl, rfl, by omega, by omega, by omega, ?_, S2⟩
    exact ⟨by omega, by simp [wtL], fun m hm => absurd hm (by omega)⟩
  case round =>
    obtain ⟨n, x, y, rfl, rfl, rfl, hn, hxy, hkx, HI, ST⟩ := hrel
    by_cases hlt : x < y
    · have hltz : (x : Int) < (y : Int) := by omega
      have hnl : n < xs.length := by
        rcases Nat.lt_or_ge n xs.length with h | h
        · exact h
        · obtain ⟨i1, i2, _⟩ := HI.out
          rw [List.take_of_length_le h, HW.out] at i2
          omega
      obtain ⟨a, c, k1, _, _, r1⟩ := (HL.out.step ST.out).cell
      obtain ⟨g, off, rfl, c0, c1⟩ := r1.at n hnl
      have hx := HS.out.2 xs[n] (List.getElem_mem hnl)
      have HT := hid (wtL_take xs n hnl)
      have HD : Hid (wtL (xs.take (n + 1)) ≤ W) := by
        show _ ≤ _
        rw [← HW.out]
        conv => rhs; rw [← List.take_append_drop (n + 1) xs, wtL_append]
        omega
      have cI := weightIt_any xs[n] (by omega)
      obtain ⟨⟨u, v⟩, hm⟩ : ∃ m, xs[n] = m := ⟨_, rfl⟩
      rw [hm] at c0 c1 HT cI
      obtain ⟨q, hq⟩ : ∃ q, itW ⟨u, v⟩ = q := ⟨_, rfl⟩
      rw [hq] at cI HT
      have hqy : q ≤ y := by
        obtain ⟨i1, i2, _⟩ := HI.out
        have a1 := HT.out
        have a2 := HD.out
        omega
      obtain ⟨y', hy'⟩ : ∃ y', y - q = y' := ⟨_, rfl⟩
      have ey : (y : Int) - (q : Int) = (y' : Int) := by omega
      have HY := hid hy'
      have ry : IntKind.i64.wrap (y' : Int) = (y' : Int) := by rw [IntKind.wrap_i64]; omega
      have hnz : (n : Int) < (xs.length : Int) := by omega
      clear hm hx hq r1 hy'
      go_wp2_with fail
      refine (cI _).mono ?_
      rintro e w3 ⟨rfl, s3⟩
      have S3 : Hid (Step noF w w3) := ST.out.trans s3
      clear s3
      go_wp2_with fail
      go_roundg (xs.length - (n + 1))
      case measure => omega
      case rel =>
        refine ⟨n + 1, x + q, y', by simp, by simp, rfl, by omega, by have := HY.out; omega, Nat.le_refl _, ?_, S3⟩
        obtain ⟨i1, i2, i3⟩ := HI.out
        refine ⟨by have := HY.out; omega, by rw [HT.out, i2], fun m hm => ?_⟩
        rcases Nat.lt_or_eq_of_le (Nat.le_of_lt_succ hm) with h | h
        · exact i3 m h
        · rw [h, ← i2]
          omega
    · have hltz : ¬ (x : Int) < (y : Int) := by omega
      go_wp2_with fail
      go_ret
      obtain ⟨i1, i2, i3⟩ := HI.out
      refine ⟨ret_int ?_, ST.out⟩
      rw [half_eq xs n hn (fun m hm => by rw [HW.out]; exact i3 m hm) (by rw [HW.out, ← i2]; omega)]
end Go.Proofs.YtoobelcphcndoaaGreat
namespace Go.Proofs.YtoobelcphcndoaaGreat
open Go.RowKit Go.Sort
set_option linter.unusedVariables false
set_option linter.unusedSimpArgs false
set_option maxRecDepth 20000

def ptrs (qs : List Nat) : List Value := qs.map (fun q => Value.pointer (some ⟨q, 0, none⟩))
/-- A leaf whose items lie in block g. -/
def LeafIn (w : World) (g p : Nat) (xs : List Rg) : Prop := ∃ off c, w.heap[p]? = some (.cells #[.slice (some ⟨g, off, none⟩) xs.length c] 120 (0, 0)) ∧ xs.length ≤ c ∧ g < w.heap.size ∧ ∀ j (h : j < xs.length), w.cell? ⟨g, off + j * 2, none⟩ = some (.string (str xs[j].lo)) ∧ w.cell? ⟨g, off + j * 2 + 1, none⟩ = some (.string (str xs[j].hi))
theorem LeafIn.at {w : World} {g p : Nat} {xs : List Rg} (h : LeafIn w g p xs) : LeafAt w p xs := by
  obtain ⟨off, c, h1, h2, h3, h4⟩ := h
  exact ⟨_, c, h1, h2, ⟨(fun e => by cases e), fun ad e => ⟨g, off, (Option.some.inj e).symm, h3⟩⟩, .inr ⟨g, off, rfl, h3, h4⟩⟩
theorem LeafAt.in {w : World} {p : Nat} {xs : List Rg} (h : LeafAt w p xs) (hx : xs ≠ []) : ∃ g, LeafIn w g p xs := by
  obtain ⟨a, c, h1, h2, h3, h4⟩ := h
  rcases h4 with h4 | ⟨g, off, rfl, h5, h6⟩
  · exact absurd h4 hx
  · exact ⟨g, off, c, h1, h2, h5, h6⟩
theorem LeafIn.keep {w w' : World} {F : Nat → Prop} {g p : Nat} {xs : List Rg} (h : LeafIn w g p xs) (hs : Step F w w') (hp : ¬ F p) (hg : ¬ F g) : LeafIn w' g p xs := by
  obtain ⟨off, c, h1, h2, h3, h4⟩ := h
  refine ⟨off, c, (hs.block p (lt_of_block h1) hp).trans h1, h2, Nat.lt_of_lt_of_le h3 hs.size, fun j hj => ?_⟩
  obtain ⟨a1, a2⟩ := h4 j hj
  exact ⟨(hs.cell (p := ⟨g, _, none⟩) hg h3).trans a1, (hs.cell (p := ⟨g, _, none⟩) hg h3).trans a2⟩
theorem LeafIn.step {w w' : World} {g p : Nat} {xs : List Rg} (h : LeafIn w g p xs) (hs : Step noF w w') : LeafIn w' g p xs := h.keep hs (fun x => x) (fun x => x)
theorem LeafIn.lt {w : World} {g p : Nat} {xs : List Rg} (h : LeafIn w g p xs) : p < w.heap.size ∧ g < w.heap.size := by
  obtain ⟨off, c, h1, h2, h3, h4⟩ := h
  exact ⟨lt_of_block h1, h3⟩
/-- A part of a leaf's items, as a leaf. -/
theorem leafIn_part {w w' : World} {g off c p n : Nat} {xs : List Rg} (hs : Step noF w w') (hg : g < w.heap.size) (h : ∀ j (h : j < xs.length), w.cell? ⟨g, off + j * 2, none⟩ = some (.string (str xs[j].lo)) ∧ w.cell? ⟨g, off + j * 2 + 1, none⟩ = some (.string (str xs[j].hi))) (hc : xs.length ≤ c) (hn : n ≤ xs.length) :
    (w'.heap[p]? = some (.cells #[.slice (some ⟨g, off, none⟩) n c] 120 (0, 0)) → LeafIn w' g p (xs.take n)) ∧ (w'.heap[p]? = some (.cells #[.slice (some ⟨g, off + n * 2, none⟩) (xs.length - n) (c - n)] 120 (0, 0)) → LeafIn w' g p (xs.drop n)) := by
  have hc2 : ∀ j (h : j < xs.length), w'.cell? ⟨g, off + j * 2, none⟩ = some (.string (str xs[j].lo)) ∧ w'.cell? ⟨g, off + j * 2 + 1, none⟩ = some (.string (str xs[j].hi)) := fun j hj => ⟨hs.after (h j hj).1, hs.after (h j hj).2⟩
  constructor
  · intro hp
    have e : (xs.take n).length = n := by simp; omega
    refine ⟨off, c, by rw [e]; exact hp, by omega, Nat.lt_of_lt_of_le hg hs.size, fun j hj => ?_⟩
    rw [List.getElem_take]
    exact hc2 j (by omega)
  · intro hp
    have e : (xs.drop n).length = xs.length - n := by simp
    refine ⟨off + n * 2, c - n, by rw [e]; exact hp, by omega, Nat.lt_of_lt_of_le hg hs.size, fun j hj => ?_⟩
    rw [List.getElem_drop]
    have := hc2 (n + j) (by omega)
    rw [show off + (n + j) * 2 = off + n * 2 + j * 2 by omega] at this
    exact this
/-- Leaves, one by one, their items in block g. -/
def LeavesIn (w : World) (g : Nat) (qs : List Nat) (ps : List (List Rg)) : Prop := qs.length = ps.length ∧ ∀ i (h : i < qs.length) (h2 : i < ps.length), LeafIn w g qs[i] ps[i]
theorem LeavesIn.append {w : World} {g : Nat} {qs rs : List Nat} {ps us : List (List Rg)} (h : LeavesIn w g qs ps) (k : LeavesIn w g rs us) : LeavesIn w g (qs ++ rs) (ps ++ us) := by
  refine ⟨by simp [h.1, k.1], fun i h1 h2 => ?_⟩
  have hl := h.1
  by_cases hi : i < qs.length
  · rw [List.getElem_append_left hi, List.getElem_append_left (by omega)]
    exact h.2 i hi (by omega)
  · rw [List.getElem_append_right (by omega), List.getElem_append_right (by omega)]
    have := k.2 (i - qs.length) (by simp at h1; omega) (by simp at h2; omega)
    simpa [hl] using this
theorem LeavesIn.keep {w w' : World} {g : Nat} {F : Nat → Prop} {qs : List Nat} {ps : List (List Rg)} (h : LeavesIn w g qs ps) (hs : Step F w w') (hq : ∀ q ∈ qs, ¬ F q) (hg : ¬ F g) : LeavesIn w' g qs ps := ⟨h.1, fun i h1 h2 => (h.2 i h1 h2).keep hs (hq _ (List.getElem_mem h1)) hg⟩
theorem LeavesIn.lt {w : World} {g : Nat} {qs : List Nat} {ps : List (List Rg)} (h : LeavesIn w g qs ps) : ∀ q ∈ qs, q < w.heap.size := fun q hq => by
  obtain ⟨i, hi, rfl⟩ := List.getElem_of_mem hq
  exact (h.2 i hi (by have := h.1; omega)).lt.1
/-- Leaves, one by one. -/
def Leaves (w : World) (qs : List Nat) (ps : List (List Rg)) : Prop := qs.length = ps.length ∧ ∀ i (h : i < qs.length) (h2 : i < ps.length), LeafAt w qs[i] ps[i]
theorem Leaves.step {w w' : World} {qs : List Nat} {ps : List (List Rg)} (h : Leaves w qs ps) (hs : Step noF w w') : Leaves w' qs ps := ⟨h.1, fun i h1 h2 => (h.2 i h1 h2).step hs⟩
theorem Leaves.append {w : World} {qs rs : List Nat} {ps us : List (List Rg)} (h : Leaves w qs ps) (k : Leaves w rs us) : Leaves w (qs ++ rs) (ps ++ us) := by
  refine ⟨by simp [h.1, k.1], fun i h1 h2 => ?_⟩
  have hl := h.1
  by_cases hi : i < qs.length
  · rw [List.getElem_append_left hi, List.getElem_append_left (by omega)]
    exact h.2 i hi (by omega)
  · rw [List.getElem_append_right (by omega), List.getElem_append_right (by omega)]
    have := k.2 (i - qs.length) (by simp at h1; omega) (by simp at h2; omega)
    simpa [hl] using this
theorem ptrs_one (qs : List Nat) : ∀ u ∈ ptrs qs, u.oneCell' = true := by
  intro u hu
  simp only [ptrs, List.mem_map] at hu
  obtain ⟨x, _, rfl⟩ := hu
  rfl
/-- No more parts than items. -/
theorem parts_count (xs : List Rg) (hx : xs ≠ []) (hok : ∀ x ∈ xs, itOk x = true) : (partsIt xs).length ≤ xs.length := by
  obtain ⟨a1, a2, a3, a4⟩ := parts_good xs.length xs (Nat.le_refl _) hok
  have h : ∀ p ∈ partsIt xs, 1 ≤ p.length := fun p hp => List.length_pos_iff.2 ((a2 p hp).2 hx)
  have key : ∀ ps : List (List Rg), (∀ p ∈ ps, 1 ≤ p.length) → ps.length ≤ ps.flatten.length := by
    intro ps
    induction ps with
    | nil => intro _; simp
    | cons p ps ih =>
      intro hp
      have h1 := hp p (by simp)
      have h2 := ih (fun q hq => hp q (by simp [hq]))
      rw [List.flatten_cons, List.length_append, List.length_cons]
      omega
  have := key _ h
  rw [a1] at this
  exact this
theorem infoPt0 : (Tryz.prog.info? 43).map (fun i => (i.zero, i.size, i.bytes)) = some (some (.pointer none), 1, 8) := by kernel_rfl
/-- What Parts answers, the items lying in block g. -/
def PartsIn (w : World) (g p : Nat) (ps : List (List Rg)) (e : Ending) (w' : World) : Prop := ∃ v qs, e = .returned v ∧ w'.ownsRow w.heap.size 43 1 v qs.length (ptrs qs) ∧ LeavesIn w' g qs ps ∧ (∀ q ∈ qs, (q = p ∨ w.heap.size ≤ q) ∧ v.ownBlock ≠ some q) ∧ Step noF w w'
/-- What Parts answers. -/
def PartsPost (w : World) (ps : List (List Rg)) (e : Ending) (w' : World) : Prop := ∃ v qs, e = .returned v ∧ w'.ownsRow w.heap.size 43 1 v qs.length (ptrs qs) ∧ Leaves w' qs ps ∧ Step noF w w'
theorem parts_nil (w : World) : Calls Tryz.prog 26 #[.pointer none] w fun e w' => e = .returned (.slice none 0 0) ∧ w = w' := by
  go_enter Tryz.func26, Tryz.ntmps26
  go_wp2
  go_ret
  exact ⟨rfl, rfl⟩
set_option maxHeartbeats 1000000 in
theorem parts_small (p : Nat) (xs : List Rg) (hS : Small xs) (hw : wtL xs ≤ 240) (w : World) (h : LeafAt w p xs) : Calls Tryz.prog 26 #[.pointer (some ⟨p, 0, none⟩)] w fun e w' => ∃ v, e = .returned v ∧ w'.ownsRow w.heap.size 43 1 v 1 (ptrs [p]) ∧ v.ownBlock ≠ some p ∧ Step noF w w' := by
  have cW := weight_anyL p xs hS w h
  have HL := hid h
  obtain ⟨W, hW⟩ : ∃ W, wtL xs = W := ⟨_, rfl⟩
  rw [hW] at cW hw
  have hz : (W : Int) ≤ 240 := by omega
  clear h hS hW
  go_enter Tryz.func26, Tryz.ntmps26
  go_wp2_with fail
  refine cW.mono ?_
  rintro e w2 ⟨rfl, s2⟩
  have S2 := hid s2
  clear s2
  go_wp2_with fail
  go_ret
  refine ⟨.slice (some ⟨w2.heap.size, 0, none⟩) 1 1, rfl, ?_, ?_, S2.out.alloc _⟩
  · exact owns_of_block (cur := #[.pointer (some ⟨p, 0, none⟩)]) S2.out.size (block_alloc_new _ _) (Nat.le_refl _) (by unfold maxLen; decide) rfl rfl rfl
  · intro e
    have h1 := HL.out.lt
    have h2 := S2.out.size
    simp [Value.ownBlock] at e
    omega
theorem owns_up {w : World} {base : Nat} {e : TypeId} {size : Nat} {v : Value} {n : Nat} {xs : List Value} (h : w.ownsRow 0 e size v n xs) (hb : ∀ k, v.ownBlock = some k → base ≤ k) : w.ownsRow base e size v n xs := by
  refine ⟨h.1, ?_⟩
  rcases h.2 with h | ⟨g, cap, cur, rfl, _, h2⟩
  · exact .inl h
  · exact .inr ⟨g, cap, cur, rfl, hb g rfl, h2⟩
set_option maxHeartbeats 2000000 in
theorem parts_rec (p g : Nat) (xs : List Rg) (hS : Small xs) (hok : ∀ x ∈ xs, itOk x = true) (hw : 240 < wtL xs) (w : World) (h : LeafIn w g p xs)
    (ih : ∀ q ys (w2 : World), ys.length < xs.length → ys ≠ [] → Small ys → (∀ x ∈ ys, itOk x = true) → LeafIn w2 g q ys → Calls Tryz.prog 26 #[.pointer (some ⟨q, 0, none⟩)] w2 fun e w' => PartsIn w2 g q (partsIt ys) e w') :
    Calls Tryz.prog 26 #[.pointer (some ⟨p, 0, none⟩)] w fun e w' => PartsIn w g p (partsIt xs) e w' := by
  have mixed : Tryz.prog.follows .mixedOrders = true := by kernel_rfl
  obtain ⟨i0, hi, hz0, hz1, hz2⟩ := info_threeL infoPt0
  have cW := weight_anyL p xs hS w h.at
  have cH := fun w2 (hs : Step noF w w2) => half_any p xs hS w2 (h.at.step hs)
  have h1 := half_pos xs hw
  have h2 := half_small xs hok hw
  have HP := hid (parts_heavy xs hok hw)
  have HL := hid h
  have HOK := hid hok
  have HS := hid hS
  have IH := hid ih
  have hl := hS.1
  have hgl := h.lt.2
  obtain ⟨W, hW⟩ : ∃ W, wtL xs = W := ⟨_, rfl⟩
  rw [hW] at cW hw
  have hz : ¬ (W : Int) ≤ 240 := by omega
  obtain ⟨n, hn⟩ : ∃ n, halfN xs = n := ⟨_, rfl⟩
  rw [hn] at cH HP h1 h2
  clear h hS hW hok ih hn
  go_enter Tryz.func26, Tryz.ntmps26
  go_wp2_with fail
  refine cW.mono ?_
  rintro e w2 ⟨rfl, s2⟩
  have S2 := hid s2
  clear s2
  go_wp2_with fail
  refine (cH w2 S2.out).mono ?_
  rintro e w3 ⟨rfl, s3⟩
  have S3 := hid (S2.out.trans s3)
  clear s3
  obtain ⟨off, c, k0, kc, kg, r1⟩ := HL.out.step S3.out
  have R1 := hid r1
  have k1 : w3.cell? ⟨p, 0, none⟩ = some (.slice (some ⟨g, off, none⟩) xs.length c) := by rw [cell_of_block k0]; rfl
  have n0 : (0 : Int) ≤ (n : Int) := by omega
  have n1 : (n : Int) ≤ (c : Int) := by omega
  have n2 : (n : Int) ≤ (xs.length : Int) := by omega
  clear r1 k0
  go_wp2_with fail
  have k2 : w3.drew.cell? ⟨p, 0, none⟩ = some (.slice (some ⟨g, off, none⟩) xs.length c) := k1
  have k3 : ∀ o, (w3.alloc o).cell? ⟨p, 0, none⟩ = some (.slice (some ⟨g, off, none⟩) xs.length c) := fun o => cell_alloc k1 o
  have k4 : ∀ o, (w3.alloc o).drew.cell? ⟨p, 0, none⟩ = some (.slice (some ⟨g, off, none⟩) xs.length c) := fun o => cell_alloc k1 o
  have k5 : ∀ o, (w3.drew.alloc o).cell? ⟨p, 0, none⟩ = some (.slice (some ⟨g, off, none⟩) xs.length c) := fun o => cell_alloc (w := w3.drew) k1 o
  have cl := fun (A B : Nat) (o1 o2 : Obj) (hA : ((w3.alloc o1).alloc o2).drew.heap[A]? = some (.cells #[.slice (some ⟨g, off, none⟩) n c] 120 (0, 0))) (hB : ((w3.alloc o1).alloc o2).drew.heap[B]? = some (.cells #[.slice (some ⟨g, off + n * 2, none⟩) (xs.length - n) (c - n)] 120 (0, 0))) =>
    And.intro ((leafIn_part ((((Step.refl noF w3).alloc o1).alloc o2).drew) kg R1.out kc (Nat.le_of_lt h2)).1 hA) ((leafIn_part ((((Step.refl noF w3).alloc o1).alloc o2).drew) kg R1.out kc (Nat.le_of_lt h2)).2 hB)
  have CL := hid cl
  clear cl
  go_big_region_o
  all_goals clear k1 k2 k3 k4 k5
  · obtain ⟨LA, LB⟩ := CL.out w3.heap.size (w3.heap.size + 1) (.cells #[.slice (some ⟨g, off, none⟩) n c] 120) (.cells #[.slice (some ⟨g, off + n * 2, none⟩) (xs.length - n) (c - n)] 120) (block_alloc_old (block_alloc_new w3 _) _) (by have := block_alloc_new (w3.alloc (.cells #[.slice (some ⟨g, off, none⟩) n c] 120)) (.cells #[.slice (some ⟨g, off + n * 2, none⟩) (xs.length - n) (c - n)] 120); rwa [World.size_alloc] at this)
    have S4 : Step noF w ((w3.alloc (.cells #[.slice (some ⟨g, off, none⟩) n c] 120)).alloc (.cells #[.slice (some ⟨g, off + n * 2, none⟩) (xs.length - n) (c - n)] 120)).drew := ((S3.out.alloc _).alloc _).drew
    have ZA : w3.heap.size < ((w3.alloc (.cells #[.slice (some ⟨g, off, none⟩) n c] 120)).alloc (.cells #[.slice (some ⟨g, off + n * 2, none⟩) (xs.length - n) (c - n)] 120)).drew.heap.size ∧ w.heap.size ≤ w3.heap.size := ⟨LA.lt.1, by have := S3.out.size; omega⟩
    have ZB : (w3.heap.size + 1) < ((w3.alloc (.cells #[.slice (some ⟨g, off, none⟩) n c] 120)).alloc (.cells #[.slice (some ⟨g, off + n * 2, none⟩) (xs.length - n) (c - n)] 120)).drew.heap.size ∧ w.heap.size ≤ (w3.heap.size + 1) := ⟨LB.lt.1, by have := S3.out.size; omega⟩
    generalize ((w3.alloc (.cells #[.slice (some ⟨g, off, none⟩) n c] 120)).alloc (.cells #[.slice (some ⟨g, off + n * 2, none⟩) (xs.length - n) (c - n)] 120)).drew = w4 at LA LB S4 ZA ZB ⊢
    obtain ⟨A, eA⟩ : ∃ A, w3.heap.size = A := ⟨_, rfl⟩
    obtain ⟨B, eB⟩ : ∃ B, (w3.heap.size + 1) = B := ⟨_, rfl⟩
    simp only [eB] at LA LB ZA ZB ⊢
    simp only [eA] at LA LB ZA ZB ⊢
    have LAH := hid LA
    have LBH := hid LB
    have S4H := hid S4
    have ZAH := hid ZA
    have ZBH := hid ZB
    clear LA LB S4 CL eA eB ZA ZB
    have tL : Hid ((xs.take n).length < xs.length ∧ xs.take n ≠ [] ∧ Small (xs.take n) ∧ ∀ x ∈ xs.take n, itOk x = true) := by
      have hlen : (xs.take n).length = n := by simp; omega
      exact ⟨by omega, fun e => by rw [e] at hlen; simp at hlen; omega, ⟨by omega, fun x hx => HS.out.2 x (List.mem_of_mem_take hx)⟩, fun x hx => HOK.out x (List.mem_of_mem_take hx)⟩
    have dL : Hid ((xs.drop n).length < xs.length ∧ xs.drop n ≠ [] ∧ Small (xs.drop n) ∧ ∀ x ∈ xs.drop n, itOk x = true) := by
      have hlen : (xs.drop n).length = xs.length - n := by simp
      exact ⟨by omega, fun e => by rw [e] at hlen; simp at hlen; omega, ⟨by omega, fun x hx => HS.out.2 x (List.mem_of_mem_drop hx)⟩, fun x hx => HOK.out x (List.mem_of_mem_drop hx)⟩
    have NE : Hid (1 ≤ (partsIt (xs.drop n)).length ∧ (partsIt (xs.take n)).length ≤ 1000000 ∧ (partsIt (xs.drop n)).length ≤ 1000000) := ⟨List.length_pos_iff.2 (parts_good _ _ (Nat.le_refl _) dL.out.2.2.2).2.2.1, by have := parts_count (xs.take n) tL.out.2.1 tL.out.2.2.2; have := tL.out.1; omega, by have := parts_count (xs.drop n) dL.out.2.1 dL.out.2.2.2; have := dL.out.1; omega⟩
    go_wp2_with fail
    refine (IH.out A (xs.take n) w4 tL.out.1 tL.out.2.1 tL.out.2.2.1 tL.out.2.2.2 LAH.out).mono ?_
    rintro e w5 ⟨v1, q1, rfl, o5, l5, z5, s5⟩
    have O5 := hid o5
    have L5 := hid l5
    have Z5 := hid z5
    have S5 := hid s5
    clear o5 l5 z5 s5
    go_wp2_with fail
    refine (IH.out B (xs.drop n) w5 dL.out.1 dL.out.2.1 dL.out.2.2.1 dL.out.2.2.2 (LBH.out.step S5.out)).mono ?_
    rintro e w6 ⟨v2, q2, rfl, o6, l6, z6, s6⟩
    have L6 := hid l6
    have Z6 := hid z6
    have S6 := hid s6
    have hq2 : q2.length = (partsIt (xs.drop n)).length := l6.1
    have hq1 : Hid (q1.length = (partsIt (xs.take n)).length) := L5.out.1
    have HQ2 := hid hq2
    rcases o6.2 with ⟨_, h0⟩ | ⟨g2, cap2, cur2, hv2, b2, hg2, m2, m3, m4, m5⟩
    · exact absurd h0 (by have := NE.out.1; omega)
    subst hv2
    have hnews := o6.cells (g := g2) rfl
    have HN := hid hnews
    have H56 : Hid (w6.ownsRow 0 43 1 v1 q1.length (ptrs q1)) := owns_base (owns_step O5.out S6.out (fun _ _ h => h)) (Nat.zero_le _)
    have hmax : Hid (q1.length + q2.length ≤ maxLen ∧ (q1.length + q2.length) * 8 ≤ 140737488355328) := by
      have a1 := NE.out
      have a2 := hq1.out
      have a3 := HQ2.out
      exact ⟨le_max (by omega), by omega⟩
    clear l6 z6 s6 o6 hq2 hg2 b2 m2 m3 m4 m5 hnews
    go_wp2_with (at_builtin; refine wpList_append_fresh rfl _ _ 56 rfl 43 i0 (.pointer none) 1 8 Tryz.underlying56 hi hz0 hz1 hz2 rfl (by decide) v1 _ _ rfl H56.out ⟨g2, 0, none⟩ q2.length cap2 (ptrs q2) rfl (by simp [ptrs]) HN.out (ptrs_one q2) hmax.out.1 hmax.out.2 ?_)
    intro v' w7 o7 g7 f7
    have O7 := hid o7
    have G7 := hid g7
    have F7 := hid f7
    clear o7 g7 f7
    go_wp2_with fail
    go_ret
    have e4 := S4H.out.size
    have e5 := S5.out.size
    have e6 := S6.out.size
    have b1 : ∀ k, v1.ownBlock = some k → w4.heap.size ≤ k ∧ k < w5.heap.size := fun k hk => O5.out.lt k hk
    have st7 : Step (fun k => v1.ownBlock = some k) w6 w7 := ⟨G7.out.os, G7.out.tape, G7.out.output, G7.out.size, fun k hk hne => G7.out.block k hk (fun e => hne e.symm)⟩
    have k1 : LeavesIn w7 g q1 (partsIt (xs.take n)) := (L5.out.keep S6.out (fun _ _ h => h) (fun h => h)).keep st7 (fun q hq => (Z5.out q hq).2) (fun e => by have := b1 g e; omega)
    have k2 : LeavesIn w7 g q2 (partsIt (xs.drop n)) := L6.out.keep st7 (fun q hq e => by
      have h1 := b1 q e
      have h2 := ZBH.out
      rcases (Z6.out q hq).1 with h | h
      · omega
      · omega) (fun e => by have := b1 g e; omega)
    refine ⟨v', q1 ++ q2, rfl, ?_, ?_, ?_, ?_⟩
    · refine owns_up (by rw [List.length_append]; unfold ptrs; rw [List.map_append]; exact O7.out) (fun k hk => ?_)
      rcases F7.out with f | f
      · rw [f] at hk
        have := b1 k hk
        omega
      · have := f k hk
        omega
    · rw [HP.out]
      exact k1.append k2
    · intro q hq
      have h1 := ZAH.out
      have h2 := ZBH.out
      have hlt : q < w6.heap.size := by
        rcases List.mem_append.1 hq with hq | hq
        · have := L5.out.lt q hq
          omega
        · exact L6.out.lt q hq
      refine ⟨.inr ?_, fun e => ?_⟩
      · rcases List.mem_append.1 hq with hq | hq
        · rcases (Z5.out q hq).1 with h | h
          · omega
          · omega
        · rcases (Z6.out q hq).1 with h | h
          · omega
          · omega
      · rcases F7.out with f | f
        · rw [f] at e
          rcases List.mem_append.1 hq with hq | hq
          · exact (Z5.out q hq).2 e
          · have h3 := b1 q e
            rcases (Z6.out q hq).1 with h | h
            · omega
            · omega
        · have := f q e
          omega
    · exact (S4H.out.trans (S5.out.trans S6.out)).then st7 (fun k hk => .inr (by have := b1 k hk; omega))
  · obtain ⟨LA, LB⟩ := CL.out (w3.heap.size + 1) w3.heap.size (.cells #[.slice (some ⟨g, off + n * 2, none⟩) (xs.length - n) (c - n)] 120) (.cells #[.slice (some ⟨g, off, none⟩) n c] 120) (by have := block_alloc_new (w3.alloc (.cells #[.slice (some ⟨g, off + n * 2, none⟩) (xs.length - n) (c - n)] 120)) (.cells #[.slice (some ⟨g, off, none⟩) n c] 120); rwa [World.size_alloc] at this) (block_alloc_old (block_alloc_new w3 _) _)
    have S4 : Step noF w ((w3.alloc (.cells #[.slice (some ⟨g, off + n * 2, none⟩) (xs.length - n) (c - n)] 120)).alloc (.cells #[.slice (some ⟨g, off, none⟩) n c] 120)).drew := ((S3.out.alloc _).alloc _).drew
    have ZA : (w3.heap.size + 1) < ((w3.alloc (.cells #[.slice (some ⟨g, off + n * 2, none⟩) (xs.length - n) (c - n)] 120)).alloc (.cells #[.slice (some ⟨g, off, none⟩) n c] 120)).drew.heap.size ∧ w.heap.size ≤ (w3.heap.size + 1) := ⟨LA.lt.1, by have := S3.out.size; omega⟩
    have ZB : w3.heap.size < ((w3.alloc (.cells #[.slice (some ⟨g, off + n * 2, none⟩) (xs.length - n) (c - n)] 120)).alloc (.cells #[.slice (some ⟨g, off, none⟩) n c] 120)).drew.heap.size ∧ w.heap.size ≤ w3.heap.size := ⟨LB.lt.1, by have := S3.out.size; omega⟩
    generalize ((w3.alloc (.cells #[.slice (some ⟨g, off + n * 2, none⟩) (xs.length - n) (c - n)] 120)).alloc (.cells #[.slice (some ⟨g, off, none⟩) n c] 120)).drew = w4 at LA LB S4 ZA ZB ⊢
    obtain ⟨A, eA⟩ : ∃ A, (w3.heap.size + 1) = A := ⟨_, rfl⟩
    obtain ⟨B, eB⟩ : ∃ B, w3.heap.size = B := ⟨_, rfl⟩
    simp only [eA] at LA LB ZA ZB ⊢
    simp only [eB] at LA LB ZA ZB ⊢
    have LAH := hid LA
    have LBH := hid LB
    have S4H := hid S4
    have ZAH := hid ZA
    have ZBH := hid ZB
    clear LA LB S4 CL eA eB ZA ZB
    have tL : Hid ((xs.take n).length < xs.length ∧ xs.take n ≠ [] ∧ Small (xs.take n) ∧ ∀ x ∈ xs.take n, itOk x = true) := by
      have hlen : (xs.take n).length = n := by simp; omega
      exact ⟨by omega, fun e => by rw [e] at hlen; simp at hlen; omega, ⟨by omega, fun x hx => HS.out.2 x (List.mem_of_mem_take hx)⟩, fun x hx => HOK.out x (List.mem_of_mem_take hx)⟩
    have dL : Hid ((xs.drop n).length < xs.length ∧ xs.drop n ≠ [] ∧ Small (xs.drop n) ∧ ∀ x ∈ xs.drop n, itOk x = true) := by
      have hlen : (xs.drop n).length = xs.length - n := by simp
      exact ⟨by omega, fun e => by rw [e] at hlen; simp at hlen; omega, ⟨by omega, fun x hx => HS.out.2 x (List.mem_of_mem_drop hx)⟩, fun x hx => HOK.out x (List.mem_of_mem_drop hx)⟩
    have NE : Hid (1 ≤ (partsIt (xs.drop n)).length ∧ (partsIt (xs.take n)).length ≤ 1000000 ∧ (partsIt (xs.drop n)).length ≤ 1000000) := ⟨List.length_pos_iff.2 (parts_good _ _ (Nat.le_refl _) dL.out.2.2.2).2.2.1, by have := parts_count (xs.take n) tL.out.2.1 tL.out.2.2.2; have := tL.out.1; omega, by have := parts_count (xs.drop n) dL.out.2.1 dL.out.2.2.2; have := dL.out.1; omega⟩
    go_wp2_with fail
    refine (IH.out A (xs.take n) w4 tL.out.1 tL.out.2.1 tL.out.2.2.1 tL.out.2.2.2 LAH.out).mono ?_
    rintro e w5 ⟨v1, q1, rfl, o5, l5, z5, s5⟩
    have O5 := hid o5
    have L5 := hid l5
    have Z5 := hid z5
    have S5 := hid s5
    clear o5 l5 z5 s5
    go_wp2_with fail
    refine (IH.out B (xs.drop n) w5 dL.out.1 dL.out.2.1 dL.out.2.2.1 dL.out.2.2.2 (LBH.out.step S5.out)).mono ?_
    rintro e w6 ⟨v2, q2, rfl, o6, l6, z6, s6⟩
    have L6 := hid l6
    have Z6 := hid z6
    have S6 := hid s6
    have hq2 : q2.length = (partsIt (xs.drop n)).length := l6.1
    have hq1 : Hid (q1.length = (partsIt (xs.take n)).length) := L5.out.1
    have HQ2 := hid hq2
    rcases o6.2 with ⟨_, h0⟩ | ⟨g2, cap2, cur2, hv2, b2, hg2, m2, m3, m4, m5⟩
    · exact absurd h0 (by have := NE.out.1; omega)
    subst hv2
    have hnews := o6.cells (g := g2) rfl
    have HN := hid hnews
    have H56 : Hid (w6.ownsRow 0 43 1 v1 q1.length (ptrs q1)) := owns_base (owns_step O5.out S6.out (fun _ _ h => h)) (Nat.zero_le _)
    have hmax : Hid (q1.length + q2.length ≤ maxLen ∧ (q1.length + q2.length) * 8 ≤ 140737488355328) := by
      have a1 := NE.out
      have a2 := hq1.out
      have a3 := HQ2.out
      exact ⟨le_max (by omega), by omega⟩
    clear l6 z6 s6 o6 hq2 hg2 b2 m2 m3 m4 m5 hnews
    go_wp2_with (at_builtin; refine wpList_append_fresh rfl _ _ 56 rfl 43 i0 (.pointer none) 1 8 Tryz.underlying56 hi hz0 hz1 hz2 rfl (by decide) v1 _ _ rfl H56.out ⟨g2, 0, none⟩ q2.length cap2 (ptrs q2) rfl (by simp [ptrs]) HN.out (ptrs_one q2) hmax.out.1 hmax.out.2 ?_)
    intro v' w7 o7 g7 f7
    have O7 := hid o7
    have G7 := hid g7
    have F7 := hid f7
    clear o7 g7 f7
    go_wp2_with fail
    go_ret
    have e4 := S4H.out.size
    have e5 := S5.out.size
    have e6 := S6.out.size
    have b1 : ∀ k, v1.ownBlock = some k → w4.heap.size ≤ k ∧ k < w5.heap.size := fun k hk => O5.out.lt k hk
    have st7 : Step (fun k => v1.ownBlock = some k) w6 w7 := ⟨G7.out.os, G7.out.tape, G7.out.output, G7.out.size, fun k hk hne => G7.out.block k hk (fun e => hne e.symm)⟩
    have k1 : LeavesIn w7 g q1 (partsIt (xs.take n)) := (L5.out.keep S6.out (fun _ _ h => h) (fun h => h)).keep st7 (fun q hq => (Z5.out q hq).2) (fun e => by have := b1 g e; omega)
    have k2 : LeavesIn w7 g q2 (partsIt (xs.drop n)) := L6.out.keep st7 (fun q hq e => by
      have h1 := b1 q e
      have h2 := ZBH.out
      rcases (Z6.out q hq).1 with h | h
      · omega
      · omega) (fun e => by have := b1 g e; omega)
    refine ⟨v', q1 ++ q2, rfl, ?_, ?_, ?_, ?_⟩
    · refine owns_up (by rw [List.length_append]; unfold ptrs; rw [List.map_append]; exact O7.out) (fun k hk => ?_)
      rcases F7.out with f | f
      · rw [f] at hk
        have := b1 k hk
        omega
      · have := f k hk
        omega
    · rw [HP.out]
      exact k1.append k2
    · intro q hq
      have h1 := ZAH.out
      have h2 := ZBH.out
      have hlt : q < w6.heap.size := by
        rcases List.mem_append.1 hq with hq | hq
        · have := L5.out.lt q hq
          omega
        · exact L6.out.lt q hq
      refine ⟨.inr ?_, fun e => ?_⟩
      · rcases List.mem_append.1 hq with hq | hq
        · rcases (Z5.out q hq).1 with h | h
          · omega
          · omega
        · rcases (Z6.out q hq).1 with h | h
          · omega
          · omega
      · rcases F7.out with f | f
        · rw [f] at e
          rcases List.mem_append.1 hq with hq | hq
          · exact (Z5.out q hq).2 e
          · have h3 := b1 q e
            rcases (Z6.out q hq).1 with h | h
            · omega
            · omega
        · have := f q e
          omega
    · exact (S4H.out.trans (S5.out.trans S6.out)).then st7 (fun k hk => .inr (by have := b1 k hk; omega))

/-- Parts of a leaf that isn't empty. -/
theorem parts_in (g : Nat) : ∀ (N : Nat) (p : Nat) (xs : List Rg) (w : World), xs.length < N → xs ≠ [] → Small xs → (∀ x ∈ xs, itOk x = true) → LeafIn w g p xs → Calls Tryz.prog 26 #[.pointer (some ⟨p, 0, none⟩)] w fun e w' => PartsIn w g p (partsIt xs) e w'
  | 0, p, xs, w, h, _, _, _, _ => absurd h (by omega)
  | N + 1, p, xs, w, hN, hne, hS, hok, h => by
    by_cases hw : wtL xs ≤ 240
    · rw [parts_light xs hw]
      refine (parts_small p xs hS hw w h.at).mono ?_
      rintro e w' ⟨v, rfl, o, b, s⟩
      refine ⟨v, [p], rfl, o, ⟨rfl, fun i h1 h2 => ?_⟩, fun q hq => ?_, s⟩
      · obtain rfl : i = 0 := by simp at h1; omega
        exact h.step s
      · obtain rfl : q = p := by simpa using hq
        exact ⟨.inl rfl, b⟩
    · exact parts_rec p g xs hS hok (by omega) w h (fun q ys w2 h1 h2 h3 h4 h5 => parts_in g N q ys w2 (by omega) h2 h3 h4 h5)
/-- Parts. -/
theorem parts_any (p : Nat) (xs : List Rg) (hS : Small xs) (hok : ∀ x ∈ xs, itOk x = true) (w : World) (h : LeafAt w p xs) : Calls Tryz.prog 26 #[.pointer (some ⟨p, 0, none⟩)] w fun e w' => PartsPost w (partsIt xs) e w' := by
  by_cases hx : xs = []
  · subst hx
    refine (parts_small p [] hS (by simp [wtL]) w h).mono ?_
    rintro e w' ⟨v, rfl, o, b, s⟩
    refine ⟨v, [p], rfl, o, ⟨rfl, fun i h1 h2 => ?_⟩, s⟩
    obtain rfl : i = 0 := by simp at h1; omega
    exact h.step s
  · obtain ⟨g, hg⟩ := h.in hx
    refine (parts_in g (xs.length + 1) p xs w (by omega) hx hS hok hg).mono ?_
    rintro e w' ⟨v, qs, rfl, o, l, z, s⟩
    exact ⟨v, qs, rfl, o, ⟨l.1, fun i h1 h2 => (l.2 i h1 h2).at⟩, s⟩
end Go.Proofs.YtoobelcphcndoaaGreat
