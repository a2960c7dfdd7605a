/-
  What each of package inner does, at parts' kids and keys, and at spans.
-/
import Derived.Test.YtoobelcphcndoaaGreatInA
import Derived.Laws.OwnMore
import Derived.Test.YtoobelcphcndoaaGreatKeyG
namespace Go.Proofs.YtoobelcphcndoaaGreat
open Go.RowKit Go.Sort
set_option linter.unusedVariables false
set_option linter.unusedSimpArgs false
set_option maxRecDepth 20000

/-- A row of structs of two cells in memory. -/
def TwosAt {α : Type} (f g : α → Value) (w : World) (a : Option Addr) (xs : List α) : Prop :=
  xs = [] ∨ ∃ b off, a = some ⟨b, off, none⟩ ∧ b < w.heap.size ∧ ∀ j (h : j < xs.length), w.cell? ⟨b, off + j * 2, none⟩ = some (f xs[j]) ∧ w.cell? ⟨b, off + j * 2 + 1, none⟩ = some (g xs[j])
theorem TwosAt.step {α : Type} {f g : α → Value} {w w' : World} {a : Option Addr} {xs : List α} (h : TwosAt f g w a xs) (hs : Step noF w w') : TwosAt f g w' a xs := by
  rcases h with h | ⟨b, off, rfl, hb, h⟩
  · exact .inl h
  · refine .inr ⟨b, off, rfl, Nat.lt_of_lt_of_le hb hs.size, fun j hj => ?_⟩
    obtain ⟨h1, h2⟩ := h j hj
    exact ⟨hs.after h1, hs.after h2⟩
theorem TwosAt.at {α : Type} {f g : α → Value} {w : World} {a : Option Addr} {xs : List α} (h : TwosAt f g w a xs) (j : Nat) (hj : j < xs.length) : ∃ b off, a = some ⟨b, off, none⟩ ∧ w.cell? ⟨b, off + j * 2, none⟩ = some (f xs[j]) ∧ w.cell? ⟨b, off + j * 2 + 1, none⟩ = some (g xs[j]) := by
  rcases h with rfl | ⟨b, off, rfl, hb, h⟩
  · simp at hj
  · exact ⟨b, off, rfl, h j hj⟩
theorem TwosAt.drop {α : Type} {f g : α → Value} {w : World} {b off : Nat} {xs : List α} (h : TwosAt f g w (some ⟨b, off, none⟩) xs) (t : Nat) : TwosAt f g w (some ⟨b, off + t * 2, none⟩) (xs.drop t) := by
  rcases h with rfl | ⟨b', off', h1, hb, h⟩
  · left; simp
  · injection h1 with h1
    injection h1 with e1 e2
    subst e1 e2
    refine .inr ⟨b, off + t * 2, rfl, hb, fun j hj => ?_⟩
    simp at hj
    have := h (t + j) (by omega)
    rw [show off + (t + j) * 2 = off + t * 2 + j * 2 by omega] at this
    rw [List.getElem_drop]
    exact this
/-- A part that comes in a kid's place: its key and its kid. -/
def PtsAt : World → Option Addr → List (List UInt8 × Int) → Prop := TwosAt (fun x => .string (str x.1)) (fun x => .int .i64 x.2)
/-- Kids side by side: from, and ahead of. -/
def SpansAt : World → Option Addr → List (Int × Int) → Prop := TwosAt (fun x => .int .i64 x.1) (fun x => .int .i64 x.2)
theorem fill_set {α : Type} (xs : List α) (z : α) (j : Nat) (hj : j < xs.length) (n : Nat) (hn : j < n) : (xs.take j ++ List.replicate (n - j) z).set j xs[j] = xs.take (j + 1) ++ List.replicate (n - (j + 1)) z := by
  have hl : (xs.take j).length = j := by simp; omega
  rw [List.set_append_right _ _ (by omega), hl, Nat.sub_self, show n - j = n - (j + 1) + 1 by omega, List.replicate_succ, List.set_cons_zero, List.take_succ_eq_append_getElem hj, List.append_assoc]
  rfl
theorem made_one (z : Value) (hz : z.cells = #[z]) (n : Nat) : (madeCells z.cells (n * 1)).toList = List.replicate n z := by
  rw [hz]
  refine List.ext_getElem (by simp [madeCells]) (fun i h1 h2 => ?_)
  simp [madeCells, Nat.mod_one]
theorem own1_old {w : World} {base g n c : Nat} {e : TypeId} {cs : List Value} (h : w.ownsRow base e 1 (.slice (some ⟨g, 0, none⟩) n c) n cs) (j : Nat) (hj : j < n) : (∃ x, w.cell? ⟨g, j, none⟩ = some x) ∧ w.frozen? ⟨g, j, none⟩ = false := by
  obtain ⟨g', c', hv, _, hr, _⟩ := rowIn_owns (owns_base h (Nat.zero_le _)) (by omega)
  injection hv with hv _ _
  injection hv with hv
  injection hv with hv _ _
  subst hv
  have hl := h.1
  exact ⟨⟨_, hr.cell j (by omega)⟩, hr.f j⟩
theorem info_ptrA0 : (Tryz.prog.info? 45).map (fun i => (i.zero, i.size, i.bytes)) = some (some (.pointer none), 1, 8) := by kernel_rfl
theorem info_ptrA : ∃ i, Tryz.prog.info? 45 = some i ∧ i.zero = some (.pointer none) ∧ i.size = 1 ∧ i.bytes = 8 := info_threeL info_ptrA0

/-- A world in which one block alone has turned, and that one has pointers alone: nodes are as they were. -/
def OnlyAt (g : Nat) (w w' : World) : Prop := w.heap.size ≤ w'.heap.size ∧ (∀ b, b ≠ g → b < w.heap.size → w'.heap[b]? = w.heap[b]?) ∧ ∃ cs : Array Value, w.heap[g]? = some (.cells cs 45 (0, 0)) ∧ ∀ x ∈ cs.toList, ∃ a, x = .pointer a
theorem OnlyAt.cell {g : Nat} {w w' : World} (h : OnlyAt g w w') {b off : Nat} {v : Value} (hv : ∀ a, v ≠ .pointer a) (hc : w.cell? ⟨b, off, none⟩ = some v) : w'.cell? ⟨b, off, none⟩ = some v := by
  obtain ⟨_, h2, cs, h3, h4⟩ := h
  have hb := World.block_lt_of_cell? w _ hc
  by_cases e : b = g
  · subst e
    rw [cell_of_block h3, ← Array.getElem?_toList] at hc
    obtain ⟨a, e⟩ := h4 v (List.mem_of_getElem? hc)
    exact absurd e (hv a)
  · exact (World.cell?_of_block (w := w) (h2 b e hb)).trans hc
theorem OnlyAt.row {g : Nat} {w w' : World} (h : OnlyAt g w w') {a : Option Addr} {cs : List Value} (hv : ∀ v ∈ cs, ∀ a, v ≠ .pointer a) (hr : RowAt w noF a cs) : RowAt w' noF a cs := by
  rcases hr with hr | ⟨b, off, h1, h2, h3⟩
  · exact .inl hr
  · exact .inr ⟨b, off, h1, h2, fun j hj => h.cell (hv _ (List.getElem_mem hj)) (h3 j hj)⟩
theorem OnlyAt.nilOk {g : Nat} {w w' : World} (h : OnlyAt g w w') {a : Option Addr} {c : Nat} (hn : NilOk w a c) : NilOk w' a c := ⟨hn.1, fun ad e => by
  obtain ⟨b, off, e1, e2⟩ := hn.2 ad e
  exact ⟨b, off, e1, Nat.lt_of_lt_of_le e2 h.1⟩⟩
theorem OnlyAt.block {g : Nat} {w w' : World} (h : OnlyAt g w w') {b : Nat} {A : Array Value} {t : TypeId} {f : Nat × Nat} (hb : w.heap[b]? = some (.cells A t f)) (ht : t ≠ 45) : w'.heap[b]? = some (.cells A t f) := by
  obtain ⟨_, h2, cs, h3, h4⟩ := h
  by_cases e : b = g
  · subst e
    rw [hb] at h3
    injection h3 with h3
    injection h3 with _ e _
    exact absurd e ht
  · exact (h2 b e (lt_of_block hb)).trans hb
theorem OnlyAt.inner {g : Nat} {w w' : World} (h : OnlyAt g w w') {p : Nat} {d : Nd} (hi : InnerAt w p d) : InnerAt w' p d := by
  obtain ⟨ka, pa, kc, pc, q, h1, ⟨k1, k2, k3⟩, ⟨p1, p2, p3⟩, ⟨a, c, b1, b2, b3, b4⟩⟩ := hi
  refine ⟨ka, pa, kc, pc, q, h.block h1 (by decide), ⟨k1, h.nilOk k2, h.row (fun v hv a e => ?_) k3⟩, ⟨p1, h.nilOk p2, h.row (fun v hv a e => ?_) p3⟩, ⟨a, c, h.block b1 (by decide), b2, h.nilOk b3, ?_⟩⟩
  · simp only [intsOf, List.mem_map] at hv
    obtain ⟨x, _, rfl⟩ := hv
    cases e
  · simp only [texts, List.mem_map] at hv
    obtain ⟨x, _, rfl⟩ := hv
    cases e
  · rcases b4 with b4 | ⟨b, off, e1, e2, e3, e4⟩
    · exact .inl b4
    · refine .inr ⟨b, off, e1, e2, Nat.lt_of_lt_of_le e3 h.1, fun j hj => ?_⟩
      obtain ⟨c0, c1, c2⟩ := e4 j hj
      exact ⟨h.cell (fun _ e => by cases e) c0, h.cell (fun _ e => by cases e) c1, h.cell (fun _ e => by cases e) c2⟩
theorem onlyAt_put {w : World} {base g n : Nat} {cs : List Value} (h : w.ownsRow base 45 1 (.slice (some ⟨g, 0, none⟩) n n) n cs) (hc : ∀ x ∈ cs, ∃ a, x = .pointer a) (j : Nat) (v : Value) : OnlyAt g w (w.setCell ⟨g, j, none⟩ v) := by
  refine ⟨by simp [World.setCell], fun b hb _ => Below.heap_setCell _ _ _ _ (fun e => hb e), ?_⟩
  rcases h.2 with ⟨x, _⟩ | ⟨g', cap, cur, hv, hg, hh, hnc, hcm, hcs, htake⟩
  · cases x
  · injection hv with h1 _ h3
    injection h1 with h1
    injection h1 with h1 _ _
    subst h1 h3
    refine ⟨cur, hh, fun x hx => hc x ?_⟩
    rw [← htake, List.take_of_length_le (by rw [Array.length_toList, hcs]; exact Nat.le_refl _)]
    exact hx

set_option maxHeartbeats 4000000 in
/-- each of a list. -/
theorem eachSN_any (p : Nat) (F : Int × Int → Nd) (n : Nat) (xs : List (Int × Int)) (hn : xs.length = n) (hnl : n ≤ 1000) (a : Option Addr) (cap : Nat) (w : World) (h : SpansAt w a xs)
    (hc : ∀ j (hj : j < xs.length) w', Step noF w w' → Calls Tryz.prog 75 #[.pointer (some ⟨p, 0, none⟩), .agg #[.int .i64 xs[j].1, .int .i64 xs[j].2]] w' fun e w'' => ∃ y : Nat, e = .returned (.pointer (some ⟨y, 0, none⟩)) ∧ Hid (InnerAt w'' y (F xs[j])) ∧ Step noF w' w'') :
    Calls Tryz.prog 74 #[.slice a n cap, .func (.func 75) #[.pointer (some ⟨p, 0, none⟩)] #[]] w fun e w' => ∃ (g : Nat) (ys : List (Nat)), e = .returned (.slice (some ⟨g, 0, none⟩) n n) ∧ ys.length = n ∧ Hid (∀ t (h1 : t < xs.length) (h2 : t < ys.length), InnerAt w' ys[t] (F xs[t])) ∧ Hid (w'.ownsRow w.heap.size 45 1 (.slice (some ⟨g, 0, none⟩) n n) n (ys.map fun y => .pointer (some ⟨y, 0, none⟩))) ∧ Hid (Step noF w w') := by
  obtain ⟨i0, hi, hz0, hz1, hz2⟩ := info_ptrA
  have h0 := nil_str
  have HR := hid h
  have HC := hid hc
  clear h hc
  have HN := hid hn
  obtain ⟨wm, hmk, hown0, hgr0⟩ := run_makeSlice_full (P := Tryz.prog) w w.heap.size 61 45 i0 _ 1 Tryz.underlying61 hi hz0 hz1 .i64 .i64 n (by omega) (by rw [hz2]; omega) (le_max (by omega)) (Nat.le_refl _)
  rw [made_one _ rfl] at hown0
  have hsm : Hid (Step noF w wm) := (Step.refl noF w).grown hgr0 (fun k hk => by cases hk)
  have HO := hid hown0
  clear hown0 hgr0 hn
  go_enter Tryz.func74, Tryz.ntmps74
  go_wp2_with fail
  go_loopw [13] (fun i wr => ∃ (j : Nat) (ys : List (Nat)), j ≤ n ∧ i = .int .i64 j ∧ ys.length = j ∧ Hid (∀ t (h1 : t < xs.length) (h2 : t < ys.length), InnerAt wr ys[t] (F xs[t])) ∧ Hid (Step noF w wr) ∧ Hid (wr.ownsRow w.heap.size 45 1 (.slice (some ⟨w.heap.size, 0, none⟩) n n) n ((ys.map fun y => .pointer (some ⟨y, 0, none⟩)) ++ List.replicate (n - j) (.pointer none)))) (fun i _ => n - (intOf i).toNat)
  case atStart => exact ⟨0, [], Nat.zero_le _, rfl, rfl, (fun t _ h => by simp at h), hsm.out, HO.out⟩
  case round =>
    obtain ⟨j, ys, hj, rfl, hvl, HV, HS, HW⟩ := hrel
    have HVL := hid hvl
    clear hvl
    by_cases hjn : j < n
    · have hjz : (j : Int) < (n : Int) := by omega
      have hjl : j < xs.length := by rw [HN.out]; exact hjn
      obtain ⟨b, off, rfl, y0, y1⟩ := TwosAt.at (TwosAt.step HR.out HS.out) j hjl
      have cP := HC.out j hjl
      obtain ⟨X, hX⟩ : ∃ x, xs[j] = x := ⟨_, rfl⟩
      have HX := hid hX
      rw [hX] at y0 y1 cP
      obtain ⟨x0, x1⟩ := X
      simp only at y0 y1 cP
      clear hX
      go_wp2_with fail
      refine (cP _ (HS.out.alloc _)).mono ?_
      rintro e w2 ⟨y, rfl, R2, s2⟩
      have st : Step noF wr w2 := ((Step.refl noF wr).alloc _).trans s2
      have HW2 := hid (owns_step HW.out st (fun _ _ x => x))
      have S2 := hid (HS.out.trans st)
      have ST := hid st
      obtain ⟨⟨o0, k0⟩, f0⟩ := own1_old HW2.out j hjn
      clear s2 st cP
      go_wp2_with fail
      go_roundw
      case rel =>
        refine ⟨j + 1, ys ++ [y], by omega, int_eq (by omega), by simp [HVL.out], ?_, S2.out.setCell (p := ⟨w.heap.size, j, none⟩) (.inr (Nat.le_refl _)) _, ?_⟩
        · intro t h1 h2
          have hon := onlyAt_put HW2.out (by
            intro x hx
            rcases List.mem_append.1 hx with hx | hx
            · obtain ⟨q, _, rfl⟩ := List.mem_map.1 hx
              exact ⟨_, rfl⟩
            · exact ⟨none, (List.mem_replicate.1 hx).2⟩) j (.pointer (some ⟨y, 0, none⟩))
          by_cases ht : t < j
          · rw [List.getElem_append_left (by rw [HVL.out]; exact ht)]
            exact hon.inner ((HV.out t h1 (by rw [HVL.out]; exact ht)).step ST.out)
          · have e : t = j := by simp [HVL.out] at h2; omega
            subst e
            rw [List.getElem_append_right (by rw [HVL.out]; exact Nat.le_refl _)]
            simp only [HVL.out, Nat.sub_self, List.getElem_cons_zero]
            have := R2.out
            rw [← HX.out] at this
            exact hon.inner this
        · have := owns_put HW2.out j (by simp [HVL.out]; omega) (.pointer (some ⟨y, 0, none⟩))
          rw [List.set_append_right _ _ (by simp [HVL.out]), List.length_map, HVL.out, Nat.sub_self, show n - j = n - (j + 1) + 1 by omega, List.replicate_succ, List.set_cons_zero] at this
          show World.ownsRow _ _ _ _ _ _ _
          rw [List.map_append, List.append_assoc]
          exact this
      case measure => simp [intOf]; omega
    · obtain rfl : j = n := by omega
      go_wp2_with fail
      go_ret
      refine ⟨w.heap.size, ys, rfl, HVL.out, HV.out, ?_, HS.out⟩
      have := HW.out
      rw [Nat.sub_self, List.replicate_zero, List.append_nil] at this
      exact this

set_option maxHeartbeats 4000000 in
/-- each of a list. -/
theorem eachST_any (p : Nat) (F : Int × Int → List UInt8) (n : Nat) (xs : List (Int × Int)) (hn : xs.length = n) (hnl : n ≤ 1000) (a : Option Addr) (cap : Nat) (w : World) (h : SpansAt w a xs)
    (hc : ∀ j (hj : j < xs.length) w', Step noF w w' → Calls Tryz.prog 77 #[.pointer (some ⟨p, 0, none⟩), .agg #[.int .i64 xs[j].1, .int .i64 xs[j].2]] w' fun e w'' => ∃ y : List UInt8, e = .returned (.string (str y)) ∧ Hid (y = F xs[j]) ∧ Step noF w' w'') :
    Calls Tryz.prog 76 #[.slice a n cap, .func (.func 77) #[.pointer (some ⟨p, 0, none⟩)] #[]] w fun e w' => ∃ (g : Nat) (ys : List (List UInt8)), e = .returned (.slice (some ⟨g, 0, none⟩) n n) ∧ ys.length = n ∧ Hid (∀ t (h1 : t < xs.length) (h2 : t < ys.length), ys[t] = F xs[t]) ∧ Hid (w'.ownsRow w.heap.size 9 1 (.slice (some ⟨g, 0, none⟩) n n) n (ys.map fun y => .string (str y))) ∧ Hid (Step noF w w') := by
  obtain ⟨i0, hi, hz0, hz1, hz2⟩ := info_strA
  have h0 := nil_str
  have HR := hid h
  have HC := hid hc
  clear h hc
  have HN := hid hn
  obtain ⟨wm, hmk, hown0, hgr0⟩ := run_makeSlice_full (P := Tryz.prog) w w.heap.size 24 9 i0 _ 1 Tryz.underlying24 hi hz0 hz1 .i64 .i64 n (by omega) (by rw [hz2]; omega) (le_max (by omega)) (Nat.le_refl _)
  rw [made_one _ rfl] at hown0
  have hsm : Hid (Step noF w wm) := (Step.refl noF w).grown hgr0 (fun k hk => by cases hk)
  have HO := hid hown0
  clear hown0 hgr0 hn
  go_enter Tryz.func76, Tryz.ntmps76
  go_wp2_with fail
  go_loopw [13] (fun i wr => ∃ (j : Nat) (ys : List (List UInt8)), j ≤ n ∧ i = .int .i64 j ∧ ys.length = j ∧ Hid (∀ t (h1 : t < xs.length) (h2 : t < ys.length), ys[t] = F xs[t]) ∧ Hid (Step noF w wr) ∧ Hid (wr.ownsRow w.heap.size 9 1 (.slice (some ⟨w.heap.size, 0, none⟩) n n) n ((ys.map fun y => .string (str y)) ++ List.replicate (n - j) (.string (str []))))) (fun i _ => n - (intOf i).toNat)
  case atStart => exact ⟨0, [], Nat.zero_le _, rfl, rfl, (fun t _ h => by simp at h), hsm.out, HO.out⟩
  case round =>
    obtain ⟨j, ys, hj, rfl, hvl, HV, HS, HW⟩ := hrel
    have HVL := hid hvl
    clear hvl
    by_cases hjn : j < n
    · have hjz : (j : Int) < (n : Int) := by omega
      have hjl : j < xs.length := by rw [HN.out]; exact hjn
      obtain ⟨b, off, rfl, y0, y1⟩ := TwosAt.at (TwosAt.step HR.out HS.out) j hjl
      have cP := HC.out j hjl
      obtain ⟨X, hX⟩ : ∃ x, xs[j] = x := ⟨_, rfl⟩
      have HX := hid hX
      rw [hX] at y0 y1 cP
      obtain ⟨x0, x1⟩ := X
      simp only at y0 y1 cP
      clear hX
      go_wp2_with fail
      refine (cP _ (HS.out.alloc _)).mono ?_
      rintro e w2 ⟨y, rfl, R2, s2⟩
      have st : Step noF wr w2 := ((Step.refl noF wr).alloc _).trans s2
      have HW2 := hid (owns_step HW.out st (fun _ _ x => x))
      have S2 := hid (HS.out.trans st)
      have ST := hid st
      obtain ⟨⟨o0, k0⟩, f0⟩ := own1_old HW2.out j hjn
      clear s2 st cP
      go_wp2_with fail
      go_roundw
      case rel =>
        refine ⟨j + 1, ys ++ [y], by omega, int_eq (by omega), by simp [HVL.out], ?_, S2.out.setCell (p := ⟨w.heap.size, j, none⟩) (.inr (Nat.le_refl _)) _, ?_⟩
        · intro t h1 h2
          by_cases ht : t < j
          · rw [List.getElem_append_left (by rw [HVL.out]; exact ht)]
            exact HV.out t h1 (by rw [HVL.out]; exact ht)
          · have e : t = j := by simp [HVL.out] at h2; omega
            subst e
            rw [List.getElem_append_right (by rw [HVL.out]; exact Nat.le_refl _)]
            simp [HVL.out]
            rw [R2.out, HX.out]
        · have := owns_put HW2.out j (by simp [HVL.out]; omega) (.string (str y))
          rw [List.set_append_right _ _ (by simp [HVL.out]), List.length_map, HVL.out, Nat.sub_self, show n - j = n - (j + 1) + 1 by omega, List.replicate_succ, List.set_cons_zero] at this
          show World.ownsRow _ _ _ _ _ _ _
          rw [List.map_append, List.append_assoc]
          exact this
      case measure => simp [intOf]; omega
    · obtain rfl : j = n := by omega
      go_wp2_with fail
      go_ret
      refine ⟨w.heap.size, ys, rfl, HVL.out, HV.out, ?_, HS.out⟩
      have := HW.out
      rw [Nat.sub_self, List.replicate_zero, List.append_nil] at this
      exact this
end Go.Proofs.YtoobelcphcndoaaGreat
