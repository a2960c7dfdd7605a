/-
  What the small functions of package buff do: keys compared, what can't be; a buffer in memory; how many, how heavy, the list, one found.
  What all messages of a buffer weigh; a key's message.
-/
import Derived.Test.YtoobelcphcndoaaGreatLfRow
import Derived.Test.YtoobelcphcndoaaGreatBuffM
namespace Go.Proofs.YtoobelcphcndoaaGreat
open Go.RowKit Go.Sort
set_option linter.unusedVariables false
set_option linter.unusedSimpArgs false
set_option maxRecDepth 20000

theorem cmpB_any (x y : Mg) (w : World) : Calls Tryz.prog 122 #[.agg #[.int .i64 x.kind, .string (str x.key), .string (str x.val)], .agg #[.int .i64 y.kind, .string (str y.key), .string (str y.val)]] w fun e w' => e = .returned (.int .i64 (cmpL x.key y.key)) ∧ ∃ q os, w' = grow (w.drewN q) os := by
  go_enter Tryz.func122, Tryz.ntmps122
  go_wp2_with (go_at_call 112; refine (cmp_any _ _ _).mono ?_; rintro e w' ⟨rfl, rfl⟩)
  go_ret
  exact ⟨rfl, 0, _, by rw [alloc_eq_grow, alloc_eq_grow, grow_grow]; rfl⟩
theorem isNotB_any (m : Mg) (hm : m.val.length ≤ maxLen) (w : World) : Calls Tryz.prog 119 #[.agg #[.int .i64 m.kind, .string (str m.key), .string (str m.val)]] w fun e w' => e = .returned (.bool !m.is) ∧ Step noF w w' := by
  have cN := mis_any m hm
  have e0 : m.value = .agg #[.int .i64 m.kind, .string (str m.key), .string (str m.val)] := rfl
  rw [e0] at cN
  clear e0
  obtain ⟨A, hA⟩ : ∃ A, m.is = A := ⟨_, rfl⟩
  rw [hA] at cN ⊢
  clear hA
  go_enter Tryz.func119, Tryz.ntmps119
  go_wp2_with (go_at_call 161; refine (cN _).mono ?_; rintro e w2 ⟨rfl, s2⟩)
  go_ret
  exact ⟨ret_bool rfl, ((Step.refl _ w).alloc _).trans s2⟩
set_option maxHeartbeats 1000000 in
theorem indexB_any (ms : List Mg) (hms : ∀ m ∈ ms, m.val.length ≤ maxLen) (hl : ms.length ≤ 1000000) (a : Option Addr) (cap : Nat) (w : World) (hr : MsgsAt w noF a ms) :
    Calls Tryz.prog 160 #[.slice a ms.length cap, .func (.func 119) #[] #[]] w fun e w' => (∃ r : Int, e = .returned (.int .i64 r) ∧ decide (0 ≤ r) = !(ms.all Mg.is)) ∧ Step noF w w' := by
  have HR := hid hr
  have HM := hid hms
  clear hr hms
  go_enter Tryz.func160, Tryz.ntmps160
  go_wp2_with fail
  go_loopw [8] (fun i wr => ∃ (j : Nat), j ≤ ms.length ∧ i = .int .i64 j ∧ (ms.take j).all Mg.is = true ∧ Step noF w wr) (fun i _ => ms.length - (intOf i).toNat)
  case atStart => exact ⟨0, Nat.zero_le _, rfl, rfl, Step.refl _ _⟩
  case round =>
    obtain ⟨j, hj, rfl, hall, st⟩ := hrel
    have ST := hid st
    have HA := hid hall
    clear st hall
    by_cases hjl : j < ms.length
    · have hR2 : MsgsAt wr noF a ms := HR.out.step ST.out (fun _ h => h)
      obtain ⟨g, off, rfl, c0, c1, c2⟩ := hR2.at j hjl
      have HI := hid (HM.out ms[j] (List.getElem_mem hjl))
      have HT := hid (all_takeM ms j hjl)
      have HN : Hid (ms[j].is = false → ms.all Mg.is = false) := fun h => by
        rw [List.all_eq_false]
        exact ⟨ms[j], List.getElem_mem hjl, by rw [h]; simp⟩
      obtain ⟨⟨k, x, y⟩, hm⟩ : ∃ m, ms[j] = m := ⟨_, rfl⟩
      rw [hm] at c0 c1 c2 HI HT HN
      clear hm hR2
      have cN := isNotB_any ⟨k, x, y⟩ HI.out
      cases hi : (Mg.mk k x y).is
      · rw [hi] at cN HN
        clear hi
        go_wp2_with fail
        refine (cN _).mono ?_
        rintro e w2 ⟨rfl, s2⟩
        have S2 := hid (ST.out.trans s2)
        clear s2
        go_wp2_with fail
        go_ret
        refine ⟨⟨_, rfl, ?_⟩, S2.out⟩
        have hn := HN.out
        first | rw [hn trivial] | rw [hn rfl] | rw [hn]
        simp
      · rw [hi] at cN HT
        clear hi
        go_wp2_with fail
        refine (cN _).mono ?_
        rintro e w2 ⟨rfl, s2⟩
        have S2 := hid (ST.out.trans s2)
        clear s2
        go_wp2_with fail
        go_roundw
        case rel => exact ⟨j + 1, by omega, int_eq (by omega), by rw [HT.out, HA.out]; rfl, S2.out⟩
        case measure => simp [intOf]; omega
    · obtain rfl : j = ms.length := by omega
      go_wp2_with fail
      go_ret
      refine ⟨⟨_, rfl, ?_⟩, ST.out⟩
      have := HA.out
      rw [List.take_of_length_le (Nat.le_refl _)] at this
      rw [this]
      rfl
theorem containsB_any (ms : List Mg) (hms : ∀ m ∈ ms, m.val.length ≤ maxLen) (hl : ms.length ≤ 1000000) (a : Option Addr) (cap : Nat) (w : World) (hr : MsgsAt w noF a ms) :
    Calls Tryz.prog 118 #[.slice a ms.length cap, .func (.func 119) #[] #[]] w fun e w' => e = .returned (.bool !(ms.all Mg.is)) ∧ Step noF w w' := by
  have c := indexB_any ms hms hl a cap w hr
  obtain ⟨A, hA⟩ : ∃ A, ms.all Mg.is = A := ⟨_, rfl⟩
  rw [hA] at c ⊢
  go_enter Tryz.func118, Tryz.ntmps118
  go_wp2_with fail
  refine c.mono ?_
  rintro e w2 ⟨⟨r, rfl, hr2⟩, s2⟩
  have HR2 := hid hr2
  clear hr2
  go_wp2_with fail
  go_ret
  exact ⟨ret_bool (by rw [← HR2.out]), s2⟩

theorem cmpB_neg (a b : List UInt8) : cmpL a b < 0 ↔ a < b := by
  unfold cmpL
  by_cases h : a < b
  · simp [h]
  · by_cases h2 : b < a <;> simp [h, h2]
theorem cmpB_zero (a b : List UInt8) : cmpL a b = 0 ↔ a = b := by
  unfold cmpL
  by_cases h : a < b
  · simp [h]
    intro e
    subst e
    exact lt_irrefl' h
  · by_cases h2 : b < a
    · simp [h, h2]
      intro e
      subst e
      exact lt_irrefl' h2
    · simp [h, h2]
      exact Classical.byContradiction fun e => h2 (lt_or' h e)
/-- A row of messages of one's own. -/
theorem owns_msgs {w : World} {base : Nat} {v : Value} {xs : List Mg} {e : TypeId} (h : w.ownsRow base e 3 v xs.length (msgs xs)) : ∃ a c, v = .slice a xs.length c ∧ xs.length ≤ c ∧ NilOk w a c ∧ MsgsAt w noF a xs := by
  obtain ⟨a, c, rfl, h1, h2⟩ := msgsAt_owns (owns_base h (Nat.zero_le _)) rfl
  refine ⟨a, c, rfl, h1, ⟨owns_none h a c rfl, fun ad e => ?_⟩, h2⟩
  subst e
  rcases h.2 with ⟨h, _⟩ | ⟨g, cap, cur, h, _, hg, _⟩
  · injection h with h
    cases h
  · injection h with h
    exact ⟨g, 0, Option.some.inj h, lt_of_block hg⟩
theorem MsgsAt.stepB {w w' : World} {a : Option Addr} {xs : List Mg} (h : MsgsAt w noF a xs) (hs : Step noF w w') : MsgsAt w' noF a xs := h.step hs (fun _ h => h)

/-- A buffer. -/
def BuffAt (w : World) (p : Nat) (xs : List Mg) : Prop := ∃ a c, w.heap[p]? = some (.cells #[.slice a xs.length c] 134 (0, 0)) ∧ xs.length ≤ c ∧ NilOk w a c ∧ MsgsAt w noF a xs
theorem BuffAt.step {w w' : World} {p : Nat} {xs : List Mg} (h : BuffAt w p xs) (hs : Step noF w w') : BuffAt w' p xs := by
  obtain ⟨a, c, h1, h2, h3, h4⟩ := h
  exact ⟨a, c, (hs.block p (lt_of_block h1) (fun x => x)).trans h1, h2, h3.step hs, h4.stepB hs⟩
theorem BuffAt.lt {w : World} {p : Nat} {xs : List Mg} (h : BuffAt w p xs) : p < w.heap.size := by
  obtain ⟨a, c, h1, _⟩ := h
  exact lt_of_block h1
theorem BuffAt.cell {w : World} {p : Nat} {xs : List Mg} (h : BuffAt w p xs) : ∃ a c, w.cell? ⟨p, 0, none⟩ = some (.slice a xs.length c) ∧ xs.length ≤ c ∧ NilOk w a c ∧ MsgsAt w noF a xs := by
  obtain ⟨a, c, h1, h2⟩ := h
  exact ⟨a, c, by rw [cell_of_block h1]; rfl, h2⟩
theorem buffAt_new {w : World} {v : Value} {xs : List Mg} {base : Nat} (h : w.ownsRow base 73 3 v xs.length (msgs xs)) : BuffAt (w.alloc (.cells #[v] 134)) w.heap.size xs := by
  obtain ⟨a, c, rfl, h2, h3, h4⟩ := owns_msgs h
  have hs : Step noF w (w.alloc (.cells #[.slice a xs.length c] 134)) := (Step.refl noF w).alloc _
  exact ⟨a, c, block_alloc_new w _, h2, h3.step hs, h4.stepB hs⟩
theorem lenB_any (p : Nat) (xs : List Mg) (w : World) (h : BuffAt w p xs) : Calls Tryz.prog 96 #[.pointer (some ⟨p, 0, none⟩)] w fun e w' => e = .returned (.int .i64 xs.length) ∧ w = w' := by
  obtain ⟨a, c, h1, h2⟩ := h.cell
  clear h
  go_enter Tryz.func96, Tryz.ntmps96
  go_wp2
  go_ret
  exact ⟨rfl, rfl⟩
theorem lenB_nil (w : World) : Calls Tryz.prog 96 #[.pointer none] w fun e w' => e = .returned (.int .i64 0) ∧ w = w' := by
  go_enter Tryz.func96, Tryz.ntmps96
  go_wp2
  go_ret
  exact ⟨rfl, rfl⟩
theorem weightB_nil (w : World) : Calls Tryz.prog 32 #[.pointer none] w fun e w' => e = .returned (.int .i64 0) ∧ w = w' := by
  go_enter Tryz.func32, Tryz.ntmps32
  go_wp2
  go_ret
  exact ⟨rfl, rfl⟩
theorem listB_nil (w : World) : Calls Tryz.prog 62 #[.pointer none] w fun e w' => e = .returned (.slice none 0 0) ∧ w = w' := by
  go_enter Tryz.func62, Tryz.ntmps62
  go_wp2
  go_ret
  exact ⟨rfl, rfl⟩
theorem listB_any (p : Nat) (xs : List Mg) (hl : xs.length ≤ 1000000) (w : World) (h : BuffAt w p xs) : Calls Tryz.prog 62 #[.pointer (some ⟨p, 0, none⟩)] w fun e w' => ∃ v, e = .returned v ∧ w'.ownsRow w.heap.size 73 3 v xs.length (msgs xs) ∧ Step noF w w' := by
  obtain ⟨a, c, h1, h2, h3, h4⟩ := h.cell
  have hc := cloneMs_any xs hl a c w h4 h3.1
  clear h h2 h3 h4
  go_enter Tryz.func62, Tryz.ntmps62
  go_wp2_with (go_at_call 106; refine hc.mono ?_; rintro e w' ⟨v, rfl, ho, hs⟩)
  go_ret
  exact ⟨v, rfl, ho, hs⟩


theorem wtM_take (xs : List Mg) (j : Nat) (hj : j < xs.length) : wtM (xs.take (j + 1)) = wtM (xs.take j) + mgW xs[j] := by
  rw [List.take_succ_eq_append_getElem hj, wtM_append, wtM_cons]
  simp [wtM]
/-- Messages of no great length. -/
def SmallM (xs : List Mg) : Prop := xs.length ≤ 1000000 ∧ ∀ x ∈ xs, x.key.length ≤ 1000000 ∧ x.val.length ≤ 1000000
theorem wtM_small (xs : List Mg) (h : ∀ x ∈ xs, x.key.length ≤ 1000000 ∧ x.val.length ≤ 1000000) : wtM xs ≤ xs.length * 2000003 := by
  induction xs with
  | nil => simp [wtM]
  | cons x xs ih =>
    rw [wtM_cons, List.length_cons]
    have := ih (fun y hy => h y (by simp [hy]))
    have := h x (by simp)
    unfold mgW
    omega
theorem good_small {xs : List Mg} (hg : GoodM xs) (hl : xs.length ≤ 1000000) : SmallM xs := ⟨hl, fun x hx => by
  have := (is_iff x).1 (hg x hx)
  have h1 := this.1
  simp [isK] at h1
  rcases this.2 with h | h | h
  · omega
  · rw [h.2]; simp; omega
  · omega⟩
end Go.Proofs.YtoobelcphcndoaaGreat
namespace Go.Proofs.YtoobelcphcndoaaGreat
open Go.RowKit Go.Sort
set_option linter.unusedVariables false
set_option linter.unusedSimpArgs false
set_option maxRecDepth 20000

set_option maxHeartbeats 1000000 in
theorem weigh_any (xs : List Mg) (hS : SmallM xs) (a : Option Addr) (c : Nat) (w : World) (h : MsgsAt w noF a xs) : Calls Tryz.prog 78 #[.slice a xs.length c] w fun e w' => e = .returned (.int .i64 (wtM xs)) ∧ Step noF w w' := by
  have hl := hS.1
  have HR := hid h
  have HS := hid hS
  clear h hS
  go_enter Tryz.func78, Tryz.ntmps78
  go_wp2_with fail
  go_loopw [8, 3] (fun i s wr => ∃ (j n : Nat), j ≤ xs.length ∧ i = .int .i64 j ∧ s = .int .i64 n ∧ n ≤ 2000003000000 ∧ Hid (n = wtM (xs.take j)) ∧ Step noF w wr) (fun i _ _ => xs.length - (intOf i).toNat)
  case atStart => exact ⟨0, 0, Nat.zero_le _, rfl, rfl, by omega, by show (0 : Nat) = _; simp [wtM], Step.refl _ _⟩
  case round =>
    obtain ⟨j, n, hj, rfl, rfl, hn, HN, st⟩ := hrel
    have ST := hid st
    clear st
    by_cases hjl : j < xs.length
    · obtain ⟨g, off, rfl, c0, c1, c2⟩ := (HR.out.stepB ST.out).at j hjl
      have hx := HS.out.2 xs[j] (List.getElem_mem hjl)
      have HT := hid (wtM_take xs j hjl)
      have HW : Hid (wtM (xs.take (j + 1)) ≤ 2000003000000) := by
        have h1 := wtM_small (xs.take (j + 1)) (fun x hx => HS.out.2 x (List.mem_of_mem_take hx))
        rw [List.length_take] at h1
        show _ ≤ _
        omega
      have cW : ∀ w, Calls Tryz.prog 117 #[.agg #[.int .i64 xs[j].kind, .string (str xs[j].key), .string (str xs[j].val)]] w fun e w' => e = .returned (.int .i64 (mgW xs[j])) ∧ Step noF w w' := fun w => by
        have := weight_any xs[j] hx.1 hx.2 w
        exact this
      obtain ⟨⟨k, x, y⟩, hm⟩ : ∃ m, xs[j] = m := ⟨_, rfl⟩
      rw [hm] at c0 c1 c2 HT cW
      obtain ⟨q, hq⟩ : ∃ q, mgW ⟨k, x, y⟩ = q := ⟨_, rfl⟩
      rw [hq] at cW HT
      have hqs : n + q ≤ 2000003000000 := by
        have a1 := HN.out
        have a2 := HT.out
        have a3 := HW.out
        omega
      clear hm hx hq
      go_wp2_with fail
      refine (cW _).mono ?_
      rintro e w2 ⟨rfl, s2⟩
      have S2 := hid ((ST.out.alloc _).trans s2)
      clear s2
      go_wp2_with fail
      go_roundw
      case rel => exact ⟨j + 1, n + q, by omega, int_eq (by omega), int_eq (by omega), hqs, by show n + q = _; rw [HT.out, HN.out], S2.out⟩
      case measure => simp [intOf]; omega
    · obtain rfl : j = xs.length := by omega
      go_wp2_with fail
      go_ret
      refine ⟨ret_int ?_, ST.out⟩
      have := HN.out
      rw [List.take_of_length_le (Nat.le_refl _)] at this
      omega
theorem weightB_any (p : Nat) (xs : List Mg) (hS : SmallM xs) (w : World) (h : BuffAt w p xs) : Calls Tryz.prog 32 #[.pointer (some ⟨p, 0, none⟩)] w fun e w' => e = .returned (.int .i64 (wtM xs)) ∧ Step noF w w' := by
  obtain ⟨a, c, h1, h2, h3, h4⟩ := h.cell
  have hc := weigh_any xs hS a c w h4
  clear h h2 h3 h4
  go_enter Tryz.func32, Tryz.ntmps32
  go_wp2_with fail
  refine hc.mono ?_
  rintro e w2 ⟨rfl, s2⟩
  have S2 := hid s2
  go_wp2_with fail
  go_ret
  exact ⟨rfl, S2.out⟩

theorem grown_tri {w : World} {g off j : Nat} {x y z : Value} (h1 : w.cell? ⟨g, off + j * 3, none⟩ = some x) (h2 : w.cell? ⟨g, off + j * 3 + 1, none⟩ = some y) (h3 : w.cell? ⟨g, off + j * 3 + 2, none⟩ = some z) : (∀ n os, (grow (w.drewN n) os).cell? ⟨g, off + j * 3, none⟩ = some x) ∧ (∀ n os, (grow (w.drewN n) os).cell? ⟨g, off + j * 3 + 1, none⟩ = some y) ∧ (∀ n os, (grow (w.drewN n) os).cell? ⟨g, off + j * 3 + 2, none⟩ = some z) :=
  ⟨fun n os => cell_grown (World.block_lt_of_cell? w _ h1) h1 n os, fun n os => cell_grown (World.block_lt_of_cell? w _ h2) h2 n os, fun n os => cell_grown (World.block_lt_of_cell? w _ h3) h3 n os⟩
theorem risingM_at {xs : List Mg} (h : RisingM xs) {i j : Nat} (hj : j < xs.length) (hij : i ≤ j) (k : List UInt8) (hk : xs[j].key < k) : (xs[i]'(by omega)).key < k := by
  rcases Nat.lt_or_eq_of_le hij with e | e
  · exact lt_trans' (List.pairwise_iff_getElem.1 h i j (by omega) hj e) hk
  · subst e; exact hk
theorem findM_there (k : List UInt8) (xs : List Mg) (hR : RisingM xs) (i : Nat) (hi : i < xs.length) (hk : xs[i].key = k) : findM k xs = some xs[i] := by
  have := findM_some hR xs[i] (List.getElem_mem hi)
  rw [hk] at this
  exact this
theorem findM_not (k : List UInt8) (xs : List Mg) (hR : RisingM xs) (i : Nat) (h1 : ∀ t (h : t < xs.length), t < i → xs[t].key < k) (h2 : ∀ t (h : t < xs.length), i ≤ t → ¬ xs[t].key < k) (h : ∀ (hi : i < xs.length), xs[i].key ≠ k) : findM k xs = none := by
  refine findM_none (fun x hx e => ?_)
  obtain ⟨t, ht, rfl⟩ := List.getElem_of_mem hx
  by_cases hti : t < i
  · have := h1 t ht hti
    rw [e] at this
    exact lt_irrefl' this
  · by_cases hte : t = i
    · subst hte; exact h ht e
    · have h3 := List.pairwise_iff_getElem.1 hR i t (by omega) ht (by omega)
      rw [e] at h3
      exact h2 i (by omega) (Nat.le_refl _) h3
/-- Where a key is, or would be; and whether it is there. -/
def BsPostM (k : List UInt8) (xs : List Mg) (e : Ending) : Prop := ∃ i, i ≤ xs.length ∧ ((∃ h : i < xs.length, xs[i].key = k ∧ e = .returned (.tuple #[.int .i64 i, .bool true])) ∨ (findM k xs = none ∧ e = .returned (.tuple #[.int .i64 i, .bool false])))

/-- What Find answers. -/
def findMV (k : List UInt8) (xs : List Mg) : Value := match findM k xs with
  | none => .tuple #[.agg #[.int .i64 0, .string (str []), .string (str [])], .bool false]
  | some m => .tuple #[.agg #[.int .i64 m.kind, .string (str m.key), .string (str m.val)], .bool true]
end Go.Proofs.YtoobelcphcndoaaGreat
