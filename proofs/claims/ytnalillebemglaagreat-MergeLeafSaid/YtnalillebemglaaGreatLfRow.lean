/-
  Rows of structs in memory, between two ways to say it: what append owns, and what the shelf's sorts hold. Nothing of the program is named here.
  What the small functions of package leaf (and of key, at items) do.
  The library's functions over rows of items and of messages: which of them can't be, clones.
-/
import Derived.Shelf.SlSortCmp.KitK
import Derived.Laws.AppendOwn
import Derived.Test.YtnalillebemglaaGreatKeyRow
import Derived.Test.YtnalillebemglaaGreatKeyJ
import Derived.Test.YtnalillebemglaaGreatLeafM
import Derived.Test.YtnalillebemglaaGreatMsgA
import Derived.Laws.Cover1
import Derived.Laws.AppendOwnNone
import Derived.Test.YtnalillebemglaaGreatRowIn
namespace Go.Proofs.YtnalillebemglaaGreat
open Go.Shelf Go.RowKit Go.Lib Go.Sort
set_option linter.unusedVariables false
set_option linter.unusedSimpArgs false

/-- An item's cells. -/
def encI (x : Rg) : List Value := [.string (str x.lo), .string (str x.hi)]
/-- A message's cells. -/
def encM (m : Mg) : List Value := [.int .i64 m.kind, .string (str m.key), .string (str m.val)]
def msgs (ms : List Mg) : List Value := ms.flatMap encM
theorem rgs_enc (xs : List Rg) : rgs xs = xs.flatMap encI := rfl
theorem msgs_length (ms : List Mg) : (msgs ms).length = ms.length * 3 := by
  induction ms with
  | nil => rfl
  | cons m ms ih => simp only [msgs, List.flatMap_cons, List.length_append, encM, List.length_cons, List.length_nil] at ih ⊢; omega
theorem rgs_one (xs : List Rg) : ∀ u ∈ rgs xs, u.oneCell' = true := by
  intro u hu
  simp only [rgs, List.mem_flatMap, List.mem_cons, List.not_mem_nil, or_false] at hu
  obtain ⟨x, _, rfl | rfl⟩ := hu <;> rfl
theorem msgs_one (ms : List Mg) : ∀ u ∈ msgs ms, u.oneCell' = true := by
  intro u hu
  simp only [msgs, encM, List.mem_flatMap, List.mem_cons, List.not_mem_nil, or_false] at hu
  obtain ⟨x, _, rfl | rfl | rfl⟩ := hu <;> rfl

section
variable {α : Type} (enc : α → List Value) (k : Nat)
theorem flat_length (hk : ∀ x, (enc x).length = k) (xs : List α) : (xs.flatMap enc).length = xs.length * k := by
  induction xs with
  | nil => simp
  | cons x xs ih => rw [List.flatMap_cons, List.length_append, hk, ih, List.length_cons, Nat.add_mul]; omega
theorem flat_at (hk : ∀ x, (enc x).length = k) (h0 : 0 < k) : ∀ (xs : List α) (t : Nat), (xs.flatMap enc)[t]? = (xs[t / k]?).bind (fun x => (enc x)[t % k]?)
  | [], t => by simp
  | x :: xs, t => by
    rw [List.flatMap_cons]
    by_cases h : t < k
    · rw [List.getElem?_append_left (by rw [hk]; exact h), Nat.div_eq_of_lt h, Nat.mod_eq_of_lt h]
      simp
    · rw [List.getElem?_append_right (by rw [hk]; omega), hk, flat_at hk h0 xs (t - k)]
      have e1 : t / k = (t - k) / k + 1 := by
        rw [← Nat.add_div_right _ h0]
        congr 1
        omega
      have e2 : (t - k) % k = t % k := by
        conv => rhs; rw [show t = t - k + k by omega, Nat.add_mod_right]
      rw [e1, e2]
      simp
variable [Inhabited α]
theorem flatK_list (hk : ∀ x, (enc x).length = k) (h0 : 0 < k) (d : Array α) : (flatK enc k d).toList = d.toList.flatMap enc := by
  apply List.ext_getElem?
  intro t
  rw [flat_at enc k hk h0]
  by_cases h : t < d.size * k
  · have h1 : t / k < d.size := (Nat.div_lt_iff_lt_mul h0).2 h
    have h2 : t % k < k := Nat.mod_lt _ h0
    have e := get_flatK enc k d t h
    rw [getElem!_pos (flatK enc k d) t (by simpa using h)] at e
    rw [Array.getElem?_toList, Array.getElem?_eq_getElem (by simpa using h), e]
    have hl : (enc d[t / k]!).length = k := hk _
    rw [getElem!_pos (enc d[t / k]!) (t % k) (by omega)]
    simp only [Array.getElem?_toList, Array.getElem?_eq_getElem h1, Option.bind_some]
    rw [List.getElem?_eq_getElem (by rw [hk]; exact h2)]
    congr 1
    congr 1
    rw [getElem!_pos d (t / k) h1]
  · have h1 : d.size ≤ t / k := (Nat.le_div_iff_mul_le h0).2 (by omega)
    rw [List.getElem?_eq_none (by simp; omega), List.getElem?_eq_none (by simpa using h1)]
    rfl
theorem holdsK_block (hk : ∀ x, (enc x).length = k) (h0 : 0 < k) {w : World} {g : Nat} {cur : Array Value} {e : TypeId} {xs : List α} (hb : w.heap[g]? = some (.cells cur e (0, 0))) (ht : cur.toList.take (xs.length * k) = xs.flatMap enc) : HoldsK enc k w g 0 xs.toArray := by
  intro j hj
  have hj' : j < xs.length * k := by simpa using hj
  refine ⟨?_, by simp [World.frozen?, hb]⟩
  have h1 : (cur.toList.take (xs.length * k))[j]? = (xs.flatMap enc)[j]? := by rw [ht]
  rw [List.getElem?_take_of_lt hj'] at h1
  have h2 := flatK_list enc k hk h0 xs.toArray
  rw [show xs.toArray.toList = xs from rfl] at h2
  simp only [World.cell?, hb, Nat.zero_add]
  simp only [Option.isSome_none, Bool.false_eq_true, if_false]
  rw [← Array.getElem?_toList, h1, ← h2, Array.getElem?_toList, getElem!_pos (flatK enc k xs.toArray) j hj, Array.getElem?_eq_getElem hj]
  rfl
theorem swk_block (hk : ∀ x, (enc x).length = k) (h0 : 0 < k) {w w' : World} {g : Nat} {cur : Array Value} {e : TypeId} {d : Array α} (hb : w.heap[g]? = some (.cells cur e (0, 0))) (hs : d.size * k ≤ cur.size) (S : SWK enc k w g 0 d w') :
    ∃ cur', w'.heap[g]? = some (.cells cur' e (0, 0)) ∧ cur'.size = cur.size ∧ cur'.toList.take (d.size * k) = d.toList.flatMap enc := by
  obtain ⟨n, os, rfl⟩ := S
  have hg : g < w.heap.size := (Array.getElem?_eq_some_iff.1 hb).1
  refine ⟨putCells id 0 (flatK enc k d) cur, ?_, by simp [putCells], ?_⟩
  · unfold sortWorldK putRowK
    rw [heap_grow_old _ _ (by simpa using hg)]
    simp [putRow, mapBlock, Sort.ahead, Array.getElem?_modify, hb, onCells]
  · rw [← flatK_list enc k hk h0 d]
    apply List.ext_getElem?
    intro j
    by_cases hj : j < d.size * k
    · rw [List.getElem?_take_of_lt hj, Array.getElem?_toList, Array.getElem?_toList]
      simp [putCells, hj, show j < cur.size by omega]
    · rw [List.getElem?_take_eq_none (by omega), List.getElem?_eq_none (by simp; omega)]
theorem swk_step {w w' : World} {g : Nat} {d : Array α} (S : SWK enc k w g 0 d w') : Step (oneF g) w w' := by
  obtain ⟨n, os, rfl⟩ := S
  refine ⟨rfl, rfl, rfl, by unfold sortWorldK; rw [size_grow, size_putRowK]; exact Nat.le_add_right _ _, fun j hj hne => ?_⟩
  unfold sortWorldK putRowK
  rw [heap_grow_old _ _ (by simpa using hj)]
  have : g ≠ j := fun e => hne e.symm
  simp [putRow, mapBlock, Sort.ahead, Array.getElem?_modify, this]
end
theorem step_grow (w : World) (q : Nat) (os : Array Obj) : Step noF w (grow (w.drewN q) os) := by
  refine ⟨rfl, rfl, rfl, by rw [size_grow]; exact Nat.le_add_right _ _, fun j hj _ => ?_⟩
  rw [heap_grow_old _ _ (by exact hj)]
  rfl
/-- Cells of a row of items, as append asks for them. -/
theorem rgsAt_cells {w : World} {b off : Nat} {xs : List Rg} (h : ∀ j (h : j < xs.length), w.cell? ⟨b, off + j * 2, none⟩ = some (.string (str xs[j].lo)) ∧ w.cell? ⟨b, off + j * 2 + 1, none⟩ = some (.string (str xs[j].hi))) : ∀ j u, (rgs xs)[j]? = some u → w.cell? (Addr.add ⟨b, off, none⟩ j) = some u := by
  intro j u hu
  rw [Addr.add_lit]
  have hj : j < xs.length * 2 := by
    rcases Nat.lt_or_ge j (xs.length * 2) with h | h
    · exact h
    · rw [List.getElem?_eq_none (by rw [rgs_length]; exact h)] at hu; cases hu
  obtain ⟨h1, h2⟩ := h (j / 2) (by omega)
  obtain ⟨r1, r2⟩ := rgs_at xs (j / 2) (by omega)
  rcases Nat.mod_two_eq_zero_or_one j with e | e
  · rw [show j / 2 * 2 = j by omega] at h1 r1
    rw [h1, ← r1, hu]
  · rw [show off + j / 2 * 2 + 1 = off + j by omega] at h2
    rw [show j / 2 * 2 + 1 = j by omega] at r2
    rw [h2, ← r2, hu]
theorem msgsAt_cells {w : World} {b off : Nat} {ms : List Mg} (h : ∀ j (h : j < ms.length), w.cell? ⟨b, off + j * 3, none⟩ = some (.int .i64 ms[j].kind) ∧ w.cell? ⟨b, off + j * 3 + 1, none⟩ = some (.string (str ms[j].key)) ∧ w.cell? ⟨b, off + j * 3 + 2, none⟩ = some (.string (str ms[j].val))) : ∀ j u, (msgs ms)[j]? = some u → w.cell? (Addr.add ⟨b, off, none⟩ j) = some u := by
  intro j u hu
  rw [Addr.add_lit]
  have hj : j < ms.length * 3 := by
    rcases Nat.lt_or_ge j (ms.length * 3) with h | h
    · exact h
    · rw [List.getElem?_eq_none (by rw [msgs_length]; exact h)] at hu; cases hu
  obtain ⟨h1, h2, h3⟩ := h (j / 3) (by omega)
  unfold msgs at hu
  rw [flat_at encM 3 (fun _ => rfl) (by omega), List.getElem?_eq_getElem (show j / 3 < ms.length by omega)] at hu
  simp only [Option.bind_some, encM] at hu
  have hm : j % 3 = 0 ∨ j % 3 = 1 ∨ j % 3 = 2 := by omega
  rcases hm with e | e | e
  · rw [show off + j / 3 * 3 = off + j by omega] at h1
    rw [e] at hu
    rw [h1, ← hu]; rfl
  · rw [show off + j / 3 * 3 + 1 = off + j by omega] at h2
    rw [e] at hu
    rw [h2, ← hu]; rfl
  · rw [show off + j / 3 * 3 + 2 = off + j by omega] at h3
    rw [e] at hu
    rw [h3, ← hu]; rfl
/-- A row of messages that is owned. -/
theorem msgsAt_owns {w : World} {e : TypeId} {v : Value} {n base : Nat} {ms : List Mg} (h : w.ownsRow base e 3 v n (msgs ms)) (hn : n = ms.length) : ∃ a c, v = .slice a n c ∧ n ≤ c ∧ MsgsAt w noF a ms := by
  subst hn
  rcases h.2 with ⟨rfl, h0⟩ | ⟨g, cap, cur, rfl, _, hg, hnc, _, _, ht⟩
  · exact ⟨none, 0, by rw [h0], by omega, .inl (List.eq_nil_of_length_eq_zero h0)⟩
  · refine ⟨some ⟨g, 0, none⟩, cap, rfl, hnc, .inr ⟨g, 0, rfl, fun h => h, lt_of_block hg, fun j hj => ?_⟩⟩
    have hc : ∀ q, q < 3 → w.cell? ⟨g, 0 + j * 3 + q, none⟩ = (encM ms[j])[q]? := fun q hq => by
      rw [cell_of_block hg, ← Array.getElem?_toList, ← List.getElem?_take_of_lt (show 0 + j * 3 + q < ms.length * 3 by omega), ht]
      unfold msgs
      rw [flat_at encM 3 (fun _ => rfl) (by omega), show (0 + j * 3 + q) / 3 = j by omega, show (0 + j * 3 + q) % 3 = q by omega, List.getElem?_eq_getElem hj]
      rfl
    exact ⟨by simpa [encM] using hc 0 (by omega), by simpa [encM] using hc 1 (by omega), by simpa [encM] using hc 2 (by omega)⟩
theorem owns_of_block {w : World} {base g cap n : Nat} {e : TypeId} {cur : Array Value} {size : Nat} {xs : List Value} (hb : base ≤ g) (hg : w.heap[g]? = some (.cells cur e (0, 0))) (h1 : n ≤ cap) (h2 : cap ≤ maxLen) (h3 : cur.size = cap * size) (h4 : cur.toList.take (n * size) = xs) (hl : xs.length = n * size) : w.ownsRow base e size (.slice (some ⟨g, 0, none⟩) n cap) n xs :=
  ⟨hl, .inr ⟨g, cap, cur, rfl, hb, hg, h1, h2, h3, h4⟩⟩
/-- What is owned stays where another block turns. -/
theorem owns_step {w w' : World} {base : Nat} {e : TypeId} {size : Nat} {v : Value} {n : Nat} {xs : List Value} {F : Nat → Prop} (h : w.ownsRow base e size v n xs) (hs : Step F w w') (hF : ∀ k, v.ownBlock = some k → ¬ F k) : w'.ownsRow base e size v n xs := by
  refine ⟨h.1, ?_⟩
  rcases h.2 with h | ⟨g, cap, cur, rfl, hb, hg, h1, h2, h3, h4⟩
  · exact .inl h
  · exact .inr ⟨g, cap, cur, rfl, hb, (hs.block g (lt_of_block hg) (hF g rfl)).trans hg, h1, h2, h3, h4⟩
end Go.Proofs.YtnalillebemglaaGreat
namespace Go.Proofs.YtnalillebemglaaGreat
open Go.RowKit Go.Sort
set_option linter.unusedVariables false
set_option linter.unusedSimpArgs false

theorem cmpIt_any (x y : Rg) (w : World) : Calls Tryz.prog 36 #[.agg #[.string (str x.lo), .string (str x.hi)], .agg #[.string (str y.lo), .string (str y.hi)]] w fun e w' => e = .returned (.int .i64 (cmpL x.lo y.lo)) ∧ ∃ q os, w' = grow (w.drewN q) os := by
  go_enter Tryz.func36, Tryz.ntmps36
  go_wp2_with (go_at_call 65; refine (cmp_any _ _ _).mono ?_; rintro e w' ⟨rfl, rfl⟩)
  go_ret
  exact ⟨rfl, 0, _, by rw [alloc_eq_grow, alloc_eq_grow, grow_grow]; rfl⟩
theorem cmpMs_any (x y : Mg) (w : World) : Calls Tryz.prog 48 #[.agg #[.int .i64 x.kind, .string (str x.key), .string (str x.val)], .agg #[.int .i64 y.kind, .string (str y.key), .string (str y.val)]] w fun e w' => e = .returned (.int .i64 (cmpL x.key y.key)) ∧ ∃ q os, w' = grow (w.drewN q) os := by
  go_enter Tryz.func48, Tryz.ntmps48
  go_wp2_with (go_at_call 65; refine (cmp_any _ _ _).mono ?_; rintro e w' ⟨rfl, rfl⟩)
  go_ret
  exact ⟨rfl, 0, _, by rw [alloc_eq_grow, alloc_eq_grow, grow_grow]; rfl⟩
theorem itemIsNot_any (x : Rg) (w : World) : Calls Tryz.prog 40 #[.agg #[.string (str x.lo), .string (str x.hi)]] w fun e w' => e = .returned (.bool !itOk x) ∧ Step noF w w' := by
  cases h1 : isK x.lo
  · go_enter Tryz.func40, Tryz.ntmps40
    go_wp2_with (go_at_call 69; refine (is_any _ _).mono ?_; rintro e w' ⟨rfl, rfl⟩)
    go_ret
    exact ⟨ret_bool (by simp [itOk, h1]), (Step.refl _ w).alloc _⟩
  · go_enter Tryz.func40, Tryz.ntmps40
    go_wp2_with (first | (go_at_call 69; refine (is_any _ _).mono ?_; rintro e w' ⟨rfl, rfl⟩) | (go_at_call 70; refine (isVal_any _ _).mono ?_; rintro e w' ⟨rfl, rfl⟩))
    go_ret
    exact ⟨ret_bool (by simp [itOk, h1]), (Step.refl _ w).alloc _⟩
theorem msgIsNot_any (m : Mg) (hm : m.val.length ≤ maxLen) (w : World) : Calls Tryz.prog 45 #[.agg #[.int .i64 m.kind, .string (str m.key), .string (str m.val)]] w fun e w' => e = .returned (.bool !m.is) ∧ Step noF w w' := by
  have cN := mis_any m hm
  have e0 : m.value = .agg #[.int .i64 m.kind, .string (str m.key), .string (str m.val)] := rfl
  rw [e0] at cN
  clear e0
  obtain ⟨A, hA⟩ : ∃ A, m.is = A := ⟨_, rfl⟩
  rw [hA] at cN ⊢
  clear hA
  go_enter Tryz.func45, Tryz.ntmps45
  go_wp2_with (go_at_call 74; refine (cN _).mono ?_; rintro e w2 ⟨rfl, s2⟩)
  go_ret
  exact ⟨ret_bool rfl, ((Step.refl _ w).alloc _).trans s2⟩
end Go.Proofs.YtnalillebemglaaGreat
namespace Go.Proofs.YtnalillebemglaaGreat
open Go.RowKit Go.Sort
set_option linter.unusedVariables false
set_option linter.unusedSimpArgs false

theorem all_takeM (ms : List Mg) (j : Nat) (hj : j < ms.length) : (ms.take (j + 1)).all Mg.is = ((ms.take j).all Mg.is && ms[j].is) := by
  rw [List.take_succ_eq_append_getElem hj, List.all_append]
  simp
set_option maxHeartbeats 1000000 in
theorem indexMs_any (ms : List Mg) (hms : ∀ m ∈ ms, m.val.length ≤ maxLen) (hl : ms.length ≤ 1000000) (a : Option Addr) (cap : Nat) (w : World) (hr : MsgsAt w noF a ms) :
    Calls Tryz.prog 73 #[.slice a ms.length cap, .func (.func 45) #[] #[]] w fun e w' => (∃ r : Int, e = .returned (.int .i64 r) ∧ decide (0 ≤ r) = !(ms.all Mg.is)) ∧ Step noF w w' := by
  have HR := hid hr
  have HM := hid hms
  clear hr hms
  go_enter Tryz.func73, Tryz.ntmps73
  go_wp2_with fail
  go_loopw [8] (fun i wr => ∃ (j : Nat), j ≤ ms.length ∧ i = .int .i64 j ∧ (ms.take j).all Mg.is = true ∧ Step noF w wr) (fun i _ => ms.length - (intOf i).toNat)
  case atStart => exact ⟨0, Nat.zero_le _, rfl, rfl, Step.refl _ _⟩
  case round =>
    obtain ⟨j, hj, rfl, hall, st⟩ := hrel
    have ST := hid st
    have HA := hid hall
    clear st hall
    by_cases hjl : j < ms.length
    · have hR2 : MsgsAt wr noF a ms := HR.out.step ST.out (fun _ h => h)
      obtain ⟨g, off, rfl, c0, c1, c2⟩ := hR2.at j hjl
      have HI := hid (HM.out ms[j] (List.getElem_mem hjl))
      have HT := hid (all_takeM ms j hjl)
      have HN : Hid (ms[j].is = false → ms.all Mg.is = false) := fun h => by
        rw [List.all_eq_false]
        exact ⟨ms[j], List.getElem_mem hjl, by rw [h]; simp⟩
      obtain ⟨⟨k, x, y⟩, hm⟩ : ∃ m, ms[j] = m := ⟨_, rfl⟩
      rw [hm] at c0 c1 c2 HI HT HN
      clear hm hR2
      have cN := msgIsNot_any ⟨k, x, y⟩ HI.out
      cases hi : (Mg.mk k x y).is
      · rw [hi] at cN HN
        clear hi
        go_wp2_with fail
        refine (cN _).mono ?_
        rintro e w2 ⟨rfl, s2⟩
        have S2 := hid (ST.out.trans s2)
        clear s2
        go_wp2_with fail
        go_ret
        refine ⟨⟨_, rfl, ?_⟩, S2.out⟩
        have hn := HN.out
        first | rw [hn trivial] | rw [hn rfl] | rw [hn]
        simp
      · rw [hi] at cN HT
        clear hi
        go_wp2_with fail
        refine (cN _).mono ?_
        rintro e w2 ⟨rfl, s2⟩
        have S2 := hid (ST.out.trans s2)
        clear s2
        go_wp2_with fail
        go_roundw
        case rel => exact ⟨j + 1, by omega, int_eq (by omega), by rw [HT.out, HA.out]; rfl, S2.out⟩
        case measure => simp [intOf]; omega
    · obtain rfl : j = ms.length := by omega
      go_wp2_with fail
      go_ret
      refine ⟨⟨_, rfl, ?_⟩, ST.out⟩
      have := HA.out
      rw [List.take_of_length_le (Nat.le_refl _)] at this
      rw [this]
      rfl
theorem containsMs_any (ms : List Mg) (hms : ∀ m ∈ ms, m.val.length ≤ maxLen) (hl : ms.length ≤ 1000000) (a : Option Addr) (cap : Nat) (w : World) (hr : MsgsAt w noF a ms) :
    Calls Tryz.prog 44 #[.slice a ms.length cap, .func (.func 45) #[] #[]] w fun e w' => e = .returned (.bool !(ms.all Mg.is)) ∧ Step noF w w' := by
  have c := indexMs_any ms hms hl a cap w hr
  obtain ⟨A, hA⟩ : ∃ A, ms.all Mg.is = A := ⟨_, rfl⟩
  rw [hA] at c ⊢
  go_enter Tryz.func44, Tryz.ntmps44
  go_wp2_with fail
  refine c.mono ?_
  rintro e w2 ⟨⟨r, rfl, hr2⟩, s2⟩
  have HR2 := hid hr2
  clear hr2
  go_wp2_with fail
  go_ret
  exact ⟨ret_bool (by rw [← HR2.out]), s2⟩
theorem all_takeI (ms : List Rg) (j : Nat) (hj : j < ms.length) : (ms.take (j + 1)).all itOk = ((ms.take j).all itOk && itOk ms[j]) := by
  rw [List.take_succ_eq_append_getElem hj, List.all_append]
  simp
set_option maxHeartbeats 1000000 in
theorem indexIt_any (ms : List Rg) (hl : ms.length ≤ 1000000) (a : Option Addr) (cap : Nat) (w : World) (hr : RgsAt w a ms) :
    Calls Tryz.prog 68 #[.slice a ms.length cap, .func (.func 40) #[] #[]] w fun e w' => (∃ r : Int, e = .returned (.int .i64 r) ∧ decide (0 ≤ r) = !(ms.all itOk)) ∧ Step noF w w' := by
  have HR := hid hr
  clear hr
  go_enter Tryz.func68, Tryz.ntmps68
  go_wp2_with fail
  go_loopw [8] (fun i wr => ∃ (j : Nat), j ≤ ms.length ∧ i = .int .i64 j ∧ (ms.take j).all itOk = true ∧ Step noF w wr) (fun i _ => ms.length - (intOf i).toNat)
  case atStart => exact ⟨0, Nat.zero_le _, rfl, rfl, Step.refl _ _⟩
  case round =>
    obtain ⟨j, hj, rfl, hall, st⟩ := hrel
    have ST := hid st
    have HA := hid hall
    clear st hall
    by_cases hjl : j < ms.length
    · have hR2 : RgsAt wr a ms := HR.out.step ST.out
      obtain ⟨g, off, rfl, c0, c1⟩ := hR2.at j hjl
      have HT := hid (all_takeI ms j hjl)
      have HN : Hid (itOk ms[j] = false → ms.all itOk = false) := fun h => by
        rw [List.all_eq_false]
        exact ⟨ms[j], List.getElem_mem hjl, by rw [h]; simp⟩
      obtain ⟨⟨x, y⟩, hm⟩ : ∃ m, ms[j] = m := ⟨_, rfl⟩
      rw [hm] at c0 c1 HT HN
      clear hm hR2
      have cN := itemIsNot_any ⟨x, y⟩
      cases hi : itOk (Rg.mk x y)
      · rw [hi] at cN HN
        clear hi
        go_wp2_with fail
        refine (cN _).mono ?_
        rintro e w2 ⟨rfl, s2⟩
        have S2 := hid (ST.out.trans s2)
        clear s2
        go_wp2_with fail
        go_ret
        refine ⟨⟨_, rfl, ?_⟩, S2.out⟩
        have hn := HN.out
        first | rw [hn trivial] | rw [hn rfl] | rw [hn]
        simp
      · rw [hi] at cN HT
        clear hi
        go_wp2_with fail
        refine (cN _).mono ?_
        rintro e w2 ⟨rfl, s2⟩
        have S2 := hid (ST.out.trans s2)
        clear s2
        go_wp2_with fail
        go_roundw
        case rel => exact ⟨j + 1, by omega, int_eq (by omega), by rw [HT.out, HA.out]; rfl, S2.out⟩
        case measure => simp [intOf]; omega
    · obtain rfl : j = ms.length := by omega
      go_wp2_with fail
      go_ret
      refine ⟨⟨_, rfl, ?_⟩, ST.out⟩
      have := HA.out
      rw [List.take_of_length_le (Nat.le_refl _)] at this
      rw [this]
      rfl
theorem containsIt_any (ms : List Rg) (hl : ms.length ≤ 1000000) (a : Option Addr) (cap : Nat) (w : World) (hr : RgsAt w a ms) :
    Calls Tryz.prog 39 #[.slice a ms.length cap, .func (.func 40) #[] #[]] w fun e w' => e = .returned (.bool !(ms.all itOk)) ∧ Step noF w w' := by
  have c := indexIt_any ms hl a cap w hr
  obtain ⟨A, hA⟩ : ∃ A, ms.all itOk = A := ⟨_, rfl⟩
  rw [hA] at c ⊢
  go_enter Tryz.func39, Tryz.ntmps39
  go_wp2_with fail
  refine c.mono ?_
  rintro e w2 ⟨⟨r, rfl, hr2⟩, s2⟩
  have HR2 := hid hr2
  clear hr2
  go_wp2_with fail
  go_ret
  exact ⟨ret_bool (by rw [← HR2.out]), s2⟩

theorem infoIt0 : (Tryz.prog.info? 42).map (fun i => (i.zero, i.size, i.bytes)) = some (some (.agg #[.string (str []), .string (str [])]), 2, 32) := by kernel_rfl
theorem infoMs0 : (Tryz.prog.info? 37).map (fun i => (i.zero, i.size, i.bytes)) = some (some (.agg #[.int .i64 0, .string (str []), .string (str [])]), 3, 40) := by kernel_rfl
theorem info_threeL {i : Option TypeInfo} {z : Option Value} {a b : Nat} (h : i.map (fun i => (i.zero, i.size, i.bytes)) = some (z, a, b)) : ∃ j, i = some j ∧ j.zero = z ∧ j.size = a ∧ j.bytes = b := by
  obtain ⟨j, rfl, h⟩ := Option.map_eq_some_iff.1 h
  simp at h
  exact ⟨j, rfl, h.1, h.2.1, h.2.2⟩
theorem info_it : ∃ i, Tryz.prog.info? 42 = some i ∧ i.zero = some (.agg #[.string (str []), .string (str [])]) ∧ i.size = 2 ∧ i.bytes = 32 := info_threeL infoIt0
theorem info_ms : ∃ i, Tryz.prog.info? 37 = some i ∧ i.zero = some (.agg #[.int .i64 0, .string (str []), .string (str [])]) ∧ i.size = 3 ∧ i.bytes = 40 := info_threeL infoMs0

set_option maxHeartbeats 1000000 in
/-- slices.Clone. -/
theorem cloneIt_any (xs : List Rg) (hl : xs.length ≤ 1000000) (a : Option Addr) (c : Nat) (w : World) (h : RgsAt w a xs) (hc : a = none → c = 0) :
    Calls Tryz.prog 41 #[.slice a xs.length c] w fun e w' => ∃ v, e = .returned v ∧ w'.ownsRow w.heap.size 42 2 v xs.length (rgs xs) ∧ Step noF w w' := by
  obtain ⟨i0, hi, hz0, hz1, hz2⟩ := info_it
  cases a with
  | none =>
    obtain rfl : xs = [] := by
      rcases h with h | ⟨b, off, h, _⟩
      · exact h
      · cases h
    obtain rfl := hc rfl
    have hq : ∀ (w : World), (binOp .eql 40 (.slice none 0 0) (.slice none 0 0)).run Tryz.prog w = .ok (.bool true) w := fun w => Lib.run_eql_slice_nil w _ _ none 0 0 0 0 Tryz.underlying40
    rw [List.length_nil]
    go_enter Tryz.func41, Tryz.ntmps41
    go_wp2
    go_ret
    exact ⟨_, rfl, World.ownsRow_nil w _ _ _, Step.refl _ _⟩
  | some ad =>
    have hq : ∀ (w : World), (binOp .eql 40 (.slice (some ad) xs.length c) (.slice none 0 0)).run Tryz.prog w = .ok (.bool false) w := fun w => Lib.run_eql_slice_nil w _ _ (some ad) xs.length c 0 0 Tryz.underlying40
    have hn : ∀ o, ∀ j u, (rgs xs)[j]? = some u → (w.alloc o).cell? (Addr.add ad j) = some u := fun o j u hj => by
      rcases h with rfl | ⟨b, off, h1, h2⟩
      · simp [rgs, msgs] at hj
      · obtain rfl : ad = ⟨b, off, none⟩ := Option.some.inj h1
        have hcell := rgsAt_cells h2.2 j u hj
        rw [Addr.add_lit] at hcell ⊢
        exact cell_alloc hcell o
    go_enter Tryz.func41, Tryz.ntmps41
    go_wp2_with (at_builtin; refine wpList_append_own _ rfl _ _ 40 rfl w.heap.size 42 i0 (.agg #[.string (str []), .string (str [])]) 2 32 Tryz.underlying40 hi hz0 hz1 hz2 rfl (by decide) _ _ _ rfl (World.ownsRow_made w #[] 0 (Nat.le_refl _) (Nat.zero_le _) rfl) ad xs.length c (rgs xs) rfl (rgs_length xs) (hn _) (rgs_one xs) (le_max (by omega)) (by omega) (by simp) ?_)
    intro v' w1 hown hgrow hnil
    go_wp2
    go_ret
    exact ⟨_, rfl, hown, Step.ofBelow (((Below.refl _ w).alloc (Nat.le_refl _) _).grown hgrow (by simp) (by intro k hk; simp [Value.ownBlock] at hk; omega))⟩

set_option maxHeartbeats 1000000 in
/-- slices.Clone. -/
theorem cloneMs_any (xs : List Mg) (hl : xs.length ≤ 1000000) (a : Option Addr) (c : Nat) (w : World) (h : MsgsAt w noF a xs) (hc : a = none → c = 0) :
    Calls Tryz.prog 46 #[.slice a xs.length c] w fun e w' => ∃ v, e = .returned v ∧ w'.ownsRow w.heap.size 37 3 v xs.length (msgs xs) ∧ Step noF w w' := by
  obtain ⟨i0, hi, hz0, hz1, hz2⟩ := info_ms
  cases a with
  | none =>
    obtain rfl : xs = [] := by
      rcases h with h | ⟨b, off, h, _⟩
      · exact h
      · cases h
    obtain rfl := hc rfl
    have hq : ∀ (w : World), (binOp .eql 29 (.slice none 0 0) (.slice none 0 0)).run Tryz.prog w = .ok (.bool true) w := fun w => Lib.run_eql_slice_nil w _ _ none 0 0 0 0 Tryz.underlying29
    rw [List.length_nil]
    go_enter Tryz.func46, Tryz.ntmps46
    go_wp2
    go_ret
    exact ⟨_, rfl, World.ownsRow_nil w _ _ _, Step.refl _ _⟩
  | some ad =>
    have hq : ∀ (w : World), (binOp .eql 29 (.slice (some ad) xs.length c) (.slice none 0 0)).run Tryz.prog w = .ok (.bool false) w := fun w => Lib.run_eql_slice_nil w _ _ (some ad) xs.length c 0 0 Tryz.underlying29
    have hn : ∀ o, ∀ j u, (msgs xs)[j]? = some u → (w.alloc o).cell? (Addr.add ad j) = some u := fun o j u hj => by
      rcases h with rfl | ⟨b, off, h1, h2⟩
      · simp [rgs, msgs] at hj
      · obtain rfl : ad = ⟨b, off, none⟩ := Option.some.inj h1
        have hcell := msgsAt_cells h2.2.2 j u hj
        rw [Addr.add_lit] at hcell ⊢
        exact cell_alloc hcell o
    go_enter Tryz.func46, Tryz.ntmps46
    go_wp2_with (at_builtin; refine wpList_append_own _ rfl _ _ 29 rfl w.heap.size 37 i0 (.agg #[.int .i64 0, .string (str []), .string (str [])]) 3 40 Tryz.underlying29 hi hz0 hz1 hz2 rfl (by decide) _ _ _ rfl (World.ownsRow_made w #[] 0 (Nat.le_refl _) (Nat.zero_le _) rfl) ad xs.length c (msgs xs) rfl (msgs_length xs) (hn _) (msgs_one xs) (le_max (by omega)) (by omega) (by simp) ?_)
    intro v' w1 hown hgrow hnil
    go_wp2
    go_ret
    exact ⟨_, rfl, hown, Step.ofBelow (((Below.refl _ w).alloc (Nat.le_refl _) _).grown hgrow (by simp) (by intro k hk; simp [Value.ownBlock] at hk; omega))⟩

/-- append of a row of items, nil or not, onto a row of one's own. -/
theorem wpList_append_it {w : World} {ops : Array Oper} {rest : List Oper} {o : Oper} {a : Act} {Q : Exit → Act → World → Prop} (hgd : o.guard = none) (s x : Operand)
    (ho : o.op = .call { callee := .builtin .append, args := #[s, x], argTypes := #[40, 40] })
    (base : Nat) (v : Value) (xs : List Rg) (hs : a.eval s = v) (hown : w.ownsRow base 42 2 v xs.length (rgs xs))
    (ad : Option Addr) (c : Nat) (ys : List Rg) (hx : a.eval x = .slice ad ys.length c) (hr : RgsAt w ad ys) (hc : ad = none → c = 0)
    (hl : xs.length + ys.length ≤ 1000000000) (hbase : base ≤ w.heap.size)
    (h : ∀ v' w', w'.ownsRow base 42 2 v' (xs ++ ys).length (rgs (xs ++ ys)) → w.grownBy w' v.ownBlock → wpList Tryz.prog ops Q rest (a.put o.dst v') w') : wpList Tryz.prog ops Q (o :: rest) a w := by
  obtain ⟨i0, hi, hz0, hz1, hz2⟩ := info_it
  cases ad with
  | none =>
    obtain rfl : ys = [] := by
      rcases hr with h | ⟨b, off, h, _⟩
      · exact h
      · cases h
    obtain rfl := hc rfl
    refine wpList_append_own_none hgd s x _ ho base 42 i0 2 Tryz.underlying40 hi v _ _ hs hown hx ?_
    have := h v w (by rw [List.append_nil]; exact hown) ⟨rfl, rfl, rfl, Nat.le_refl _, fun _ _ _ => rfl⟩
    exact this
  | some ad =>
    have hn : ∀ j u, (rgs ys)[j]? = some u → w.cell? (Addr.add ad j) = some u := fun j u hj => by
      rcases hr with rfl | ⟨b, off, h1, h2⟩
      · simp [rgs] at hj
      · obtain rfl : ad = ⟨b, off, none⟩ := Option.some.inj h1
        exact rgsAt_cells h2.2 j u hj
    refine wpList_append_own w hgd s x _ ho base 42 i0 _ 2 32 Tryz.underlying40 hi hz0 hz1 hz2 rfl (by decide) v _ _ hs hown ad ys.length c (rgs ys) hx (rgs_length ys) hn (rgs_one ys) (le_max (by omega)) (by omega) hbase ?_
    intro v' w' h1 h2 h3
    refine h v' w' ?_ h2
    rw [List.length_append, rgs_append]
    exact h1

theorem owns_weak {w : World} {base b2 : Nat} {e : TypeId} {size : Nat} {v : Value} {n : Nat} {xs : List Value} (h : w.ownsRow base e size v n xs) (hb : b2 ≤ base) : w.ownsRow b2 e size v n xs := owns_base h hb
theorem two_new (w : World) (x y : Value) (t : TypeId) : (w.alloc (.cells #[x, y] t)).cell? ⟨w.heap.size, 0, none⟩ = some x ∧ (w.alloc (.cells #[x, y] t)).cell? ⟨w.heap.size, 1, none⟩ = some y := by
  constructor <;> rw [cell_of_block (block_alloc_new w _)] <;> rfl
/-- A slice's address: none, or a row in a block that is there. -/
def NilOk (w : World) (a : Option Addr) (c : Nat) : Prop := (a = none → c = 0) ∧ ∀ ad, a = some ad → ∃ g off, ad = ⟨g, off, none⟩ ∧ g < w.heap.size
theorem NilOk.step {w w' : World} {a : Option Addr} {c : Nat} {F : Nat → Prop} (h : NilOk w a c) (hs : Step F w w') : NilOk w' a c := ⟨h.1, fun ad e => by
  obtain ⟨g, off, h1, h2⟩ := h.2 ad e
  exact ⟨g, off, h1, Nat.lt_of_lt_of_le h2 hs.size⟩⟩
theorem owns_none {w : World} {base : Nat} {e : TypeId} {size : Nat} {v : Value} {n : Nat} {xs : List Value} (h : w.ownsRow base e size v n xs) : ∀ a c, v = .slice a n c → a = none → c = 0 := by
  rintro a c rfl rfl
  rcases h.2 with ⟨h, _⟩ | ⟨g, cap, cur, h, _⟩
  · injection h
  · injection h with h
    cases h
/-- A row of items of one's own. -/
theorem owns_rgs {w : World} {base : Nat} {v : Value} {xs : List Rg} {e : TypeId} (h : w.ownsRow base e 2 v xs.length (rgs xs)) : ∃ a c, v = .slice a xs.length c ∧ xs.length ≤ c ∧ NilOk w a c ∧ RgsAt w a xs := by
  obtain ⟨a, c, rfl, h1, h2⟩ := rgsAt_owns (owns_base h (Nat.zero_le _)) rfl
  refine ⟨a, c, rfl, h1, ⟨owns_none h a c rfl, fun ad e => ?_⟩, h2⟩
  subst e
  rcases h.2 with ⟨h, _⟩ | ⟨g, cap, cur, h, _, hg, _⟩
  · injection h with h
    cases h
  · injection h with h
    exact ⟨g, 0, Option.some.inj h, lt_of_block hg⟩
end Go.Proofs.YtnalillebemglaaGreat
namespace Go.Proofs.YtnalillebemglaaGreat
open Go.RowKit Go.Sort
set_option linter.unusedVariables false
set_option linter.unusedSimpArgs false
set_option maxRecDepth 20000

/-- A row of items of one's own: its blocks are new since base. -/
def OwnIt (w : World) (base : Nat) (v : Value) (xs : List Rg) : Prop := w.ownsRow base 42 2 v xs.length (rgs xs)
theorem OwnIt.step {w w' : World} {base : Nat} {v : Value} {xs : List Rg} (h : OwnIt w base v xs) (hs : Step noF w w') : OwnIt w' base v xs := owns_step h hs (fun _ _ x => x)
theorem OwnIt.row {w : World} {base : Nat} {v : Value} {xs : List Rg} (h : OwnIt w base v xs) : ∃ a c, v = .slice a xs.length c ∧ xs.length ≤ c ∧ NilOk w a c ∧ RgsAt w a xs := owns_rgs h
theorem OwnIt.empty (w : World) : OwnIt (w.alloc (.cells #[] 42)) w.heap.size (.slice (some ⟨w.heap.size, 0, none⟩) 0 0) [] :=
  ⟨rfl, .inr ⟨w.heap.size, 0, #[], rfl, Nat.le_refl _, block_alloc_new w _, Nat.le_refl _, Nat.zero_le _, rfl, rfl⟩⟩
theorem OwnIt.weak {w : World} {base b2 : Nat} {v : Value} {xs : List Rg} (h : OwnIt w base v xs) (hb : b2 ≤ base) : OwnIt w b2 v xs := owns_base h hb
theorem rg_new (w : World) (x y : List UInt8) : RgsAt (w.alloc (.cells #[.string (str x), .string (str y)] 42)) (some ⟨w.heap.size, 0, none⟩) [⟨x, y⟩] := rgsAt_block (block_alloc_new w _) (rest := []) rfl
theorem OwnIt.after {w0 w w' : World} {base : Nat} {v : Value} {xs : List Rg} (hs : Step noF w0 w) (h : OwnIt w base v xs) (hb : w0.heap.size ≤ base) (hg : w.grownBy w' v.ownBlock) : Step noF w0 w' :=
  hs.grown hg (fun k hk => .inr (Nat.le_trans hb (h.lt k hk).1))
end Go.Proofs.YtnalillebemglaaGreat
