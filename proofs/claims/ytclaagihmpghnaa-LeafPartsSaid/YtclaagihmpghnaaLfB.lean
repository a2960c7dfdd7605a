/-
  The library's functions over rows of items and of messages: which of them can't be, clones.
-/
import Derived.Test.YtclaagihmpghnaaLfA
import Derived.Laws.AppendOwnNone
import Derived.Test.YtclaagihmpghnaaRowIn
namespace Go.Proofs.Ytclaagihmpghnaa
open Go.RowKit Go.Sort
set_option linter.unusedVariables false
set_option linter.unusedSimpArgs false

theorem all_takeM (ms : List Mg) (j : Nat) (hj : j < ms.length) : (ms.take (j + 1)).all Mg.is = ((ms.take j).all Mg.is && ms[j].is) := by
  rw [List.take_succ_eq_append_getElem hj, List.all_append]
  simp
set_option maxHeartbeats 1000000 in
theorem indexMs_any (ms : List Mg) (hms : ∀ m ∈ ms, m.val.length ≤ maxLen) (hl : ms.length ≤ 1000000) (a : Option Addr) (cap : Nat) (w : World) (hr : MsgsAt w noF a ms) :
    Calls Try.prog 72 #[.slice a ms.length cap, .func (.func 45) #[] #[]] w fun e w' => (∃ r : Int, e = .returned (.int .i64 r) ∧ decide (0 ≤ r) = !(ms.all Mg.is)) ∧ Step noF w w' := by
  have HR := hid hr
  have HM := hid hms
  clear hr hms
  go_enter Try.func72, Try.ntmps72
  go_wp2_with fail
  go_loopw [8] (fun i wr => ∃ (j : Nat), j ≤ ms.length ∧ i = .int .i64 j ∧ (ms.take j).all Mg.is = true ∧ Step noF w wr) (fun i _ => ms.length - (intOf i).toNat)
  case atStart => exact ⟨0, Nat.zero_le _, rfl, rfl, Step.refl _ _⟩
  case round =>
    obtain ⟨j, hj, rfl, hall, st⟩ := hrel
    have ST := hid st
    have HA := hid hall
    clear st hall
    by_cases hjl : j < ms.length
    · have hR2 : MsgsAt wr noF a ms := HR.out.step ST.out (fun _ h => h)
      obtain ⟨g, off, rfl, c0, c1, c2⟩ := hR2.at j hjl
      have HI := hid (HM.out ms[j] (List.getElem_mem hjl))
      have HT := hid (all_takeM ms j hjl)
      have HN : Hid (ms[j].is = false → ms.all Mg.is = false) := fun h => by
        rw [List.all_eq_false]
        exact ⟨ms[j], List.getElem_mem hjl, by rw [h]; simp⟩
      obtain ⟨⟨k, x, y⟩, hm⟩ : ∃ m, ms[j] = m := ⟨_, rfl⟩
      rw [hm] at c0 c1 c2 HI HT HN
      clear hm hR2
      have cN := msgIsNot_any ⟨k, x, y⟩ HI.out
      cases hi : (Mg.mk k x y).is
      · rw [hi] at cN HN
        clear hi
        go_wp2_with fail
        refine (cN _).mono ?_
        rintro e w2 ⟨rfl, s2⟩
        have S2 := hid (ST.out.trans s2)
        clear s2
        go_wp2_with fail
        go_ret
        refine ⟨⟨_, rfl, ?_⟩, S2.out⟩
        have hn := HN.out
        first | rw [hn trivial] | rw [hn rfl] | rw [hn]
        simp
      · rw [hi] at cN HT
        clear hi
        go_wp2_with fail
        refine (cN _).mono ?_
        rintro e w2 ⟨rfl, s2⟩
        have S2 := hid (ST.out.trans s2)
        clear s2
        go_wp2_with fail
        go_roundw
        case rel => exact ⟨j + 1, by omega, int_eq (by omega), by rw [HT.out, HA.out]; rfl, S2.out⟩
        case measure => simp [intOf]; omega
    · obtain rfl : j = ms.length := by omega
      go_wp2_with fail
      go_ret
      refine ⟨⟨_, rfl, ?_⟩, ST.out⟩
      have := HA.out
      rw [List.take_of_length_le (Nat.le_refl _)] at this
      rw [this]
      rfl
theorem containsMs_any (ms : List Mg) (hms : ∀ m ∈ ms, m.val.length ≤ maxLen) (hl : ms.length ≤ 1000000) (a : Option Addr) (cap : Nat) (w : World) (hr : MsgsAt w noF a ms) :
    Calls Try.prog 44 #[.slice a ms.length cap, .func (.func 45) #[] #[]] w fun e w' => e = .returned (.bool !(ms.all Mg.is)) ∧ Step noF w w' := by
  have c := indexMs_any ms hms hl a cap w hr
  obtain ⟨A, hA⟩ : ∃ A, ms.all Mg.is = A := ⟨_, rfl⟩
  rw [hA] at c ⊢
  go_enter Try.func44, Try.ntmps44
  go_wp2_with fail
  refine c.mono ?_
  rintro e w2 ⟨⟨r, rfl, hr2⟩, s2⟩
  have HR2 := hid hr2
  clear hr2
  go_wp2_with fail
  go_ret
  exact ⟨ret_bool (by rw [← HR2.out]), s2⟩
theorem all_takeI (ms : List Rg) (j : Nat) (hj : j < ms.length) : (ms.take (j + 1)).all itOk = ((ms.take j).all itOk && itOk ms[j]) := by
  rw [List.take_succ_eq_append_getElem hj, List.all_append]
  simp
set_option maxHeartbeats 1000000 in
theorem indexIt_any (ms : List Rg) (hl : ms.length ≤ 1000000) (a : Option Addr) (cap : Nat) (w : World) (hr : RgsAt w a ms) :
    Calls Try.prog 67 #[.slice a ms.length cap, .func (.func 36) #[] #[]] w fun e w' => (∃ r : Int, e = .returned (.int .i64 r) ∧ decide (0 ≤ r) = !(ms.all itOk)) ∧ Step noF w w' := by
  have HR := hid hr
  clear hr
  go_enter Try.func67, Try.ntmps67
  go_wp2_with fail
  go_loopw [8] (fun i wr => ∃ (j : Nat), j ≤ ms.length ∧ i = .int .i64 j ∧ (ms.take j).all itOk = true ∧ Step noF w wr) (fun i _ => ms.length - (intOf i).toNat)
  case atStart => exact ⟨0, Nat.zero_le _, rfl, rfl, Step.refl _ _⟩
  case round =>
    obtain ⟨j, hj, rfl, hall, st⟩ := hrel
    have ST := hid st
    have HA := hid hall
    clear st hall
    by_cases hjl : j < ms.length
    · have hR2 : RgsAt wr a ms := HR.out.step ST.out
      obtain ⟨g, off, rfl, c0, c1⟩ := hR2.at j hjl
      have HT := hid (all_takeI ms j hjl)
      have HN : Hid (itOk ms[j] = false → ms.all itOk = false) := fun h => by
        rw [List.all_eq_false]
        exact ⟨ms[j], List.getElem_mem hjl, by rw [h]; simp⟩
      obtain ⟨⟨x, y⟩, hm⟩ : ∃ m, ms[j] = m := ⟨_, rfl⟩
      rw [hm] at c0 c1 HT HN
      clear hm hR2
      have cN := itemIsNot_any ⟨x, y⟩
      cases hi : itOk (Rg.mk x y)
      · rw [hi] at cN HN
        clear hi
        go_wp2_with fail
        refine (cN _).mono ?_
        rintro e w2 ⟨rfl, s2⟩
        have S2 := hid (ST.out.trans s2)
        clear s2
        go_wp2_with fail
        go_ret
        refine ⟨⟨_, rfl, ?_⟩, S2.out⟩
        have hn := HN.out
        first | rw [hn trivial] | rw [hn rfl] | rw [hn]
        simp
      · rw [hi] at cN HT
        clear hi
        go_wp2_with fail
        refine (cN _).mono ?_
        rintro e w2 ⟨rfl, s2⟩
        have S2 := hid (ST.out.trans s2)
        clear s2
        go_wp2_with fail
        go_roundw
        case rel => exact ⟨j + 1, by omega, int_eq (by omega), by rw [HT.out, HA.out]; rfl, S2.out⟩
        case measure => simp [intOf]; omega
    · obtain rfl : j = ms.length := by omega
      go_wp2_with fail
      go_ret
      refine ⟨⟨_, rfl, ?_⟩, ST.out⟩
      have := HA.out
      rw [List.take_of_length_le (Nat.le_refl _)] at this
      rw [this]
      rfl
theorem containsIt_any (ms : List Rg) (hl : ms.length ≤ 1000000) (a : Option Addr) (cap : Nat) (w : World) (hr : RgsAt w a ms) :
    Calls Try.prog 35 #[.slice a ms.length cap, .func (.func 36) #[] #[]] w fun e w' => e = .returned (.bool !(ms.all itOk)) ∧ Step noF w w' := by
  have c := indexIt_any ms hl a cap w hr
  obtain ⟨A, hA⟩ : ∃ A, ms.all itOk = A := ⟨_, rfl⟩
  rw [hA] at c ⊢
  go_enter Try.func35, Try.ntmps35
  go_wp2_with fail
  refine c.mono ?_
  rintro e w2 ⟨⟨r, rfl, hr2⟩, s2⟩
  have HR2 := hid hr2
  clear hr2
  go_wp2_with fail
  go_ret
  exact ⟨ret_bool (by rw [← HR2.out]), s2⟩

theorem infoIt0 : (Try.prog.info? 46).map (fun i => (i.zero, i.size, i.bytes)) = some (some (.agg #[.string (str []), .string (str [])]), 2, 32) := by kernel_rfl
theorem infoMs0 : (Try.prog.info? 58).map (fun i => (i.zero, i.size, i.bytes)) = some (some (.agg #[.int .i64 0, .string (str []), .string (str [])]), 3, 40) := by kernel_rfl
theorem info_threeL {i : Option TypeInfo} {z : Option Value} {a b : Nat} (h : i.map (fun i => (i.zero, i.size, i.bytes)) = some (z, a, b)) : ∃ j, i = some j ∧ j.zero = z ∧ j.size = a ∧ j.bytes = b := by
  obtain ⟨j, rfl, h⟩ := Option.map_eq_some_iff.1 h
  simp at h
  exact ⟨j, rfl, h.1, h.2.1, h.2.2⟩
theorem info_it : ∃ i, Try.prog.info? 46 = some i ∧ i.zero = some (.agg #[.string (str []), .string (str [])]) ∧ i.size = 2 ∧ i.bytes = 32 := info_threeL infoIt0
theorem info_ms : ∃ i, Try.prog.info? 58 = some i ∧ i.zero = some (.agg #[.int .i64 0, .string (str []), .string (str [])]) ∧ i.size = 3 ∧ i.bytes = 40 := info_threeL infoMs0

set_option maxHeartbeats 1000000 in
/-- slices.Clone. -/
theorem cloneIt_any (xs : List Rg) (hl : xs.length ≤ 1000000) (a : Option Addr) (c : Nat) (w : World) (h : RgsAt w a xs) (hc : a = none → c = 0) :
    Calls Try.prog 37 #[.slice a xs.length c] w fun e w' => ∃ v, e = .returned v ∧ w'.ownsRow w.heap.size 46 2 v xs.length (rgs xs) ∧ Step noF w w' := by
  obtain ⟨i0, hi, hz0, hz1, hz2⟩ := info_it
  cases a with
  | none =>
    obtain rfl : xs = [] := by
      rcases h with h | ⟨b, off, h, _⟩
      · exact h
      · cases h
    obtain rfl := hc rfl
    have hq : ∀ (w : World), (binOp .eql 22 (.slice none 0 0) (.slice none 0 0)).run Try.prog w = .ok (.bool true) w := fun w => Lib.run_eql_slice_nil w _ _ none 0 0 0 0 Try.underlying22
    rw [List.length_nil]
    go_enter Try.func37, Try.ntmps37
    go_wp2
    go_ret
    exact ⟨_, rfl, World.ownsRow_nil w _ _ _, Step.refl _ _⟩
  | some ad =>
    have hq : ∀ (w : World), (binOp .eql 22 (.slice (some ad) xs.length c) (.slice none 0 0)).run Try.prog w = .ok (.bool false) w := fun w => Lib.run_eql_slice_nil w _ _ (some ad) xs.length c 0 0 Try.underlying22
    have hn : ∀ o, ∀ j u, (rgs xs)[j]? = some u → (w.alloc o).cell? (Addr.add ad j) = some u := fun o j u hj => by
      rcases h with rfl | ⟨b, off, h1, h2⟩
      · simp [rgs, msgs] at hj
      · obtain rfl : ad = ⟨b, off, none⟩ := Option.some.inj h1
        have hcell := rgsAt_cells h2.2 j u hj
        rw [Addr.add_lit] at hcell ⊢
        exact cell_alloc hcell o
    go_enter Try.func37, Try.ntmps37
    go_wp2_with (at_builtin; refine wpList_append_own _ rfl _ _ 22 rfl w.heap.size 46 i0 (.agg #[.string (str []), .string (str [])]) 2 32 Try.underlying22 hi hz0 hz1 hz2 rfl (by decide) _ _ _ rfl (World.ownsRow_made w #[] 0 (Nat.le_refl _) (Nat.zero_le _) rfl) ad xs.length c (rgs xs) rfl (rgs_length xs) (hn _) (rgs_one xs) (le_max (by omega)) (by omega) (by simp) ?_)
    intro v' w1 hown hgrow hnil
    go_wp2
    go_ret
    exact ⟨_, rfl, hown, Step.ofBelow (((Below.refl _ w).alloc (Nat.le_refl _) _).grown hgrow (by simp) (by intro k hk; simp [Value.ownBlock] at hk; omega))⟩

set_option maxHeartbeats 1000000 in
/-- slices.Clone. -/
theorem cloneMs_any (xs : List Mg) (hl : xs.length ≤ 1000000) (a : Option Addr) (c : Nat) (w : World) (h : MsgsAt w noF a xs) (hc : a = none → c = 0) :
    Calls Try.prog 46 #[.slice a xs.length c] w fun e w' => ∃ v, e = .returned v ∧ w'.ownsRow w.heap.size 58 3 v xs.length (msgs xs) ∧ Step noF w w' := by
  obtain ⟨i0, hi, hz0, hz1, hz2⟩ := info_ms
  cases a with
  | none =>
    obtain rfl : xs = [] := by
      rcases h with h | ⟨b, off, h, _⟩
      · exact h
      · cases h
    obtain rfl := hc rfl
    have hq : ∀ (w : World), (binOp .eql 23 (.slice none 0 0) (.slice none 0 0)).run Try.prog w = .ok (.bool true) w := fun w => Lib.run_eql_slice_nil w _ _ none 0 0 0 0 Try.underlying23
    rw [List.length_nil]
    go_enter Try.func46, Try.ntmps46
    go_wp2
    go_ret
    exact ⟨_, rfl, World.ownsRow_nil w _ _ _, Step.refl _ _⟩
  | some ad =>
    have hq : ∀ (w : World), (binOp .eql 23 (.slice (some ad) xs.length c) (.slice none 0 0)).run Try.prog w = .ok (.bool false) w := fun w => Lib.run_eql_slice_nil w _ _ (some ad) xs.length c 0 0 Try.underlying23
    have hn : ∀ o, ∀ j u, (msgs xs)[j]? = some u → (w.alloc o).cell? (Addr.add ad j) = some u := fun o j u hj => by
      rcases h with rfl | ⟨b, off, h1, h2⟩
      · simp [rgs, msgs] at hj
      · obtain rfl : ad = ⟨b, off, none⟩ := Option.some.inj h1
        have hcell := msgsAt_cells h2.2.2 j u hj
        rw [Addr.add_lit] at hcell ⊢
        exact cell_alloc hcell o
    go_enter Try.func46, Try.ntmps46
    go_wp2_with (at_builtin; refine wpList_append_own _ rfl _ _ 23 rfl w.heap.size 58 i0 (.agg #[.int .i64 0, .string (str []), .string (str [])]) 3 40 Try.underlying23 hi hz0 hz1 hz2 rfl (by decide) _ _ _ rfl (World.ownsRow_made w #[] 0 (Nat.le_refl _) (Nat.zero_le _) rfl) ad xs.length c (msgs xs) rfl (msgs_length xs) (hn _) (msgs_one xs) (le_max (by omega)) (by omega) (by simp) ?_)
    intro v' w1 hown hgrow hnil
    go_wp2
    go_ret
    exact ⟨_, rfl, hown, Step.ofBelow (((Below.refl _ w).alloc (Nat.le_refl _) _).grown hgrow (by simp) (by intro k hk; simp [Value.ownBlock] at hk; omega))⟩

/-- append of a row of items, nil or not, onto a row of one's own. -/
theorem wpList_append_it {w : World} {ops : Array Oper} {rest : List Oper} {o : Oper} {a : Act} {Q : Exit → Act → World → Prop} (hgd : o.guard = none) (s x : Operand)
    (ho : o.op = .call { callee := .builtin .append, args := #[s, x], argTypes := #[22, 22] })
    (base : Nat) (v : Value) (xs : List Rg) (hs : a.eval s = v) (hown : w.ownsRow base 46 2 v xs.length (rgs xs))
    (ad : Option Addr) (c : Nat) (ys : List Rg) (hx : a.eval x = .slice ad ys.length c) (hr : RgsAt w ad ys) (hc : ad = none → c = 0)
    (hl : xs.length + ys.length ≤ 1000000000) (hbase : base ≤ w.heap.size)
    (h : ∀ v' w', w'.ownsRow base 46 2 v' (xs ++ ys).length (rgs (xs ++ ys)) → w.grownBy w' v.ownBlock → wpList Try.prog ops Q rest (a.put o.dst v') w') : wpList Try.prog ops Q (o :: rest) a w := by
  obtain ⟨i0, hi, hz0, hz1, hz2⟩ := info_it
  cases ad with
  | none =>
    obtain rfl : ys = [] := by
      rcases hr with h | ⟨b, off, h, _⟩
      · exact h
      · cases h
    obtain rfl := hc rfl
    refine wpList_append_own_none hgd s x _ ho base 46 i0 2 Try.underlying22 hi v _ _ hs hown hx ?_
    have := h v w (by rw [List.append_nil]; exact hown) ⟨rfl, rfl, rfl, Nat.le_refl _, fun _ _ _ => rfl⟩
    exact this
  | some ad =>
    have hn : ∀ j u, (rgs ys)[j]? = some u → w.cell? (Addr.add ad j) = some u := fun j u hj => by
      rcases hr with rfl | ⟨b, off, h1, h2⟩
      · simp [rgs] at hj
      · obtain rfl : ad = ⟨b, off, none⟩ := Option.some.inj h1
        exact rgsAt_cells h2.2 j u hj
    refine wpList_append_own w hgd s x _ ho base 46 i0 _ 2 32 Try.underlying22 hi hz0 hz1 hz2 rfl (by decide) v _ _ hs hown ad ys.length c (rgs ys) hx (rgs_length ys) hn (rgs_one ys) (le_max (by omega)) (by omega) hbase ?_
    intro v' w' h1 h2 h3
    refine h v' w' ?_ h2
    rw [List.length_append, rgs_append]
    exact h1

theorem owns_weak {w : World} {base b2 : Nat} {e : TypeId} {size : Nat} {v : Value} {n : Nat} {xs : List Value} (h : w.ownsRow base e size v n xs) (hb : b2 ≤ base) : w.ownsRow b2 e size v n xs := owns_base h hb
theorem two_new (w : World) (x y : Value) (t : TypeId) : (w.alloc (.cells #[x, y] t)).cell? ⟨w.heap.size, 0, none⟩ = some x ∧ (w.alloc (.cells #[x, y] t)).cell? ⟨w.heap.size, 1, none⟩ = some y := by
  constructor <;> rw [cell_of_block (block_alloc_new w _)] <;> rfl
/-- A slice's address: none, or a row in a block that is there. -/
def NilOk (w : World) (a : Option Addr) (c : Nat) : Prop := (a = none → c = 0) ∧ ∀ ad, a = some ad → ∃ g off, ad = ⟨g, off, none⟩ ∧ g < w.heap.size
theorem NilOk.step {w w' : World} {a : Option Addr} {c : Nat} {F : Nat → Prop} (h : NilOk w a c) (hs : Step F w w') : NilOk w' a c := ⟨h.1, fun ad e => by
  obtain ⟨g, off, h1, h2⟩ := h.2 ad e
  exact ⟨g, off, h1, Nat.lt_of_lt_of_le h2 hs.size⟩⟩
theorem owns_none {w : World} {base : Nat} {e : TypeId} {size : Nat} {v : Value} {n : Nat} {xs : List Value} (h : w.ownsRow base e size v n xs) : ∀ a c, v = .slice a n c → a = none → c = 0 := by
  rintro a c rfl rfl
  rcases h.2 with ⟨h, _⟩ | ⟨g, cap, cur, h, _⟩
  · injection h
  · injection h with h
    cases h
/-- A row of items of one's own. -/
theorem owns_rgs {w : World} {base : Nat} {v : Value} {xs : List Rg} {e : TypeId} (h : w.ownsRow base e 2 v xs.length (rgs xs)) : ∃ a c, v = .slice a xs.length c ∧ xs.length ≤ c ∧ NilOk w a c ∧ RgsAt w a xs := by
  obtain ⟨a, c, rfl, h1, h2⟩ := rgsAt_owns (owns_base h (Nat.zero_le _)) rfl
  refine ⟨a, c, rfl, h1, ⟨owns_none h a c rfl, fun ad e => ?_⟩, h2⟩
  subst e
  rcases h.2 with ⟨h, _⟩ | ⟨g, cap, cur, h, _, hg, _⟩
  · injection h with h
    cases h
  · injection h with h
    exact ⟨g, 0, Option.some.inj h, lt_of_block hg⟩
end Go.Proofs.Ytclaagihmpghnaa
