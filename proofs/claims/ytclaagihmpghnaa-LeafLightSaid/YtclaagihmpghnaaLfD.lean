/-
  A leaf in memory; what Len, Weight, Items, Low and Of do.
-/
import Derived.Test.YtclaagihmpghnaaLfC
namespace Go.Proofs.Ytclaagihmpghnaa
open Go.RowKit Go.Sort
set_option linter.unusedVariables false
set_option linter.unusedSimpArgs false

/-- A slice's address: none, or a row in a block that is there. -/
def NilOk (w : World) (a : Option Addr) (c : Nat) : Prop := (a = none → c = 0) ∧ ∀ ad, a = some ad → ∃ g off, ad = ⟨g, off, none⟩ ∧ g < w.heap.size
theorem NilOk.step {w w' : World} {a : Option Addr} {c : Nat} {F : Nat → Prop} (h : NilOk w a c) (hs : Step F w w') : NilOk w' a c := ⟨h.1, fun ad e => by
  obtain ⟨g, off, h1, h2⟩ := h.2 ad e
  exact ⟨g, off, h1, Nat.lt_of_lt_of_le h2 hs.size⟩⟩
/-- A leaf. -/
def LeafAt (w : World) (p : Nat) (xs : List Rg) : Prop := ∃ a c, w.heap[p]? = some (.cells #[.slice a xs.length c] 74 (0, 0)) ∧ xs.length ≤ c ∧ NilOk w a c ∧ RgsAt w a xs
theorem LeafAt.step {w w' : World} {p : Nat} {xs : List Rg} (h : LeafAt w p xs) (hs : Step noF w w') : LeafAt w' p xs := by
  obtain ⟨a, c, h1, h2, h3, h4⟩ := h
  exact ⟨a, c, (hs.block p (lt_of_block h1) (fun x => x)).trans h1, h2, h3.step hs, h4.step hs⟩
theorem LeafAt.lt {w : World} {p : Nat} {xs : List Rg} (h : LeafAt w p xs) : p < w.heap.size := by
  obtain ⟨a, c, h1, _⟩ := h
  exact lt_of_block h1
theorem LeafAt.cell {w : World} {p : Nat} {xs : List Rg} (h : LeafAt w p xs) : ∃ a c, w.cell? ⟨p, 0, none⟩ = some (.slice a xs.length c) ∧ xs.length ≤ c ∧ NilOk w a c ∧ RgsAt w a xs := by
  obtain ⟨a, c, h1, h2⟩ := h
  exact ⟨a, c, by rw [cell_of_block h1]; rfl, h2⟩
theorem owns_none {w : World} {base : Nat} {e : TypeId} {size : Nat} {v : Value} {n : Nat} {xs : List Value} (h : w.ownsRow base e size v n xs) : ∀ a c, v = .slice a n c → a = none → c = 0 := by
  rintro a c rfl rfl
  rcases h.2 with ⟨h, _⟩ | ⟨g, cap, cur, h, _⟩
  · injection h
  · injection h with h
    cases h
/-- A row of items of one's own. -/
theorem owns_rgs {w : World} {base : Nat} {v : Value} {xs : List Rg} {e : TypeId} (h : w.ownsRow base e 2 v xs.length (rgs xs)) : ∃ a c, v = .slice a xs.length c ∧ xs.length ≤ c ∧ NilOk w a c ∧ RgsAt w a xs := by
  obtain ⟨a, c, rfl, h1, h2⟩ := rgsAt_owns (owns_base h (Nat.zero_le _)) rfl
  refine ⟨a, c, rfl, h1, ⟨owns_none h a c rfl, fun ad e => ?_⟩, h2⟩
  subst e
  rcases h.2 with ⟨h, _⟩ | ⟨g, cap, cur, h, _, hg, _⟩
  · injection h with h
    cases h
  · injection h with h
    exact ⟨g, 0, Option.some.inj h, lt_of_block hg⟩

theorem len_any (p : Nat) (xs : List Rg) (w : World) (h : LeafAt w p xs) : Calls Try.prog 15 #[.pointer (some ⟨p, 0, none⟩)] w fun e w' => e = .returned (.int .i64 xs.length) ∧ w = w' := by
  obtain ⟨a, c, h1, h2⟩ := h.cell
  clear h
  go_enter Try.func15, Try.ntmps15
  go_wp2
  go_ret
  exact ⟨rfl, rfl⟩
theorem len_nil (w : World) : Calls Try.prog 15 #[.pointer none] w fun e w' => e = .returned (.int .i64 0) ∧ w = w' := by
  go_enter Try.func15, Try.ntmps15
  go_wp2
  go_ret
  exact ⟨rfl, rfl⟩
theorem weight_nil (w : World) : Calls Try.prog 16 #[.pointer none] w fun e w' => e = .returned (.int .i64 0) ∧ w = w' := by
  go_enter Try.func16, Try.ntmps16
  go_wp2
  go_ret
  exact ⟨rfl, rfl⟩
theorem items_nil (w : World) : Calls Try.prog 14 #[.pointer none] w fun e w' => e = .returned (.slice none 0 0) ∧ w = w' := by
  go_enter Try.func14, Try.ntmps14
  go_wp2
  go_ret
  exact ⟨rfl, rfl⟩
theorem low_nil (w : World) : Calls Try.prog 23 #[.pointer none] w fun e w' => e = .returned (.string (str [])) ∧ w = w' := by
  go_enter Try.func23, Try.ntmps23
  go_wp2_with (go_at_call 15; refine (len_nil _).mono ?_; rintro e w' ⟨rfl, rfl⟩)
  go_ret
  exact ⟨rfl, rfl⟩
/-- The least key. -/
def lowL : List Rg → List UInt8
  | [] => []
  | x :: _ => x.lo
theorem low_any (p : Nat) (xs : List Rg) (w : World) (h : LeafAt w p xs) : Calls Try.prog 23 #[.pointer (some ⟨p, 0, none⟩)] w fun e w' => e = .returned (.string (str (lowL xs))) ∧ w = w' := by
  have hc := len_any p xs w h
  obtain ⟨a, c, h1, h2, h3, h4⟩ := h.cell
  clear h
  cases xs with
  | nil =>
    rw [List.length_nil] at hc h1
    go_enter Try.func23, Try.ntmps23
    go_wp2_with (go_at_call 15; refine hc.mono ?_; rintro e w' ⟨rfl, rfl⟩)
    go_ret
    exact ⟨rfl, rfl⟩
  | cons x xs =>
    obtain ⟨b, off, rfl, c0, _⟩ := h4.at 0 (by simp)
    have e0 : lowL (x :: xs) = x.lo := rfl
    rw [e0]
    rw [List.getElem_cons_zero, Nat.zero_mul, Nat.add_zero] at c0
    have hL0 : 0 < (x :: xs).length := by simp
    obtain ⟨L, hL⟩ : ∃ L, (x :: xs).length = L := ⟨_, rfl⟩
    rw [hL] at hc h1 hL0
    have hne : ((L : Int) == 0) = false := by rw [beq_eq_false_iff_ne]; omega
    have hpos : (0 : Int) < (L : Int) := by omega
    clear h2 h3 h4 hL e0
    go_enter Try.func23, Try.ntmps23
    go_wp2_with (go_at_call 15; refine hc.mono ?_; rintro e w' ⟨rfl, rfl⟩)
    go_ret
    exact ⟨rfl, rfl⟩
theorem items_any (p : Nat) (xs : List Rg) (hl : xs.length ≤ 1000000) (w : World) (h : LeafAt w p xs) : Calls Try.prog 14 #[.pointer (some ⟨p, 0, none⟩)] w fun e w' => ∃ v, e = .returned v ∧ w'.ownsRow w.heap.size 46 2 v xs.length (rgs xs) ∧ Step noF w w' := by
  obtain ⟨a, c, h1, h2, h3, h4⟩ := h.cell
  have hc := cloneIt_any xs hl a c w h4 h3.1
  clear h h2 h3 h4
  go_enter Try.func14, Try.ntmps14
  go_wp2_with (go_at_call 37; refine hc.mono ?_; rintro e w' ⟨v, rfl, ho, hs⟩)
  go_ret
  exact ⟨v, rfl, ho, hs⟩

theorem wtL_take (xs : List Rg) (j : Nat) (hj : j < xs.length) : wtL (xs.take (j + 1)) = wtL (xs.take j) + itW xs[j] := by
  rw [List.take_succ_eq_append_getElem hj, wtL_append, wtL_cons]
  simp [wtL]
/-- Items of no great length. -/
def Small (xs : List Rg) : Prop := xs.length ≤ 1000000 ∧ ∀ x ∈ xs, x.lo.length ≤ 1000000 ∧ x.hi.length ≤ 1000000
theorem wtL_small (xs : List Rg) (h : ∀ x ∈ xs, x.lo.length ≤ 1000000 ∧ x.hi.length ≤ 1000000) : wtL xs ≤ xs.length * 2000002 := by
  induction xs with
  | nil => simp [wtL]
  | cons x xs ih =>
    rw [wtL_cons, List.length_cons]
    have := ih (fun y hy => h y (by simp [hy]))
    have := h x (by simp)
    unfold itW
    omega
set_option maxHeartbeats 1000000 in
theorem weight_anyL (p : Nat) (xs : List Rg) (hS : Small xs) (w : World) (h : LeafAt w p xs) : Calls Try.prog 16 #[.pointer (some ⟨p, 0, none⟩)] w fun e w' => e = .returned (.int .i64 (wtL xs)) ∧ Step noF w w' := by
  obtain ⟨a, c, h1, h2, h3, h4⟩ := h.cell
  have hl := hS.1
  have HR := hid h4
  have HS := hid hS
  have HP := hid h.lt
  clear h h2 h3 h4 hS
  go_enter Try.func16, Try.ntmps16
  go_wp2_with fail
  go_loopw [13, 3] (fun i s wr => ∃ (j n : Nat), j ≤ xs.length ∧ i = .int .i64 j ∧ s = .int .i64 n ∧ n ≤ 2000002000000 ∧ Hid (n = wtL (xs.take j)) ∧ Step noF w wr) (fun i _ _ => xs.length - (intOf i).toNat)
  case atStart => exact ⟨0, 0, Nat.zero_le _, rfl, rfl, by omega, by show (0 : Nat) = _; simp [wtL], Step.refl _ _⟩
  case round =>
    obtain ⟨j, n, hj, rfl, rfl, hn, HN, st⟩ := hrel
    have ST := hid st
    clear st
    by_cases hjl : j < xs.length
    · obtain ⟨g, off, rfl, c0, c1⟩ := (HR.out.step ST.out).at j hjl
      have hx := HS.out.2 xs[j] (List.getElem_mem hjl)
      have HT := hid (wtL_take xs j hjl)
      have HW : Hid (wtL (xs.take (j + 1)) ≤ 2000002000000) := by
        have h1 := wtL_small (xs.take (j + 1)) (fun x hx => HS.out.2 x (List.mem_of_mem_take hx))
        rw [List.length_take] at h1
        show _ ≤ _
        omega
      have cW := weightIt_any xs[j] (by omega)
      obtain ⟨⟨x, y⟩, hm⟩ : ∃ m, xs[j] = m := ⟨_, rfl⟩
      rw [hm] at c0 c1 HT cW
      obtain ⟨q, hq⟩ : ∃ q, itW ⟨x, y⟩ = q := ⟨_, rfl⟩
      rw [hq] at cW HT
      have hqs : n + q ≤ 2000002000000 := by
        have a1 := HN.out
        have a2 := HT.out
        have a3 := HW.out
        omega
      clear hm hx hq
      go_wp2_with fail
      refine (cW _).mono ?_
      rintro e w2 ⟨rfl, s2⟩
      have S2 := hid ((ST.out.alloc _).trans s2)
      clear s2
      go_wp2_with fail
      go_roundw
      case rel => exact ⟨j + 1, n + q, by omega, int_eq (by omega), int_eq (by omega), hqs, by show n + q = _; rw [HT.out, HN.out], S2.out⟩
      case measure => simp [intOf]; omega
    · obtain rfl : j = xs.length := by omega
      go_wp2_with fail
      go_ret
      refine ⟨ret_int ?_, ST.out⟩
      have := HN.out
      rw [List.take_of_length_le (Nat.le_refl _)] at this
      omega
end Go.Proofs.Ytclaagihmpghnaa
