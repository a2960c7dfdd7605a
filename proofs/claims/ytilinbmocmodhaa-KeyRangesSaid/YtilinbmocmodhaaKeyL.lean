/-
  What Sep does.
-/
import Derived.Test.YtilinbmocmodhaaKeyF
import Derived.Test.YtilinbmocmodhaaRowIn
namespace Go.Proofs.Ytilinbmocmodhaa
open Go.RowKit
set_option linter.unusedVariables false
set_option linter.unusedSimpArgs false

theorem take_mono (b : List UInt8) : ∀ i j : Nat, i ≤ j → ¬ b.take j < b.take i := by
  induction b with
  | nil => intro i j _; simp
  | cons x b ih =>
    intro i j h
    cases i with
    | zero => simp
    | succ i =>
      cases j with
      | zero => omega
      | succ j =>
        simp only [List.take_succ_cons]
        rw [List.cons_lt_cons_iff]
        rintro (h1 | ⟨_, h1⟩)
        · exact absurd (UInt8.lt_iff_toNat_lt.1 h1) (by omega)
        · exact ih i j (by omega) h1
def sepN (a b : List UInt8) : Nat := ((List.range b.length).find? fun n => decide (a < b.take n)).getD b.length
def sepL (a b : List UInt8) : Option (List UInt8) := if isK a && isK b && decide (a < b) then some (b.take (sepN a b)) else none
theorem sepN_uniq (a b : List UInt8) (m : Nat) (h1 : ∀ t, t < m → ¬ a < b.take t) (h2 : m < b.length → a < b.take m) (h3 : m ≤ b.length) : sepN a b = m := by
  unfold sepN
  by_cases hm : m < b.length
  · have : (List.range b.length).find? (fun n => decide (a < b.take n)) = some m := by
      rw [List.find?_range_eq_some]
      refine ⟨by simpa using h2 hm, by simpa using hm, fun j hj => by simpa using h1 j hj⟩
    rw [this]
    rfl
  · have e : m = b.length := by omega
    have : (List.range b.length).find? (fun n => decide (a < b.take n)) = none := by
      rw [List.find?_eq_none]
      intro x hx
      simp at hx
      simpa using h1 x (by omega)
    rw [this, e]
    rfl

set_option maxHeartbeats 1000000 in
theorem sep1_any (a b : List UInt8) (n : Nat) (hn : n ≤ b.length) (ga gb : Nat) (w : World) (ca : w.cell? ⟨ga, 0, none⟩ = some (.string (str a))) (cb : w.cell? ⟨gb, 0, none⟩ = some (.string (str b))) :
    Calls Try.prog 40 #[.int .i64 (n : Int), .pointer (some ⟨gb, 0, none⟩), .pointer (some ⟨ga, 0, none⟩)] w fun e w' => e = .returned (.bool (decide (a < b.take n))) ∧ Step noF w w' := by
  have hsl : ∀ wx : World, (Instr.slice 9 (.string (str b)) none (some (.int .i64 (n : Int))) none).run Try.prog wx = .ok (.string (str (b.take n))) wx := fun wx => run_take_str _ Try.underlying9 b n hn wx
  have hE := same_str
  have hL := less_str
  have hG := gt_dec
  go_enter Try.func40, Try.ntmps40
  go_wp2_with fail
  go_region
  go_wp2_with fail
  go_ret
  exact ⟨ret_bool (by first | rfl | exact gt_dec _ _ | simp [gt_dec]), (Step.refl noF w).drew⟩

set_option maxHeartbeats 1000000 in
theorem search_any (a b : List UInt8) (hl : b.length ≤ 1000) (ga gb : Nat) (w : World) (ca : w.cell? ⟨ga, 0, none⟩ = some (.string (str a))) (cb : w.cell? ⟨gb, 0, none⟩ = some (.string (str b))) :
    Calls Try.prog 39 #[.int .i64 (b.length : Int), .func (.func 40) #[] #[.pointer (some ⟨gb, 0, none⟩), .pointer (some ⟨ga, 0, none⟩)]] w fun e w' => e = .returned (.int .i64 (sepN a b : Int)) ∧ Step noF w w' := by
  obtain ⟨N, hN⟩ : ∃ N, b.length = N := ⟨_, rfl⟩
  rw [hN] at hl ⊢
  have HN := hid hN
  have HA := hid ca
  have HB := hid cb
  clear hN ca cb
  go_enter Try.func39, Try.ntmps39
  go_wp2_with fail
  go_loopw [5, 6] (fun x y wr => ∃ i j : Nat, i ≤ j ∧ j ≤ N ∧ x = .int .i64 (i : Int) ∧ y = .int .i64 (j : Int) ∧ Step noF w wr ∧ Hid (∀ t, t < i → ¬ a < b.take t) ∧ Hid (j < N → a < b.take j)) (fun x y _ => (intOf y - intOf x).toNat)
  case atStart => exact ⟨0, N, Nat.zero_le _, Nat.le_refl _, rfl, rfl, Step.refl _ _, fun t ht => by omega, fun h => by omega⟩
  case round =>
    obtain ⟨i, j, hij, hj, rfl, rfl, hst, h1, h2⟩ := hrel
    by_cases hlt : i < j
    · have hli : (i : Int) < (j : Int) := by omega
      obtain ⟨m, hm⟩ : ∃ m, (i + j) / 2 = m := ⟨_, rfl⟩
      have hc := sep1_any a b m (by rw [HN.out]; omega) ga gb wr (hst.after HA.out) (hst.after HB.out)
      have hm1 : i ≤ m := by omega
      have hm2 : m < j := by omega
      have hd : ((i : Int) + (j : Int)) / 2 = (m : Int) := by omega
      have hw1 : wrap64 ((i : Int) + (j : Int)) = (i : Int) + (j : Int) := by unfold wrap64; omega
      clear hm
      by_cases hp : a < b.take m
      · have HP := hid hp
        rw [decide_eq_true hp] at hc
        clear hp
        go_wp2_with fail
        refine hc.mono ?_
        rintro e w2 ⟨rfl, s2⟩
        go_wp2_with fail
        go_roundw
        case rel => exact ⟨i, m, hm1, by omega, rfl, rfl, hst.trans s2, h1.out, fun _ => HP.out⟩
        case measure => simp [intOf]; omega
      · have HP : Hid (∀ t, t < m + 1 → ¬ a < b.take t) := by
          intro t ht h
          have := take_mono b t m (by omega)
          exact hp (by grind)
        rw [decide_eq_false hp] at hc
        clear hp
        go_wp2_with fail
        refine hc.mono ?_
        rintro e w2 ⟨rfl, s2⟩
        go_wp2_with fail
        go_roundw
        case rel => exact ⟨m + 1, j, by omega, hj, int_eq (by omega), rfl, hst.trans s2, HP.out, h2.out⟩
        case measure => simp [intOf]; omega
    · obtain rfl : i = j := by omega
      have HE : Hid (sepN a b = i) := sepN_uniq a b i h1.out (by rw [HN.out]; exact h2.out) (by rw [HN.out]; exact hj)
      go_wp2_with fail
      go_ret
      exact ⟨ret_int (by rw [HE.out]), hst⟩
set_option maxHeartbeats 1000000 in
theorem sep_any (a b : List UInt8) (w : World) : Calls Try.prog 22 #[.string (str a), .string (str b)] w fun e w' => e = .returned (optV (sepL a b)) ∧ Step noF w w' := by
  have h0 := nil_str
  have hL := less_str
  have hz := str_size
  have hmf : ∀ (fn : Fn) (first cap : Array Value) (w : World), (Instr.makeFunc fn first cap).run Try.prog w = .ok (.func fn first cap) w := fun _ _ _ _ => rfl
  have S2 : Hid (Step noF w ((w.alloc (.cells #[.string (str a)] 9)).alloc (.cells #[.string (str b)] 9))) := ((Step.refl noF w).alloc _).alloc _
  cases ha : isK a
  · have HN : Hid (sepL a b = none) := by show _ = _; simp [sepL, ha]
    go_enter Try.func22, Try.ntmps22
    go_wp2_with (go_at_call 23; refine (is_any _ _).mono ?_; rintro e w' ⟨rfl, rfl⟩)
    go_ret2
    exact ⟨ret_opt (by rw [HN.out]; rfl) (by rw [HN.out]; rfl), S2.out⟩
  · cases hb : isK b
    · have HN : Hid (sepL a b = none) := by show _ = _; simp [sepL, hb]
      go_enter Try.func22, Try.ntmps22
      go_wp2_with (go_at_call 23; refine (is_any _ _).mono ?_; rintro e w' ⟨rfl, rfl⟩)
      go_ret2
      exact ⟨ret_opt (by rw [HN.out]; rfl) (by rw [HN.out]; rfl), S2.out⟩
    · by_cases hab : a < b
      · have HN : Hid (sepL a b = some (b.take (sepN a b))) := by show _ = _; simp [sepL, ha, hb, hab]
        have hbl : b.length ≤ 8 := by simp [isK] at hb; exact hb.2
        have hsn : sepN a b ≤ b.length := by
          unfold sepN
          cases hf : (List.range b.length).find? (fun n => decide (a < b.take n)) with
          | none => exact Nat.le_refl _
          | some m =>
            have := List.mem_of_find?_eq_some hf
            simp at this
            exact Nat.le_of_lt this
        have hsl : ∀ wx : World, (Instr.slice 9 (.string (str b)) none (some (.int .i64 (sepN a b : Int))) none).run Try.prog wx = .ok (.string (str (b.take (sepN a b)))) wx := fun wx => run_take_str _ Try.underlying9 b _ hsn wx
        obtain ⟨W, hW⟩ : ∃ W, (w.alloc (.cells #[.string (str a)] 9)).alloc (.cells #[.string (str b)] 9) = W := ⟨_, rfl⟩
        have k1 : W.cell? ⟨w.heap.size, 0, none⟩ = some (.string (str a)) := by rw [← hW]; exact cell_alloc (by simp) _
        have k2 : W.cell? ⟨w.heap.size + 1, 0, none⟩ = some (.string (str b)) := by
          have hb2 := block_alloc_new (w.alloc (.cells #[.string (str a)] 9)) (.cells #[.string (str b)] 9)
          rw [World.size_alloc, hW] at hb2
          simpa using cell_of_block hb2 0
        have hse := search_any a b (by omega) w.heap.size (w.heap.size + 1) W k1 k2
        rw [hW] at S2
        obtain ⟨n, hn⟩ : ∃ n, sepN a b = n := ⟨_, rfl⟩
        rw [hn] at hse hsl HN
        have K1 := hid k1
        have K2 := hid k2
        clear hn hsn hbl
        go_enter Try.func22, Try.ntmps22
        go_wp2_with (go_at_call 23; refine (is_any _ _).mono ?_; rintro e w' ⟨rfl, rfl⟩)
        refine hse.mono ?_
        rintro e w2 ⟨rfl, s2⟩
        have k3 := s2.after K2.out
        go_wp2_with fail
        go_ret2
        exact ⟨ret_opt (by rw [HN.out]; rfl) (by rw [HN.out]; rfl), S2.out.trans s2⟩
      · have HN : Hid (sepL a b = none) := by show _ = _; simp [sepL, hab]
        go_enter Try.func22, Try.ntmps22
        go_wp2_with (go_at_call 23; refine (is_any _ _).mono ?_; rintro e w' ⟨rfl, rfl⟩)
        go_ret2
        exact ⟨ret_opt (by rw [HN.out]; rfl) (by rw [HN.out]; rfl), S2.out⟩
end Go.Proofs.Ytilinbmocmodhaa
