/-
  What New does, and what all calls do of nil.
-/
import Derived.Test.YtmijbplhmjledaaTkF
namespace Go.Proofs.Ytmijbplhmjledaa
open Go.RowKit
set_option linter.unusedVariables false
set_option linter.unusedSimpArgs false

/-- Free from f on. -/
def startL (n f : Nat) : List Bool := List.replicate f false ++ List.replicate (n - f) true
theorem startL_len {n f : Nat} (h : f ≤ n) : (startL n f).length = n := by simp [startL]; omega
theorem startL_at {n f : Nat} (h : f ≤ n) (k : Nat) : (startL n f).getD k false = decide (f ≤ k ∧ k < n) := by
  rcases Nat.lt_or_ge k n with hk | hk
  · rw [getD_lt _ (by rw [startL_len h]; exact hk)]
    rcases Nat.lt_or_ge k f with h1 | h1
    · simp only [startL]
      rw [List.getElem_append_left (by simpa using h1)]
      simp; omega
    · simp only [startL]
      rw [List.getElem_append_right (by simpa using h1)]
      simp; omega
  · rw [getD_ge _ (by rw [startL_len h]; exact hk)]; simp; omega
theorem startL_free {n f : Nat} (h : f ≤ n) : freeL (startL n f) = (n : Int) - f := by
  rw [freeL_eq, startL, List.count_append, List.count_replicate, List.count_replicate]
  simp
  omega
theorem rep_at (n k : Nat) : (List.replicate n false).getD k false = false := by
  rcases Nat.lt_or_ge k n with h' | h'
  · rw [getD_lt _ (by simpa using h')]; simp
  · rw [getD_ge _ (by simpa using h')]
theorem start_give {n f : Nat} (h : f < n) : setE true (List.replicate n false) [((f : Int), (n : Int) - f)] = 0 ∧ setL true (List.replicate n false) [((f : Int), (n : Int) - f)] = startL n f := by
  obtain ⟨h1, h2, h3⟩ := set_one (b := true) (l := List.replicate n false) (x := ((f : Int), (n : Int) - f)) (inE_iff.2 ⟨by simp only; omega, by simp only; omega, by simp only [List.length_replicate]; omega⟩) (fun k k1 k2 => by
    simp only at k1 k2
    rw [getD_lt _ (by rw [List.length_replicate]; omega)]; simp)
  refine ⟨h1, ext_getD (by rw [h2, List.length_replicate, startL_len (by omega)]) (fun k hk => ?_)⟩
  rw [h3, startL_at (by omega), rep_at]
  rw [h2, List.length_replicate] at hk
  simp only
  by_cases hf : f ≤ k
  · rw [if_pos (by omega), decide_eq_true ⟨hf, hk⟩]
  · rw [if_neg (by omega), decide_eq_false (fun x => hf x.1)]
theorem start_wf {n f : Nat} {r : Int} (h1 : 1 ≤ n) (h2 : n ≤ 512) (hf : f ≤ n) (hr : 0 ≤ r) (hr2 : r ≤ (n : Int) - f) : Wf ⟨startL n f, List.replicate n false, r, []⟩ := by
  refine ⟨by simp only; rw [startL_len hf]; exact h1, by simp only; rw [startL_len hf]; exact h2, by simp only; rw [startL_len hf, List.length_replicate], fun k _ => rep_at n k, fun z hz => by simp at hz, hr, ?_⟩
  unfold leftT
  simp only
  rw [startL_free hf]
  simp [heldL]
  omega
theorem start_pool {w w2 w3 w4 : World} {q gs : Nat} {n f : Nat} {r : Int} (h1 : 1 ≤ n) (h2 : n ≤ 512) (hf : f ≤ n) (hr : 0 ≤ r) (hr2 : r ≤ (n : Int) - f) (s2 : Step noF w w2) (hq : w.heap.size ≤ q) (hg : w.heap.size ≤ gs) (hs : SpAt w2 q gs (startL n f))
    (e3 : w3 = w2.alloc (.cells (madeCells #[.bool false] n) 4)) (e4 : w4 = w3.alloc (.cells #[.pointer (some ⟨q, 0, none⟩), .slice (some ⟨w2.heap.size, 0, none⟩) n n, .int .i64 r, .slice none 0 0, .int .i64 0, .slice none 0 0] 59)) :
    Step noF w w4 ∧ IsPool w4 (w2.heap.size + 1) (Grew noF w w4) ⟨startL n f, List.replicate n false, r, []⟩ := by
  subst e3 e4
  have sA : Step noF w2 (w2.alloc (.cells (madeCells #[.bool false] n) 4)) := (Step.refl _ _).alloc _
  have sB := sA.alloc (.cells #[.pointer (some ⟨q, 0, none⟩), .slice (some ⟨w2.heap.size, 0, none⟩) n n, .int .i64 r, .slice none 0 0, .int .i64 0, .slice none 0 0] 59)
  have sW := s2.trans sB
  have hgs := hs.lt
  have hqs := hs.sp.lt
  have hz1 := s2.size
  have hsz : (w2.alloc (.cells (madeCells #[.bool false] n) 4)).heap.size = w2.heap.size + 1 := by simp
  have hsz2 : ((w2.alloc (.cells (madeCells #[.bool false] n) 4)).alloc (.cells #[.pointer (some ⟨q, 0, none⟩), .slice (some ⟨w2.heap.size, 0, none⟩) n n, .int .i64 r, .slice none 0 0, .int .i64 0, .slice none 0 0] 59)).heap.size = w2.heap.size + 2 := by simp
  refine ⟨sW, start_wf h1 h2 hf hr hr2, fun k hk => ?_, q, gs, w2.heap.size, n, .slice none 0 0, .slice none 0 0, [], ⟨.inr ⟨?_, ?_⟩, .inr ⟨hq, ?_⟩, .inr ⟨hg, ?_⟩, .inr ⟨hz1, ?_⟩, fun k hk => by simp [Value.ownBlock] at hk, fun k hk => by simp [Value.ownBlock] at hk⟩, fun k k0 hk => by simp at hk, gone_empty, ?_⟩
  · rcases hk with hk | hk
    · exact hk.elim
    · exact hk.2
  · omega
  · rw [hsz2]; omega
  · rw [hsz2]; omega
  · rw [hsz2]; omega
  · rw [hsz2]; omega
  · refine ⟨?_, hs.step sB, ?_, ?_, ?_, ⟨rfl, .inl ⟨rfl, rfl⟩⟩, ⟨rfl, .inl ⟨rfl, rfl⟩⟩, by omega, fun k hk => by simp [Value.ownBlock] at hk⟩
    · simp only
      rw [startL_len hf]
      have := block_alloc_new (w2.alloc (.cells (madeCells #[.bool false] n) 4)) (.cells #[.pointer (some ⟨q, 0, none⟩), .slice (some ⟨w2.heap.size, 0, none⟩) n n, .int .i64 r, .slice none 0 0, .int .i64 0, .slice none 0 0] 59)
      rw [hsz] at this
      exact this
    · simp only; rw [startL_len hf, List.length_replicate]
    · simp only; rw [startL_len hf]; exact Nat.le_refl _
    · exact (made_bools w2 n).step ((Step.refl noF _).alloc _) (fun x => x)
set_option maxHeartbeats 2000000 in
theorem pnew_any (w : World) (zn zf r : Int) (n f : Nat) (hn : zn = n) (hzf : zf = f) (h1 : 1 ≤ n) (h2 : n ≤ 512) (hf : f ≤ n) (hr : 0 ≤ r) (hr2 : r ≤ (n : Int) - f) :
    Calls Try.prog 8 #[.int .i64 zn, .int .i64 zf, .int .i64 r] w fun e w' => ∃ p, e = .returned (.pointer (some ⟨p, 0, none⟩)) ∧ w.heap.size ≤ p ∧ Step noF w w' ∧ IsPool w' p (Grew noF w w') ⟨startL n f, List.replicate n false, r, []⟩ := by
  subst hn hzf
  have cn := new_raw (n : Int) n rfl h1 h2 w
  have k1 : ¬ ((f : Int) < 0) := by omega
  have k2 : ¬ ((n : Int) < (f : Int)) := by omega
  have k3 : ¬ (r < 0) := by omega
  have k4 : ¬ ((n : Int) - (f : Int) < r) := by omega
  have HH := hid (And.intro h1 (And.intro h2 (And.intro hf (And.intro hr hr2))))
  clear hr hr2
  by_cases k5 : f < n
  · have k6 : (f : Int) < (n : Int) := by omega
    have HSG := hid (start_give k5)
    clear k5
    go_enter Try.func8, Try.ntmps8
    go_wp2_with fail
    refine cn.mono ?_
    rintro e w1 ⟨q, rfl, hq, s1, g, hg, h5, c, h4, h3⟩
    have hsp : SpAt w1 q g (List.replicate n false) := ⟨by rw [List.length_replicate]; exact h1, by rw [List.length_replicate]; exact h2, c, by rw [List.length_replicate]; exact h3, by rw [List.length_replicate]; exact h4, h5⟩
    have HSP := hid hsp
    have sA : Step noF w1 (w1.alloc (.cells #[.int .i64 f, .int .i64 ((n : Int) - f)] 53)) := (Step.refl _ _).alloc _
    have cg := give_at _ q g _ (hsp.step sA) (some ⟨w1.heap.size, 0, none⟩) 1 1 [((f : Int), (n : Int) - f)] rfl (extAt_one w1 _ _ 53 _ rfl) (fun x hx => by simp at hx; rw [hx]; simp only; omega) (by simp)
    rw [HSG.out.1, HSG.out.2] at cg
    have hmk := mk_bools n (by omega)
    clear h3 h4 h5 hsp
    go_wp2_with fail
    refine cg.mono ?_
    rintro e w2 ⟨rfl, s2, hsp2⟩
    go_wp2_with fail
    go_ret
    obtain ⟨gs, hgs, hsp3⟩ := hsp2
    obtain ⟨a1, a2, a3, a4, a5⟩ := HH.out
    have s02 : Step noF w w2 := (s1.trans sA).then s2 (fun i hi => .inr (by unfold oneF at hi; omega))
    have := start_pool a1 a2 a3 a4 a5 s02 hq (by rcases hgs with rfl | x; exact hg; exact Nat.le_trans (s1.trans sA).size x) hsp3 rfl rfl
    refine ⟨_, rfl, ?_, this⟩
    have := s02.size
    omega
  · have k6 : ¬ ((f : Int) < (n : Int)) := by omega
    have HSG : Hid (startL n f = List.replicate n false) := by
      show _ = _
      rw [startL, show n - f = 0 by omega, show f = n by omega]; simp
    have hmk := mk_bools n (by omega)
    clear k5
    go_enter Try.func8, Try.ntmps8
    go_wp2_with fail
    refine cn.mono ?_
    rintro e w1 ⟨q, rfl, hq, s1, g, hg, h5, c, h4, h3⟩
    have hsp : SpAt w1 q g (startL n f) := by rw [HSG.out]; exact ⟨by rw [List.length_replicate]; exact h1, by rw [List.length_replicate]; exact h2, c, by rw [List.length_replicate]; exact h3, by rw [List.length_replicate]; exact h4, h5⟩
    have HSP := hid hsp
    clear h3 h4 h5 hsp
    go_wp2_with fail
    go_ret
    obtain ⟨a1, a2, a3, a4, a5⟩ := HH.out
    have := start_pool a1 a2 a3 a4 a5 s1 hq hg HSP.out rfl rfl
    refine ⟨_, rfl, ?_, this⟩
    have := s1.size
    omega
/-- What can be. -/
def canNew (n f r : Int) : Prop := 1 ≤ n ∧ n ≤ 512 ∧ 0 ≤ f ∧ f ≤ n ∧ 0 ≤ r ∧ r ≤ n - f
set_option maxHeartbeats 2000000 in
theorem pnew_none (w : World) (n f r : Int) (h : ¬ canNew n f r) : Calls Try.prog 8 #[.int .i64 n, .int .i64 f, .int .i64 r] w fun e w' => e = .returned (.pointer none) ∧ Step noF w w' := by
  by_cases k0 : n < 1 ∨ 512 < n
  · have cn := new_none n k0 w
    clear h k0
    go_enter Try.func8, Try.ntmps8
    go_wp2_with fail
    refine cn.mono ?_
    rintro e w1 ⟨rfl, rfl⟩
    go_wp2_with fail
    go_ret
    exact ⟨rfl, Step.refl _ _⟩
  · have hn1 : 1 ≤ n ∧ n ≤ 512 := by omega
    obtain ⟨N, rfl⟩ := Int.eq_ofNat_of_zero_le (show 0 ≤ n by omega)
    have cn := new_raw (N : Int) N rfl (by omega) (by omega) w
    have hN5 : N ≤ 512 := by omega
    clear k0
    by_cases k1 : f < 0
    · clear h hn1
      go_enter Try.func8, Try.ntmps8
      go_wp2_with fail
      refine cn.mono ?_
      rintro e w1 ⟨q, rfl, hq, s1, _⟩
      go_wp2_with fail
      go_ret
      exact ⟨rfl, s1⟩
    · by_cases k2 : (N : Int) < f
      · clear h hn1
        go_enter Try.func8, Try.ntmps8
        go_wp2_with fail
        refine cn.mono ?_
        rintro e w1 ⟨q, rfl, hq, s1, _⟩
        go_wp2_with fail
        go_ret
        exact ⟨rfl, s1⟩
      · by_cases k3 : r < 0
        · clear h hn1
          go_enter Try.func8, Try.ntmps8
          go_wp2_with fail
          refine cn.mono ?_
          rintro e w1 ⟨q, rfl, hq, s1, _⟩
          go_wp2_with fail
          go_ret
          exact ⟨rfl, s1⟩
        · have k4 : (N : Int) - f < r := by unfold canNew at h; omega
          clear h hn1
          go_enter Try.func8, Try.ntmps8
          go_wp2_with fail
          refine cn.mono ?_
          rintro e w1 ⟨q, rfl, hq, s1, _⟩
          go_wp2_with fail
          go_ret
          exact ⟨rfl, s1⟩
end Go.Proofs.Ytmijbplhmjledaa
