/-
  The document's pool in memory; what its New does.
-/
import Derived.Test.YtmijbplhmjledaaTkK
namespace Go.Proofs.Ytmijbplhmjledaa
open Go.RowKit
set_option linter.unusedVariables false
set_option linter.unusedSimpArgs false

/-- The document's pool: what each block is, what each ticket has, the reserve. -/
def IsRf (w : World) (u : Nat) (G : Nat → Prop) (is sz : List Int) (r : Int) : Prop :=
  (∀ k, G k → k < w.heap.size) ∧ ∃ iv sv, w.heap[u]? = some (.cells #[iv, sv, .int .i64 r] 35 (0, 0)) ∧ w.ownsRow 0 3 1 iv is.length (intsOf is) ∧ w.ownsRow 0 3 1 sv sz.length (intsOf sz) ∧ G u ∧ (∀ k, iv.ownBlock = some k → G k) ∧ (∀ k, sv.ownBlock = some k → G k) ∧ (∀ k, iv.ownBlock = some k → sv.ownBlock ≠ some k)
theorem cells3 {w : World} {p : Nat} {v0 v1 v2 : Value} {T : TypeId} (h : w.heap[p]? = some (.cells #[v0, v1, v2] T (0, 0))) : w.cell? ⟨p, 0, none⟩ = some v0 ∧ w.cell? ⟨p, 1, none⟩ = some v1 ∧ w.cell? ⟨p, 2, none⟩ = some v2 :=
  ⟨cell_of_block h 0, cell_of_block h 1, cell_of_block h 2⟩
theorem IsRf.keep {w w' : World} {u : Nat} {F G : Nat → Prop} {is sz : List Int} {r : Int} (h : IsRf w u G is sz r) (s : Step F w w') (hd : ∀ k, G k → ¬ F k) : IsRf w' u G is sz r := by
  obtain ⟨h0, iv, sv, h1, h2, h3, h4, h5, h6, h7⟩ := h
  exact ⟨fun k hk => Nat.lt_of_lt_of_le (h0 k hk) s.size, iv, sv, (s.block u (lt_of_block h1) (hd u h4)).trans h1, owns_step h2 s (fun k hk => hd k (h5 k hk)), owns_step h3 s (fun k hk => hd k (h6 k hk)), h4, h5, h6, h7⟩
theorem IsRf.step {w w' : World} {u : Nat} {G : Nat → Prop} {is sz : List Int} {r : Int} (h : IsRf w u G is sz r) (s : Step noF w w') : IsRf w' u G is sz r := h.keep s (fun _ _ x => x)
theorem IsRf.mono {w : World} {u : Nat} {F G : Nat → Prop} {is sz : List Int} {r : Int} (h : IsRf w u G is sz r) (hG : ∀ k, G k → F k) (hb : ∀ k, F k → k < w.heap.size) : IsRf w u F is sz r := by
  obtain ⟨h0, iv, sv, h1, h2, h3, h4, h5, h6, h7⟩ := h
  exact ⟨hb, iv, sv, h1, h2, h3, hG u h4, fun k hk => hG k (h5 k hk), fun k hk => hG k (h6 k hk), h7⟩
def startI (f : Nat) : Nat → List Int
  | 0 => []
  | j + 1 => startI f j ++ [if j < f then 1 else 3]
theorem startI_len (f : Nat) : ∀ j, (startI f j).length = j
  | 0 => rfl
  | j + 1 => by rw [startI, List.length_append, startI_len f j]; rfl
theorem startI_at (f : Nat) : ∀ j k, k < j → (startI f j).getD k 0 = if k < f then 1 else 3
  | j + 1, k, hk => by
    rw [startI, getD_snoc, startI_len]
    by_cases h : k = j
    · rw [if_pos h, h]
    · rw [if_neg h]; exact startI_at f j k (by omega)
theorem startI_all {n f : Nat} (hf : f ≤ n) : startI f n = kindsL (startL n f) (List.replicate n false) := by
  refine ext_getI (by rw [startI_len, kindsL_len, startL_len hf]) (fun k hk => ?_)
  rw [startI_len] at hk
  rw [startI_at f n k hk, kindsL_at _ _ _ (by rw [startL_len hf]; exact hk)]
  unfold kindAt
  rw [rep_at, startL_at hf]
  by_cases h : k < f
  · rw [if_pos h, decide_eq_false (by omega)]; rfl
  · rw [if_neg h, decide_eq_true ⟨by omega, hk⟩]; rfl
theorem ret_pb {a b : Value} {c d : Bool} (h1 : a = b) (h2 : c = d) : Ending.returned (.tuple #[a, .bool c]) = .returned (.tuple #[b, .bool d]) := by rw [h1, h2]

set_option maxHeartbeats 2000000 in
theorem rnew_any (w : World) (zn zf r : Int) (n f : Nat) (hn : zn = n) (hzf : zf = f) (h1 : 1 ≤ n) (h2 : n ≤ 512) (hf : f ≤ n) (hr : 0 ≤ r) (hr2 : r ≤ (n : Int) - f) :
    Calls Try.prog 9 #[.int .i64 zn, .int .i64 zf, .int .i64 r] w fun e w' => ∃ u, e = .returned (.tuple #[.pointer (some ⟨u, 0, none⟩), .bool true]) ∧ Step noF w w' ∧ IsRf w' u (Grew noF w w') (kindsL (startL n f) (List.replicate n false)) [] r := by
  subst hn hzf
  have q1 : ¬ ((n : Int) < 1) := by omega
  have q2 : ¬ ((512 : Int) < (n : Int)) := by omega
  have k1 : ¬ ((f : Int) < 0) := by omega
  have k2 : ¬ ((n : Int) < (f : Int)) := by omega
  have k3 : ¬ (r < 0) := by omega
  have k4 : ¬ ((n : Int) - (f : Int) < r) := by omega
  have HH := hid (startI_all hf)
  obtain ⟨i0, hi, hz0, hz1, hz2⟩ := info_three info_int
  have hone : Hid (∀ x : Int, ∀ u ∈ [Value.int .i64 x], u.oneCell' = true) := fun x u hu => by simp at hu; rw [hu]; rfl
  have HU : Hid ((w.alloc (.cells #[.slice none 0 0, .slice none 0 0, .int .i64 r] 35)).heap[w.heap.size]? = some (.cells #[.slice none 0 0, .slice none 0 0, .int .i64 r] 35 (0, 0))) := block_alloc_new _ _
  have SU : Hid (Step noF w (w.alloc (.cells #[.slice none 0 0, .slice none 0 0, .int .i64 r] 35))) := (Step.refl _ _).alloc _
  clear hr hr2
  go_enter Try.func9, Try.ntmps9
  go_wp2_with fail
  go_loopw [9] (fun i wr => ∃ (j : Nat) (v : Value), j ≤ n ∧ i = .int .i64 j ∧ Step noF w wr ∧ wr.heap[w.heap.size]? = some (.cells #[v, .slice none 0 0, .int .i64 r] 35 (0, 0)) ∧ wr.ownsRow 0 3 1 v (startI f j).length (intsOf (startI f j)) ∧ (∀ k, v.ownBlock = some k → w.heap.size < k)) (fun i _ => n - (intOf i).toNat)
  case atStart => exact ⟨0, .slice none 0 0, Nat.zero_le _, rfl, SU.out, HU.out, ⟨rfl, .inl ⟨rfl, rfl⟩⟩, fun k hk => by simp [Value.ownBlock] at hk⟩
  case round =>
    obtain ⟨j, v, hj, rfl, hst, hb, hown, hfr⟩ := hrel
    rw [startI_len] at hown
    by_cases hjn : j < n
    · have hji : (j : Int) < (n : Int) := by omega
      have HB := hid hb
      have hmx : Hid (j + 1 ≤ maxLen) := le_max (by omega)
      have hmb : Hid ((j + 1) * 8 ≤ 140737488355328) := by show _ ≤ _; omega
      obtain ⟨c0, _, _⟩ := cells3 hb
      have f0 := frozen_of_block hb 0
      have hwl := lt_of_block hb
      have HWL := hid hwl
      have HNE : Hid (some w.heap.size ≠ v.ownBlock) := fun e => by have := hfr _ e.symm; omega
      have HFR := hid hfr
      have hjb : j ≤ 512 := by omega
      clear hb hfr hwl
      by_cases hjf : j < f
      · have g1 : (j : Int) < (f : Int) := by omega
        have hT : Hid (startI f (j + 1) = startI f j ++ [1]) := by show _ = _; rw [startI, if_pos hjf]
        obtain ⟨va, vc, rfl⟩ := owns_form hown
        go_wp2_with (at_builtin; refine wpList_append_fresh rfl (.tmp 51) (.tmp 52) 30 rfl 3 i0 _ 1 8 Try.underlying30 hi hz0 hz1 hz2 rfl (by decide) _ _ _ (by simp [Act.eval]; rfl) (by exact hown.alloc _) ⟨wr.heap.size, 0, none⟩ 1 1 [.int .i64 1] (by simp [Act.eval]) rfl (cell_one_new _ _ _) (hone.out _) hmx.out hmb.out ?_; intro v' w' ho' hg' hfr'; have hb' := grown_block hg' (block_alloc_old HB.out _) HNE.out; obtain ⟨hc', _, _⟩ := cells3 hb'; have hf' := frozen_of_block hb' 0; have HB' := hid hb'; clear hb'; obtain ⟨ao, cc, rfl⟩ := owns_form ho')
        have hvk : ∀ k, (Value.slice ao (j + 1) cc).ownBlock = some k → w.heap.size < k := fun k hk => by
          rcases hfr' with e | e
          · rw [e] at hk; exact HFR.out k hk
          · have h1 := e k hk
            have h2 := HWL.out
            have h3 := ((Step.refl noF wr).alloc (.cells #[.int .i64 1] 3)).size
            have h4 := ((Step.refl noF wr).alloc (.cells #[.int .i64 3] 3)).size
            simp at h1
            omega
        go_roundw
        case rel =>
          refine ⟨j + 1, .slice ao (j + 1) cc, by omega, int_eq (by omega), ?_, ?_, ?_, ?_⟩
          · exact ((hst.alloc _).grown hg' (fun k hk => .inr (Nat.le_of_lt (HFR.out k hk)))).setCell (p := ⟨w.heap.size, 0, none⟩) (.inr (Nat.le_refl _)) _
          · exact block_setCell HB'.out 0 _
          · rw [startI_len, hT.out, intsOf_append]
            exact owns_setCell ho' ⟨w.heap.size, 0, none⟩ (fun e => Nat.lt_irrefl _ (hvk w.heap.size e)) _
          · exact hvk
        case measure => simp [intOf]; omega
      · have g1 : ¬ ((j : Int) < (f : Int)) := by omega
        have hT : Hid (startI f (j + 1) = startI f j ++ [3]) := by show _ = _; rw [startI, if_neg hjf]
        obtain ⟨va, vc, rfl⟩ := owns_form hown
        go_wp2_with (at_builtin; refine wpList_append_fresh rfl (.tmp 60) (.tmp 61) 30 rfl 3 i0 _ 1 8 Try.underlying30 hi hz0 hz1 hz2 rfl (by decide) _ _ _ (by simp [Act.eval]; rfl) (by exact hown.alloc _) ⟨wr.heap.size, 0, none⟩ 1 1 [.int .i64 3] (by simp [Act.eval]) rfl (cell_one_new _ _ _) (hone.out _) hmx.out hmb.out ?_; intro v' w' ho' hg' hfr'; have hb' := grown_block hg' (block_alloc_old HB.out _) HNE.out; obtain ⟨hc', _, _⟩ := cells3 hb'; have hf' := frozen_of_block hb' 0; have HB' := hid hb'; clear hb'; obtain ⟨ao, cc, rfl⟩ := owns_form ho')
        have hvk : ∀ k, (Value.slice ao (j + 1) cc).ownBlock = some k → w.heap.size < k := fun k hk => by
          rcases hfr' with e | e
          · rw [e] at hk; exact HFR.out k hk
          · have h1 := e k hk
            have h2 := HWL.out
            have h3 := ((Step.refl noF wr).alloc (.cells #[.int .i64 1] 3)).size
            have h4 := ((Step.refl noF wr).alloc (.cells #[.int .i64 3] 3)).size
            simp at h1
            omega
        go_roundw
        case rel =>
          refine ⟨j + 1, .slice ao (j + 1) cc, by omega, int_eq (by omega), ?_, ?_, ?_, ?_⟩
          · exact ((hst.alloc _).grown hg' (fun k hk => .inr (Nat.le_of_lt (HFR.out k hk)))).setCell (p := ⟨w.heap.size, 0, none⟩) (.inr (Nat.le_refl _)) _
          · exact block_setCell HB'.out 0 _
          · rw [startI_len, hT.out, intsOf_append]
            exact owns_setCell ho' ⟨w.heap.size, 0, none⟩ (fun e => Nat.lt_irrefl _ (hvk w.heap.size e)) _
          · exact hvk
        case measure => simp [intOf]; omega
    · obtain rfl : j = n := by omega
      go_wp2_with fail
      go_ret2
      refine ⟨_, rfl, hst, ?_⟩
      rw [← HH.out]
      refine ⟨fun k hk => ?_, v, .slice none 0 0, hb, by rw [startI_len]; exact hown, ⟨rfl, .inl ⟨rfl, rfl⟩⟩, .inr ⟨Nat.le_refl _, lt_of_block hb⟩, fun k hk => .inr ⟨Nat.le_of_lt (hfr k hk), (hown.lt k hk).2⟩, fun k hk => by simp [Value.ownBlock] at hk, fun k _ hk2 => by simp [Value.ownBlock] at hk2⟩
      rcases hk with hk | hk
      · exact hk.elim
      · exact hk.2
set_option maxHeartbeats 2000000 in
theorem rnew_none (w : World) (n f r : Int) (h : ¬ canNew n f r) : Calls Try.prog 9 #[.int .i64 n, .int .i64 f, .int .i64 r] w fun e w' => e = .returned (.tuple #[.pointer none, .bool false]) ∧ Step noF w w' := by
  by_cases q1 : n < 1
  · clear h
    go_enter Try.func9, Try.ntmps9
    go_wp2_with fail
    go_ret2
    exact ⟨rfl, Step.refl _ _⟩
  · by_cases q2 : 512 < n
    · clear h
      go_enter Try.func9, Try.ntmps9
      go_wp2_with fail
      go_ret2
      exact ⟨rfl, Step.refl _ _⟩
    · by_cases k1 : f < 0
      · clear h
        go_enter Try.func9, Try.ntmps9
        go_wp2_with fail
        go_ret2
        exact ⟨rfl, Step.refl _ _⟩
      · by_cases k2 : n < f
        · clear h
          go_enter Try.func9, Try.ntmps9
          go_wp2_with fail
          go_ret2
          exact ⟨rfl, Step.refl _ _⟩
        · by_cases k3 : r < 0
          · clear h
            go_enter Try.func9, Try.ntmps9
            go_wp2_with fail
            go_ret2
            exact ⟨rfl, Step.refl _ _⟩
          · have k4 : n - f < r := by unfold canNew at h; omega
            clear h
            go_enter Try.func9, Try.ntmps9
            go_wp2_with fail
            go_ret2
            exact ⟨rfl, Step.refl _ _⟩
end Go.Proofs.Ytmijbplhmjledaa
