/-
  What the law DevSafe says of plain devices: each sector of a block is one that was flushed or written since.
-/
import Derived.Test.YtkmfpdpgbopdmaaDevAll
namespace Go.Proofs.Ytkmfpdpgbopdmaa
open Go.RowKit
set_option linter.unusedVariables false

/-- A byte that may be in block q. -/
def Al (sv : List UInt8) (lt : List (List UInt8)) (q : Nat) (b : UInt8) : Prop := sv[q]? = some b ∨ ∃ l, lt[q]? = some l ∧ b ∈ l
/-- Each sector of x is of one byte, that may be in block q. -/
def Sec (sv : List UInt8) (lt : List (List UInt8)) (q : Nat) (x : List UInt8) : Prop := x.length = 256 ∧ ∀ k, k < 4 → ∃ b, Al sv lt q b ∧ (x.drop (64 * k)).take 64 = List.replicate 64 b
/-- Whatever is kept, each sector is one that may be there. -/
def Pw (sv : List UInt8) (lt : List (List UInt8)) (d : Dv) : Prop :=
  d.safe.length = 4 ∧ (∀ q x, d.safe[q]? = some x → Sec sv lt q x) ∧ ∀ y ∈ d.loose, y.1 < 4 ∧ ∃ b, y.2 = blk b ∧ Al sv lt y.1 b

theorem blk_sec (b : UInt8) (k : Nat) (hk : k < 4) : ((blk b).drop (64 * k)).take 64 = List.replicate 64 b := by
  rw [blk, List.drop_replicate, List.take_replicate, show min 64 (256 - 64 * k) = 64 by omega]
theorem sec_blk {sv : List UInt8} {lt : List (List UInt8)} {q : Nat} {b : UInt8} (h : Al sv lt q b) : Sec sv lt q (blk b) := ⟨blk_len b, fun k hk => ⟨b, h, blk_sec b k hk⟩⟩
theorem sect_at (x y : List UInt8) (i k : Nat) (hx : x.length = 256) (hy : y.length = 256) (hi : i < 4) (hk : k < 4) : ((sect x y i).drop (64 * k)).take 64 = if k = i then (y.drop (64 * i)).take 64 else (x.drop (64 * k)).take 64 := by
  apply List.ext_getElem?
  intro n
  by_cases hn : n < 64
  · rw [List.getElem?_take_of_lt hn, List.getElem?_drop]
    have hlen : (sect x y i).length = 256 := sect_len x y i hx hy hi
    unfold sect
    split
    · rename_i e
      subst e
      rw [List.getElem?_take_of_lt hn, List.getElem?_drop, List.append_assoc, List.getElem?_append_right (by simp; omega), List.getElem?_append_left (by simp; omega)]
      rw [List.length_take, show min (64 * k) x.length = 64 * k by omega, show 64 * k + n - 64 * k = n by omega, List.getElem?_take_of_lt hn, List.getElem?_drop]
    · rename_i e
      rw [List.getElem?_take_of_lt hn, List.getElem?_drop]
      by_cases hlt : k < i
      · rw [List.append_assoc, List.getElem?_append_left (by simp; omega), List.getElem?_take_of_lt (by omega)]
      · rw [List.getElem?_append_right (by simp; omega), List.getElem?_drop]
        congr 1
        simp
        omega
  · rw [List.getElem?_eq_none (by simp; omega)]
    split
    · rw [List.getElem?_eq_none (by simp; omega)]
    · rw [List.getElem?_eq_none (by simp; omega)]
theorem laid_sec {sv : List UInt8} {lt : List (List UInt8)} {q : Nat} (x y : List UInt8) (ks : List Bool) (hx : Sec sv lt q x) (hy : Sec sv lt q y) (j : Nat) (hj : j ≤ 4) : Sec sv lt q (laidN x y ks j) := by
  induction j with
  | zero => exact hx
  | succ j ih =>
    have ih := ih (by omega)
    unfold laidN
    split
    · refine ⟨sect_len _ _ _ ih.1 hy.1 (by omega), fun k hk => ?_⟩
      rw [sect_at _ _ _ _ ih.1 hy.1 (by omega) hk]
      split
      · exact hy.2 j (by omega)
      · exact ih.2 k hk
    · exact ih
theorem cut_sec {sv : List UInt8} {lt : List (List UInt8)} (s : List (List UInt8)) (ws : List (Nat × List UInt8)) (ks : List Bool) (hl : s.length = 4) (hs : ∀ q x, s[q]? = some x → Sec sv lt q x) (hw : ∀ y ∈ ws, y.1 < 4 ∧ ∃ b, y.2 = blk b ∧ Al sv lt y.1 b) (j : Nat) (hj : j ≤ ws.length) : ∀ q x, (cutN s ws ks j)[q]? = some x → Sec sv lt q x := by
  induction j with
  | zero => exact hs
  | succ j ih =>
    have ih := ih (by omega)
    intro q x hq
    obtain ⟨h4, b, hb, hal⟩ := hw ws[j] (List.getElem_mem (by omega))
    rw [cutN, getD_mem ws j (by omega)] at hq
    by_cases e : ws[j].1 = q
    · rw [e, List.getElem?_set_self (by rw [cutN_length]; omega)] at hq
      injection hq with hq
      subst hq
      refine laid_sec _ _ _ ?_ ?_ 4 (Nat.le_refl _)
      · have hlt : q < (cutN s ws ks j).length := by rw [cutN_length]; omega
        rw [getD_mem _ _ hlt]
        exact ih q _ (List.getElem?_eq_getElem hlt)
      · rw [hb]; rw [e] at hal; exact sec_blk hal
    · rw [List.getElem?_set_ne e] at hq
      exact ih q x hq
theorem pw_cut {sv : List UInt8} {lt : List (List UInt8)} {d : Dv} (h : Pw sv lt d) (ks : List Bool) : Pw sv lt (cutD d ks) := by
  cases hon : d.on
  · have e : cutD d ks = d := by simp [cutD, hon]
    rw [e]; exact h
  · have e : cutD d ks = { d with safe := cutN d.safe d.loose ks d.loose.length, loose := [], on := false } := by simp [cutD, hon]
    rw [e]
    exact ⟨by show (cutN _ _ _ _).length = 4; rw [cutN_length]; exact h.1, cut_sec _ _ _ h.1 h.2.1 h.2.2 _ (Nat.le_refl _), fun y hy => by simp at hy⟩
theorem pw_go {sv : List UInt8} {lt : List (List UInt8)} {d : Dv} (h : Pw sv lt d) : Pw sv lt (goD d) := by
  cases hon : d.on
  · have e : goD d = d := by simp [goD, hon]
    rw [e]; exact h
  · cases hf : d.fuse with
    | none =>
      have e : goD d = d := by simp [goD, hon, hf]
      rw [e]; exact h
    | some x =>
      obtain ⟨n, ks⟩ := x
      cases n with
      | zero =>
        have e : goD d = cutD d ks := by simp [goD, hon, hf]
        rw [e]; exact pw_cut h ks
      | succ n =>
        have e : goD d = { d with fuse := some (n, ks) } := by simp [goD, hon, hf]
        rw [e]; exact h
theorem al_mono {sv : List UInt8} {lt : List (List UInt8)} {q : Nat} {b : UInt8} (a : Nat) (c : UInt8) (h : Al sv lt q b) : Al sv (lt.set a (lt.getD a [] ++ [c])) q b := by
  rcases h with h | ⟨l, h1, h2⟩
  · exact .inl h
  · refine .inr ?_
    by_cases e : a = q
    · subst e
      have hl := (List.getElem?_eq_some_iff.1 h1).1
      refine ⟨_, List.getElem?_set_self hl, ?_⟩
      rw [List.getD_eq_getElem?_getD, h1]
      exact List.mem_append_left _ h2
    · exact ⟨l, by rw [List.getElem?_set_ne e]; exact h1, h2⟩
theorem pw_write {sv : List UInt8} {lt : List (List UInt8)} {d : Dv} (h : Pw sv lt d) (a : Nat) (ha : a < 4) (c : UInt8) (hl : lt.length = 4) (hg : goB d = true) (hn : d.safe.length = 4) : Pw sv (lt.set a (lt.getD a [] ++ [c])) (wrD d a (blk c)) := by
  have hin : inB d a = true := by simp [inB, hn]; omega
  have e : wrD d a (blk c) = { goD d with loose := (goD d).loose ++ [(a, blk c)], writes := d.writes + 1 } := by
    rw [wrD, hin, blk_len]
    simp [hg]
  rw [e]
  obtain ⟨g1, g2, g3⟩ := pw_go h
  refine ⟨g1, fun q x hq => ?_, fun y hy => ?_⟩
  · obtain ⟨k1, k2⟩ := g2 q x hq
    exact ⟨k1, fun k hk => by obtain ⟨b, hb, hb2⟩ := k2 k hk; exact ⟨b, al_mono a c hb, hb2⟩⟩
  · simp only [List.mem_append, List.mem_singleton] at hy
    rcases hy with hy | rfl
    · obtain ⟨k1, b, k2, k3⟩ := g3 y hy
      exact ⟨k1, b, k2, al_mono a c k3⟩
    · refine ⟨ha, c, rfl, .inr ⟨_, List.getElem?_set_self (by omega), ?_⟩⟩
      simp
theorem pw_burnt {sv : List UInt8} {lt : List (List UInt8)} {d : Dv} (h : Pw sv lt d) (a : Nat) (ha : a < 4) (c : UInt8) (hg : goB d = false) : wrD d a (blk c) = goD d ∧ wrE d a (blk c) = 4 ∧ (goD d).on = false := by
  have hin : inB d a = true := by simp [inB, h.1]; omega
  refine ⟨by rw [wrD, hin, blk_len]; simp [hg], by rw [wrE, hin, if_pos rfl, if_pos (blk_len c), hg]; rfl, ?_⟩
  cases hon : d.on
  · have e : goD d = d := by simp [goD, hon]
    rw [e]; exact hon
  · cases hf : d.fuse with
    | none => simp [goB, hon, hf] at hg
    | some x =>
      obtain ⟨n, ks⟩ := x
      cases n with
      | zero =>
        have e : goD d = cutD d ks := by simp [goD, hon, hf]
        rw [e]; simp [cutD, hon]
      | succ n => simp [goB, hon, hf] at hg

/-- What was written till now, laid. -/
theorem laid_now (zs : List Int) (sv : List UInt8) (i : Nat) (hl : sv.length = 4) (h : flushL z4 (wsOf zs i) = sv.map blk) : flushL z4 (wsOf zs (i + 1)) = (sv.set (atOf (zs.getD i 0)) (UInt8.ofNat (i + 1))).map blk := by
  rw [wsOf_succ, flushL_snoc, h, List.map_set]
theorem zero_blk : zeroB = blk 0 := rfl
theorem z4_map : z4 = (List.replicate 4 (0 : UInt8)).map blk := by rw [List.map_replicate]; rfl
/-- What was flushed. -/
theorem pw_flushed (zs : List Int) (sv : List UInt8) (n : Nat) (hl : sv.length = 4) (h : flushL z4 (wsOf zs n) = sv.map blk) (u : Int) (ks : List Bool) : Pw sv (List.replicate 4 []) (fuseD (flD (wd zs n)) u ks) ∧ Pw sv (List.replicate 4 []) (flD (wd zs n)) := by
  have e : (flD (wd zs n)).safe = sv.map blk := h
  have key : Pw sv (List.replicate 4 []) (flD (wd zs n)) := by
    refine ⟨by rw [e, List.length_map, hl], fun q x hq => ?_, fun y hy => by have : (flD (wd zs n)).loose = [] := rfl; rw [this] at hy; simp at hy⟩
    rw [e, List.getElem?_map] at hq
    obtain ⟨b, hb, rfl⟩ := Option.map_eq_some_iff.1 hq
    exact sec_blk (.inl hb)
  exact ⟨key, key⟩
theorem pw_come {sv : List UInt8} {lt : List (List UInt8)} {d : Dv} (h : Pw sv lt d) : Pw sv lt (comeD d) := by
  unfold comeD
  split
  · exact h
  · exact h
end Go.Proofs.Ytkmfpdpgbopdmaa
