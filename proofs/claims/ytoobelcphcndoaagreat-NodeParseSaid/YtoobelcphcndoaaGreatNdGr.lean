/-
  Whether a node is more than is asked (written by gengreat.py).
-/
import Derived.Test.YtoobelcphcndoaaGreatNdA
import Derived.Deep.LoopGhost
namespace Go.Proofs.YtoobelcphcndoaaGreat
open Go.RowKit Go.Sort
set_option linter.unusedVariables false
set_option linter.unusedSimpArgs false
set_option maxRecDepth 20000

/-- A node as the law is handed it. -/
def ndVal (b : Bool) (ia : Option Addr) (ni ic : Nat) (ka : Option Addr) (nk kc : Nat) (pa : Option Addr) (np pc : Nat) (a : Option Addr) (nm c : Nat) : Value := .agg #[.bool b, .slice ia ni ic, .slice ka nk kc, .slice pa np pc, .slice a nm c]
/-- .. in a block. -/
def NdBox (w : World) (g : Nat) (x0 x1 x2 x3 x4 : Value) : Prop := w.heap[g]? = some (.cells #[x0, x1, x2, x3, x4] 29 (0, 0))
theorem NdBox.all {w : World} {g : Nat} {x0 x1 x2 x3 x4 : Value} (h : NdBox w g x0 x1 x2 x3 x4) : w.cell? ⟨g, 0, none⟩ = some x0 ∧ w.cell? ⟨g, 1, none⟩ = some x1 ∧ w.cell? ⟨g, 2, none⟩ = some x2 ∧ w.cell? ⟨g, 3, none⟩ = some x3 ∧ w.cell? ⟨g, 4, none⟩ = some x4 :=
  ⟨by simpa using cell_of_block h 0, by simpa using cell_of_block h 1, by simpa using cell_of_block h 2, by simpa using cell_of_block h 3, by simpa using cell_of_block h 4⟩
theorem NdBox.fr {w : World} {g : Nat} {x0 x1 x2 x3 x4 : Value} (h : NdBox w g x0 x1 x2 x3 x4) (j : Nat) : w.frozen? ⟨g, j, none⟩ = false := frozen_of_block h j
theorem NdBox.step {w w' : World} {g : Nat} {x0 x1 x2 x3 x4 : Value} (h : NdBox w g x0 x1 x2 x3 x4) (hs : Step noF w w') : NdBox w' g x0 x1 x2 x3 x4 := (hs.block g (lt_of_block h) (fun x => x)).trans h
theorem ndBox_new (w : World) (x0 x1 x2 x3 x4 : Value) : NdBox (w.alloc (.cells #[x0, x1, x2, x3, x4] 29)) w.heap.size x0 x1 x2 x3 x4 := block_alloc_new w _
/-- No more than is asked. -/
structure Modest (xs : List Rg) (ks : List Int) (ps : List (List UInt8)) (ms : List Mg) : Prop where
  il : xs.length ≤ 60
  kl : ks.length ≤ 30
  pl : ps.length ≤ 30
  ml : ms.length ≤ 40
  its : ∀ x ∈ xs, x.lo.length ≤ 512 ∧ x.hi.length ≤ 512
  ps : ∀ x ∈ ps, x.length ≤ 512
  ms : ∀ x ∈ ms, x.key.length ≤ 512 ∧ x.val.length ≤ 512
set_option maxHeartbeats 8000000 in
theorem great12_any (b : Bool) (xs : List Rg) (hil : xs.length ≤ maxLen) (hiq : ∀ x ∈ xs, x.lo.length ≤ maxLen ∧ x.hi.length ≤ maxLen) (ks : List Int) (hkl : ks.length ≤ maxLen) (ps : List (List UInt8)) (hpl : ps.length ≤ maxLen) (hpq : ∀ x ∈ ps, x.length ≤ maxLen) (ms : List Mg) (hml : ms.length ≤ maxLen) (hmq : ∀ x ∈ ms, x.key.length ≤ maxLen ∧ x.val.length ≤ maxLen)
    (ia ka pa a : Option Addr) (ic kc pc c : Nat) (w : World) (hi : RgsAt w ia xs) (hp : RowAt w noF pa (texts ps)) (h : MsgsAt w noF a ms) :
    Calls Tryz.prog 8 #[.agg #[.bool b, .slice ia xs.length ic, .slice ka ks.length kc, .slice pa ps.length pc, .slice a ms.length c]] w fun e w' => (e = .returned (.bool true) ∨ (e = .returned (.bool false) ∧ Modest xs ks ps ms)) ∧ Step noF w w' := by
  have hz := str_size
  have S0 : Step noF w (w.alloc (.cells #[.bool b, .slice ia xs.length ic, .slice ka ks.length kc, .slice pa ps.length pc, .slice a ms.length c] 29)) := (Step.refl _ _).alloc _
  have HRI := hid (hi.step S0)
  have HRP := hid (hp.step S0)
  have HRM := hid (h.stepB S0)
  have ST := hid S0
  obtain ⟨b0, b1, b2, b3, b4⟩ := (ndBox_new w (.bool b) (.slice ia xs.length ic) (.slice ka ks.length kc) (.slice pa ps.length pc) (.slice a ms.length c)).all
  have HIQ := hid hiq
  have HPQ := hid hpq
  have HMQ := hid hmq
  unfold maxLen at hil hkl hpl hml
  clear hi hp h hiq hpq hmq S0
  obtain ⟨W, hW⟩ : ∃ W, w.alloc (.cells #[.bool b, .slice ia xs.length ic, .slice ka ks.length kc, .slice pa ps.length pc, .slice a ms.length c] 29) = W := ⟨_, rfl⟩
  rw [hW] at HRI HRP HRM ST b0 b1 b2 b3 b4
  have HW := hid hW
  clear hW
  obtain ⟨g0, hg0⟩ : ∃ g, w.heap.size = g := ⟨_, rfl⟩
  rw [hg0] at b0 b1 b2 b3 b4
  have HG0 := hid hg0
  clear hg0
  go_enter Tryz.func8, Tryz.ntmps8
  go_wp2_with fail
  rw [HW.out, HG0.out]
  clear HW
  go_loopg [3] 61 (fun kx s wr => ∃ (j : Nat), s = .int .i64 j ∧ j ≤ xs.length ∧ j ≤ 61 ∧ 61 - j ≤ kx ∧ wr = W ∧ Hid (∀ i (h : i < xs.length), i < j → xs[i].lo.length ≤ 512 ∧ xs[i].hi.length ≤ 512))
  case atStart => exact ⟨0, rfl, by omega, by omega, by omega, rfl, fun i _ h => absurd h (by omega)⟩
  case round =>
    obtain ⟨j, rfl, hj, hj2, hkx, hww, HI⟩ := hrel
    rw [hww]
    clear hww
    by_cases hin : j < xs.length ∧ j < 61
    · obtain ⟨hjl, hj61⟩ := hin
      have hjz : (j : Int) < (xs.length : Int) := by omega
      have hjz2 : (j : Int) < 61 := by omega
      obtain ⟨g, off, rfl, c0, c1⟩ := HRI.out.at j hjl
      have hb := HIQ.out xs[j] (List.getElem_mem hjl)
      unfold maxLen at hb
      have HN : Hid (xs[j].lo.length ≤ 512 → xs[j].hi.length ≤ 512 → ∀ i (h : i < xs.length), i < j + 1 → xs[i].lo.length ≤ 512 ∧ xs[i].hi.length ≤ 512) := fun h1 h2 i hi hij => by
        rcases Nat.lt_or_eq_of_le (Nat.le_of_lt_succ hij) with e | e
        · exact HI.out i hi e
        · subst e; exact ⟨h1, h2⟩
      obtain ⟨⟨x, y⟩, hm⟩ : ∃ m, xs[j] = m := ⟨_, rfl⟩
      rw [hm] at c0 c1 HN hb
      clear hm
      simp only at hb
      obtain ⟨hb1, hb2⟩ := hb
      by_cases q1 : 512 < x.length
      · have qz1 : (512 : Int) < (x.length : Int) := by omega
        go_wp2_with fail
        go_ret
        exact ⟨.inl rfl, ST.out⟩
      · have qz1 : ¬ (512 : Int) < (x.length : Int) := by omega
        by_cases q2 : 512 < y.length
        · have qz2 : (512 : Int) < (y.length : Int) := by omega
          go_wp2_with fail
          go_ret
          exact ⟨.inl rfl, ST.out⟩
        · have qz2 : ¬ (512 : Int) < (y.length : Int) := by omega
          have HN2 := hid (HN.out (by simp; omega) (by simp; omega))
          go_wp2_with fail
          go_roundg (61 - (j + 1))
          case measure => omega
          case rel => exact ⟨j + 1, by simp, by omega, by omega, Nat.le_refl _, rfl, HN2⟩
    · have HA : Hid (xs.length ≤ 60 → ∀ x ∈ xs, x.lo.length ≤ 512 ∧ x.hi.length ≤ 512) := fun h30 x hx => by
        obtain ⟨i, hi, rfl⟩ := List.getElem_of_mem hx
        exact HI.out i hi (by omega)
      have hstop : ¬ (j : Int) < (xs.length : Int) ∨ ((j : Int) < (xs.length : Int) ∧ ¬ (j : Int) < 61) := by omega
      clear HI hin hkx
      obtain ⟨j0, hjj⟩ : ∃ i, j = i := ⟨_, rfl⟩
      subst hjj
      rcases hstop with y0 | ⟨y0, z0⟩
      · skip
        go_wp2_with fail
        go_loopg [4] 31 (fun kx s wr => ∃ (j : Nat), s = .int .i64 j ∧ j ≤ ps.length ∧ j ≤ 31 ∧ 31 - j ≤ kx ∧ wr = W ∧ Hid (∀ i (h : i < ps.length), i < j → ps[i].length ≤ 512))
        case atStart => exact ⟨0, rfl, by omega, by omega, by omega, rfl, fun i _ h => absurd h (by omega)⟩
        case round =>
          obtain ⟨j, rfl, hj, hj2, hkx, hww, HI⟩ := hrel
          rw [hww]
          clear hww
          by_cases hin : j < ps.length ∧ j < 31
          · obtain ⟨hjl, hj61⟩ := hin
            have hjz : (j : Int) < (ps.length : Int) := by omega
            have hjz2 : (j : Int) < 31 := by omega
            obtain ⟨g, off, rfl, c0⟩ := texts_at HRP.out j hjl
            have hb := HPQ.out ps[j] (List.getElem_mem hjl)
            unfold maxLen at hb
            have HN : Hid (ps[j].length ≤ 512 → ∀ i (h : i < ps.length), i < j + 1 → ps[i].length ≤ 512) := fun h1 i hi hij => by
              rcases Nat.lt_or_eq_of_le (Nat.le_of_lt_succ hij) with e | e
              · exact HI.out i hi e
              · subst e; exact h1
            obtain ⟨x, hm⟩ : ∃ m, ps[j] = m := ⟨_, rfl⟩
            rw [hm] at c0 HN hb
            clear hm
            by_cases q1 : 512 < x.length
            · have qz1 : (512 : Int) < (x.length : Int) := by omega
              go_wp2_with fail
              go_ret
              exact ⟨.inl rfl, ST.out⟩
            · have qz1 : ¬ (512 : Int) < (x.length : Int) := by omega
              have HN2 := hid (HN.out (by omega))
              go_wp2_with fail
              go_roundg (31 - (j + 1))
              case measure => omega
              case rel => exact ⟨j + 1, by simp, by omega, by omega, Nat.le_refl _, rfl, HN2⟩
          · have HB : Hid (ps.length ≤ 30 → ∀ x ∈ ps, x.length ≤ 512) := fun h30 x hx => by
              obtain ⟨i, hi, rfl⟩ := List.getElem_of_mem hx
              exact HI.out i hi (by omega)
            have hstop : ¬ (j : Int) < (ps.length : Int) ∨ ((j : Int) < (ps.length : Int) ∧ ¬ (j : Int) < 31) := by omega
            clear HI hin hkx
            obtain ⟨j1, hjj⟩ : ∃ i, j = i := ⟨_, rfl⟩
            subst hjj
            rcases hstop with y1 | ⟨y1, z1⟩
            · skip
              go_wp2_with fail
              go_loopg [5] 41 (fun kx s wr => ∃ (j : Nat), s = .int .i64 j ∧ j ≤ ms.length ∧ j ≤ 41 ∧ 41 - j ≤ kx ∧ wr = W ∧ Hid (∀ i (h : i < ms.length), i < j → ms[i].key.length ≤ 512 ∧ ms[i].val.length ≤ 512))
              case atStart => exact ⟨0, rfl, by omega, by omega, by omega, rfl, fun i _ h => absurd h (by omega)⟩
              case round =>
                obtain ⟨j, rfl, hj, hj2, hkx, hww, HI⟩ := hrel
                rw [hww]
                clear hww
                by_cases hin : j < ms.length ∧ j < 41
                · obtain ⟨hjl, hj61⟩ := hin
                  have hjz : (j : Int) < (ms.length : Int) := by omega
                  have hjz2 : (j : Int) < 41 := by omega
                  obtain ⟨g, off, rfl, _, c0, c1⟩ := HRM.out.at j hjl
                  have hb := HMQ.out ms[j] (List.getElem_mem hjl)
                  unfold maxLen at hb
                  have HN : Hid (ms[j].key.length ≤ 512 → ms[j].val.length ≤ 512 → ∀ i (h : i < ms.length), i < j + 1 → ms[i].key.length ≤ 512 ∧ ms[i].val.length ≤ 512) := fun h1 h2 i hi hij => by
                    rcases Nat.lt_or_eq_of_le (Nat.le_of_lt_succ hij) with e | e
                    · exact HI.out i hi e
                    · subst e; exact ⟨h1, h2⟩
                  obtain ⟨⟨z, x, y⟩, hm⟩ : ∃ m, ms[j] = m := ⟨_, rfl⟩
                  rw [hm] at c0 c1 HN hb
                  clear hm
                  simp only at hb
                  obtain ⟨hb1, hb2⟩ := hb
                  by_cases q1 : 512 < x.length
                  · have qz1 : (512 : Int) < (x.length : Int) := by omega
                    go_wp2_with fail
                    go_ret
                    exact ⟨.inl rfl, ST.out⟩
                  · have qz1 : ¬ (512 : Int) < (x.length : Int) := by omega
                    by_cases q2 : 512 < y.length
                    · have qz2 : (512 : Int) < (y.length : Int) := by omega
                      go_wp2_with fail
                      go_ret
                      exact ⟨.inl rfl, ST.out⟩
                    · have qz2 : ¬ (512 : Int) < (y.length : Int) := by omega
                      have HN2 := hid (HN.out (by simp; omega) (by simp; omega))
                      go_wp2_with fail
                      go_roundg (41 - (j + 1))
                      case measure => omega
                      case rel => exact ⟨j + 1, by simp, by omega, by omega, Nat.le_refl _, rfl, HN2⟩
                · have HC : Hid (ms.length ≤ 40 → ∀ x ∈ ms, x.key.length ≤ 512 ∧ x.val.length ≤ 512) := fun h30 x hx => by
                    obtain ⟨i, hi, rfl⟩ := List.getElem_of_mem hx
                    exact HI.out i hi (by omega)
                  have hstop : ¬ (j : Int) < (ms.length : Int) ∨ ((j : Int) < (ms.length : Int) ∧ ¬ (j : Int) < 41) := by omega
                  clear HI hin hkx
                  obtain ⟨j2, hjj⟩ : ∃ i, j = i := ⟨_, rfl⟩
                  subst hjj
                  rcases hstop with y2 | ⟨y2, z2⟩
                  · skip
                    by_cases g0 : 60 < xs.length
                    · have gz0 : (60 : Int) < (xs.length : Int) := by omega
                      go_wp2_with fail
                      go_ret
                      exact ⟨.inl rfl, ST.out⟩
                    · have gz0 : ¬ (60 : Int) < (xs.length : Int) := by omega
                      by_cases g1 : 30 < ks.length
                      · have gz1 : (30 : Int) < (ks.length : Int) := by omega
                        go_wp2_with fail
                        go_ret
                        exact ⟨.inl rfl, ST.out⟩
                      · have gz1 : ¬ (30 : Int) < (ks.length : Int) := by omega
                        by_cases g2 : 30 < ps.length
                        · have gz2 : (30 : Int) < (ps.length : Int) := by omega
                          go_wp2_with fail
                          go_ret
                          exact ⟨.inl rfl, ST.out⟩
                        · have gz2 : ¬ (30 : Int) < (ps.length : Int) := by omega
                          by_cases g3 : 40 < ms.length
                          · have gz3 : (40 : Int) < (ms.length : Int) := by omega
                            go_wp2_with fail
                            go_ret
                            exact ⟨.inl rfl, ST.out⟩
                          · have gz3 : ¬ (40 : Int) < (ms.length : Int) := by omega
                            go_wp2_with fail
                            go_ret
                            exact ⟨.inr ⟨rfl, ⟨by omega, by omega, by omega, by omega, HA.out (by omega), HB.out (by omega), HC.out (by omega)⟩⟩, ST.out⟩
                  · skip
                    by_cases g0 : 60 < xs.length
                    · have gz0 : (60 : Int) < (xs.length : Int) := by omega
                      go_wp2_with fail
                      go_ret
                      exact ⟨.inl rfl, ST.out⟩
                    · have gz0 : ¬ (60 : Int) < (xs.length : Int) := by omega
                      by_cases g1 : 30 < ks.length
                      · have gz1 : (30 : Int) < (ks.length : Int) := by omega
                        go_wp2_with fail
                        go_ret
                        exact ⟨.inl rfl, ST.out⟩
                      · have gz1 : ¬ (30 : Int) < (ks.length : Int) := by omega
                        by_cases g2 : 30 < ps.length
                        · have gz2 : (30 : Int) < (ps.length : Int) := by omega
                          go_wp2_with fail
                          go_ret
                          exact ⟨.inl rfl, ST.out⟩
                        · have gz2 : ¬ (30 : Int) < (ps.length : Int) := by omega
                          have gz3 : (40 : Int) < (ms.length : Int) := by omega
                          go_wp2_with fail
                          go_ret
                          exact ⟨.inl rfl, ST.out⟩
            · skip
              go_wp2_with fail
              go_loopg [5] 41 (fun kx s wr => ∃ (j : Nat), s = .int .i64 j ∧ j ≤ ms.length ∧ j ≤ 41 ∧ 41 - j ≤ kx ∧ wr = W ∧ Hid (∀ i (h : i < ms.length), i < j → ms[i].key.length ≤ 512 ∧ ms[i].val.length ≤ 512))
              case atStart => exact ⟨0, rfl, by omega, by omega, by omega, rfl, fun i _ h => absurd h (by omega)⟩
              case round =>
                obtain ⟨j, rfl, hj, hj2, hkx, hww, HI⟩ := hrel
                rw [hww]
                clear hww
                by_cases hin : j < ms.length ∧ j < 41
                · obtain ⟨hjl, hj61⟩ := hin
                  have hjz : (j : Int) < (ms.length : Int) := by omega
                  have hjz2 : (j : Int) < 41 := by omega
                  obtain ⟨g, off, rfl, _, c0, c1⟩ := HRM.out.at j hjl
                  have hb := HMQ.out ms[j] (List.getElem_mem hjl)
                  unfold maxLen at hb
                  have HN : Hid (ms[j].key.length ≤ 512 → ms[j].val.length ≤ 512 → ∀ i (h : i < ms.length), i < j + 1 → ms[i].key.length ≤ 512 ∧ ms[i].val.length ≤ 512) := fun h1 h2 i hi hij => by
                    rcases Nat.lt_or_eq_of_le (Nat.le_of_lt_succ hij) with e | e
                    · exact HI.out i hi e
                    · subst e; exact ⟨h1, h2⟩
                  obtain ⟨⟨z, x, y⟩, hm⟩ : ∃ m, ms[j] = m := ⟨_, rfl⟩
                  rw [hm] at c0 c1 HN hb
                  clear hm
                  simp only at hb
                  obtain ⟨hb1, hb2⟩ := hb
                  by_cases q1 : 512 < x.length
                  · have qz1 : (512 : Int) < (x.length : Int) := by omega
                    go_wp2_with fail
                    go_ret
                    exact ⟨.inl rfl, ST.out⟩
                  · have qz1 : ¬ (512 : Int) < (x.length : Int) := by omega
                    by_cases q2 : 512 < y.length
                    · have qz2 : (512 : Int) < (y.length : Int) := by omega
                      go_wp2_with fail
                      go_ret
                      exact ⟨.inl rfl, ST.out⟩
                    · have qz2 : ¬ (512 : Int) < (y.length : Int) := by omega
                      have HN2 := hid (HN.out (by simp; omega) (by simp; omega))
                      go_wp2_with fail
                      go_roundg (41 - (j + 1))
                      case measure => omega
                      case rel => exact ⟨j + 1, by simp, by omega, by omega, Nat.le_refl _, rfl, HN2⟩
                · have HC : Hid (ms.length ≤ 40 → ∀ x ∈ ms, x.key.length ≤ 512 ∧ x.val.length ≤ 512) := fun h30 x hx => by
                    obtain ⟨i, hi, rfl⟩ := List.getElem_of_mem hx
                    exact HI.out i hi (by omega)
                  have hstop : ¬ (j : Int) < (ms.length : Int) ∨ ((j : Int) < (ms.length : Int) ∧ ¬ (j : Int) < 41) := by omega
                  clear HI hin hkx
                  obtain ⟨j2, hjj⟩ : ∃ i, j = i := ⟨_, rfl⟩
                  subst hjj
                  rcases hstop with y2 | ⟨y2, z2⟩
                  · skip
                    by_cases g0 : 60 < xs.length
                    · have gz0 : (60 : Int) < (xs.length : Int) := by omega
                      go_wp2_with fail
                      go_ret
                      exact ⟨.inl rfl, ST.out⟩
                    · have gz0 : ¬ (60 : Int) < (xs.length : Int) := by omega
                      by_cases g1 : 30 < ks.length
                      · have gz1 : (30 : Int) < (ks.length : Int) := by omega
                        go_wp2_with fail
                        go_ret
                        exact ⟨.inl rfl, ST.out⟩
                      · have gz1 : ¬ (30 : Int) < (ks.length : Int) := by omega
                        have gz2 : (30 : Int) < (ps.length : Int) := by omega
                        go_wp2_with fail
                        go_ret
                        exact ⟨.inl rfl, ST.out⟩
                  · skip
                    by_cases g0 : 60 < xs.length
                    · have gz0 : (60 : Int) < (xs.length : Int) := by omega
                      go_wp2_with fail
                      go_ret
                      exact ⟨.inl rfl, ST.out⟩
                    · have gz0 : ¬ (60 : Int) < (xs.length : Int) := by omega
                      by_cases g1 : 30 < ks.length
                      · have gz1 : (30 : Int) < (ks.length : Int) := by omega
                        go_wp2_with fail
                        go_ret
                        exact ⟨.inl rfl, ST.out⟩
                      · have gz1 : ¬ (30 : Int) < (ks.length : Int) := by omega
                        have gz2 : (30 : Int) < (ps.length : Int) := by omega
                        go_wp2_with fail
                        go_ret
                        exact ⟨.inl rfl, ST.out⟩
      · skip
        go_wp2_with fail
        go_loopg [4] 31 (fun kx s wr => ∃ (j : Nat), s = .int .i64 j ∧ j ≤ ps.length ∧ j ≤ 31 ∧ 31 - j ≤ kx ∧ wr = W ∧ Hid (∀ i (h : i < ps.length), i < j → ps[i].length ≤ 512))
        case atStart => exact ⟨0, rfl, by omega, by omega, by omega, rfl, fun i _ h => absurd h (by omega)⟩
        case round =>
          obtain ⟨j, rfl, hj, hj2, hkx, hww, HI⟩ := hrel
          rw [hww]
          clear hww
          by_cases hin : j < ps.length ∧ j < 31
          · obtain ⟨hjl, hj61⟩ := hin
            have hjz : (j : Int) < (ps.length : Int) := by omega
            have hjz2 : (j : Int) < 31 := by omega
            obtain ⟨g, off, rfl, c0⟩ := texts_at HRP.out j hjl
            have hb := HPQ.out ps[j] (List.getElem_mem hjl)
            unfold maxLen at hb
            have HN : Hid (ps[j].length ≤ 512 → ∀ i (h : i < ps.length), i < j + 1 → ps[i].length ≤ 512) := fun h1 i hi hij => by
              rcases Nat.lt_or_eq_of_le (Nat.le_of_lt_succ hij) with e | e
              · exact HI.out i hi e
              · subst e; exact h1
            obtain ⟨x, hm⟩ : ∃ m, ps[j] = m := ⟨_, rfl⟩
            rw [hm] at c0 HN hb
            clear hm
            by_cases q1 : 512 < x.length
            · have qz1 : (512 : Int) < (x.length : Int) := by omega
              go_wp2_with fail
              go_ret
              exact ⟨.inl rfl, ST.out⟩
            · have qz1 : ¬ (512 : Int) < (x.length : Int) := by omega
              have HN2 := hid (HN.out (by omega))
              go_wp2_with fail
              go_roundg (31 - (j + 1))
              case measure => omega
              case rel => exact ⟨j + 1, by simp, by omega, by omega, Nat.le_refl _, rfl, HN2⟩
          · have HB : Hid (ps.length ≤ 30 → ∀ x ∈ ps, x.length ≤ 512) := fun h30 x hx => by
              obtain ⟨i, hi, rfl⟩ := List.getElem_of_mem hx
              exact HI.out i hi (by omega)
            have hstop : ¬ (j : Int) < (ps.length : Int) ∨ ((j : Int) < (ps.length : Int) ∧ ¬ (j : Int) < 31) := by omega
            clear HI hin hkx
            obtain ⟨j1, hjj⟩ : ∃ i, j = i := ⟨_, rfl⟩
            subst hjj
            rcases hstop with y1 | ⟨y1, z1⟩
            · skip
              go_wp2_with fail
              go_loopg [5] 41 (fun kx s wr => ∃ (j : Nat), s = .int .i64 j ∧ j ≤ ms.length ∧ j ≤ 41 ∧ 41 - j ≤ kx ∧ wr = W ∧ Hid (∀ i (h : i < ms.length), i < j → ms[i].key.length ≤ 512 ∧ ms[i].val.length ≤ 512))
              case atStart => exact ⟨0, rfl, by omega, by omega, by omega, rfl, fun i _ h => absurd h (by omega)⟩
              case round =>
                obtain ⟨j, rfl, hj, hj2, hkx, hww, HI⟩ := hrel
                rw [hww]
                clear hww
                by_cases hin : j < ms.length ∧ j < 41
                · obtain ⟨hjl, hj61⟩ := hin
                  have hjz : (j : Int) < (ms.length : Int) := by omega
                  have hjz2 : (j : Int) < 41 := by omega
                  obtain ⟨g, off, rfl, _, c0, c1⟩ := HRM.out.at j hjl
                  have hb := HMQ.out ms[j] (List.getElem_mem hjl)
                  unfold maxLen at hb
                  have HN : Hid (ms[j].key.length ≤ 512 → ms[j].val.length ≤ 512 → ∀ i (h : i < ms.length), i < j + 1 → ms[i].key.length ≤ 512 ∧ ms[i].val.length ≤ 512) := fun h1 h2 i hi hij => by
                    rcases Nat.lt_or_eq_of_le (Nat.le_of_lt_succ hij) with e | e
                    · exact HI.out i hi e
                    · subst e; exact ⟨h1, h2⟩
                  obtain ⟨⟨z, x, y⟩, hm⟩ : ∃ m, ms[j] = m := ⟨_, rfl⟩
                  rw [hm] at c0 c1 HN hb
                  clear hm
                  simp only at hb
                  obtain ⟨hb1, hb2⟩ := hb
                  by_cases q1 : 512 < x.length
                  · have qz1 : (512 : Int) < (x.length : Int) := by omega
                    go_wp2_with fail
                    go_ret
                    exact ⟨.inl rfl, ST.out⟩
                  · have qz1 : ¬ (512 : Int) < (x.length : Int) := by omega
                    by_cases q2 : 512 < y.length
                    · have qz2 : (512 : Int) < (y.length : Int) := by omega
                      go_wp2_with fail
                      go_ret
                      exact ⟨.inl rfl, ST.out⟩
                    · have qz2 : ¬ (512 : Int) < (y.length : Int) := by omega
                      have HN2 := hid (HN.out (by simp; omega) (by simp; omega))
                      go_wp2_with fail
                      go_roundg (41 - (j + 1))
                      case measure => omega
                      case rel => exact ⟨j + 1, by simp, by omega, by omega, Nat.le_refl _, rfl, HN2⟩
                · have HC : Hid (ms.length ≤ 40 → ∀ x ∈ ms, x.key.length ≤ 512 ∧ x.val.length ≤ 512) := fun h30 x hx => by
                    obtain ⟨i, hi, rfl⟩ := List.getElem_of_mem hx
                    exact HI.out i hi (by omega)
                  have hstop : ¬ (j : Int) < (ms.length : Int) ∨ ((j : Int) < (ms.length : Int) ∧ ¬ (j : Int) < 41) := by omega
                  clear HI hin hkx
                  obtain ⟨j2, hjj⟩ : ∃ i, j = i := ⟨_, rfl⟩
                  subst hjj
                  rcases hstop with y2 | ⟨y2, z2⟩
                  · skip
                    have gz0 : (60 : Int) < (xs.length : Int) := by omega
                    go_wp2_with fail
                    go_ret
                    exact ⟨.inl rfl, ST.out⟩
                  · skip
                    have gz0 : (60 : Int) < (xs.length : Int) := by omega
                    go_wp2_with fail
                    go_ret
                    exact ⟨.inl rfl, ST.out⟩
            · skip
              go_wp2_with fail
              go_loopg [5] 41 (fun kx s wr => ∃ (j : Nat), s = .int .i64 j ∧ j ≤ ms.length ∧ j ≤ 41 ∧ 41 - j ≤ kx ∧ wr = W ∧ Hid (∀ i (h : i < ms.length), i < j → ms[i].key.length ≤ 512 ∧ ms[i].val.length ≤ 512))
              case atStart => exact ⟨0, rfl, by omega, by omega, by omega, rfl, fun i _ h => absurd h (by omega)⟩
              case round =>
                obtain ⟨j, rfl, hj, hj2, hkx, hww, HI⟩ := hrel
                rw [hww]
                clear hww
                by_cases hin : j < ms.length ∧ j < 41
                · obtain ⟨hjl, hj61⟩ := hin
                  have hjz : (j : Int) < (ms.length : Int) := by omega
                  have hjz2 : (j : Int) < 41 := by omega
                  obtain ⟨g, off, rfl, _, c0, c1⟩ := HRM.out.at j hjl
                  have hb := HMQ.out ms[j] (List.getElem_mem hjl)
                  unfold maxLen at hb
                  have HN : Hid (ms[j].key.length ≤ 512 → ms[j].val.length ≤ 512 → ∀ i (h : i < ms.length), i < j + 1 → ms[i].key.length ≤ 512 ∧ ms[i].val.length ≤ 512) := fun h1 h2 i hi hij => by
                    rcases Nat.lt_or_eq_of_le (Nat.le_of_lt_succ hij) with e | e
                    · exact HI.out i hi e
                    · subst e; exact ⟨h1, h2⟩
                  obtain ⟨⟨z, x, y⟩, hm⟩ : ∃ m, ms[j] = m := ⟨_, rfl⟩
                  rw [hm] at c0 c1 HN hb
                  clear hm
                  simp only at hb
                  obtain ⟨hb1, hb2⟩ := hb
                  by_cases q1 : 512 < x.length
                  · have qz1 : (512 : Int) < (x.length : Int) := by omega
                    go_wp2_with fail
                    go_ret
                    exact ⟨.inl rfl, ST.out⟩
                  · have qz1 : ¬ (512 : Int) < (x.length : Int) := by omega
                    by_cases q2 : 512 < y.length
                    · have qz2 : (512 : Int) < (y.length : Int) := by omega
                      go_wp2_with fail
                      go_ret
                      exact ⟨.inl rfl, ST.out⟩
                    · have qz2 : ¬ (512 : Int) < (y.length : Int) := by omega
                      have HN2 := hid (HN.out (by simp; omega) (by simp; omega))
                      go_wp2_with fail
                      go_roundg (41 - (j + 1))
                      case measure => omega
                      case rel => exact ⟨j + 1, by simp, by omega, by omega, Nat.le_refl _, rfl, HN2⟩
                · have HC : Hid (ms.length ≤ 40 → ∀ x ∈ ms, x.key.length ≤ 512 ∧ x.val.length ≤ 512) := fun h30 x hx => by
                    obtain ⟨i, hi, rfl⟩ := List.getElem_of_mem hx
                    exact HI.out i hi (by omega)
                  have hstop : ¬ (j : Int) < (ms.length : Int) ∨ ((j : Int) < (ms.length : Int) ∧ ¬ (j : Int) < 41) := by omega
                  clear HI hin hkx
                  obtain ⟨j2, hjj⟩ : ∃ i, j = i := ⟨_, rfl⟩
                  subst hjj
                  rcases hstop with y2 | ⟨y2, z2⟩
                  · skip
                    have gz0 : (60 : Int) < (xs.length : Int) := by omega
                    go_wp2_with fail
                    go_ret
                    exact ⟨.inl rfl, ST.out⟩
                  · skip
                    have gz0 : (60 : Int) < (xs.length : Int) := by omega
                    go_wp2_with fail
                    go_ret
                    exact ⟨.inl rfl, ST.out⟩
end Go.Proofs.YtoobelcphcndoaaGreat
