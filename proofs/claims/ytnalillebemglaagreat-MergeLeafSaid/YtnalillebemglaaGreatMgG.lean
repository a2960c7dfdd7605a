/-
  great of layer 13: what its laws ask of the runs first.
-/
import Derived.Test.YtnalillebemglaaGreatMgA
namespace Go.Proofs.YtnalillebemglaaGreat
open Go.RowKit Go.Sort
set_option linter.unusedVariables false
set_option linter.unusedSimpArgs false
set_option maxRecDepth 20000

def LowR (r : List Mg) : Prop := ∀ m ∈ r, m.key.length ≤ 512 ∧ m.val.length ≤ 512
def ModR (rs : List (List Mg)) : Prop := rs.length ≤ 10 ∧ ∀ r ∈ rs, r.length ≤ 30 ∧ LowR r
set_option maxHeartbeats 4000000 in
theorem greatR_any (rs : List (List Mg)) (hx : rs.length ≤ maxLen) (hq : ∀ r ∈ rs, r.length ≤ maxLen ∧ ∀ m ∈ r, m.key.length ≤ maxLen ∧ m.val.length ≤ maxLen) (a : Option Addr) (c : Nat) (w : World) (h : RunsAt w a rs) :
    Calls Tryz.prog 8 #[.slice a rs.length c] w fun e w' => (e = .returned (.bool true) ∨ (e = .returned (.bool false) ∧ ModR rs)) ∧ w = w' := by
  have hz := str_size
  have HR := hid h
  have HQ := hid hq
  unfold maxLen at hx
  clear h hq
  go_enter Tryz.func8, Tryz.ntmps8
  go_wp2_with fail
  go_loopg [3] 12 (fun kx s3 wr => ∃ (j : Nat), s3 = .int .i64 j ∧ j ≤ rs.length ∧ j ≤ 11 ∧ 11 - j ≤ kx ∧ wr = w ∧ Hid (∀ i (h : i < rs.length), i < j → rs[i].length ≤ 30 ∧ LowR rs[i]))
  case atStart => exact ⟨0, rfl, by omega, by omega, by omega, rfl, fun i _ h => absurd h (by omega)⟩
  case round =>
    obtain ⟨j, rfl, hj, hj2, hkx, rfl, HI⟩ := hrel
    by_cases hjl : j < rs.length
    · have hjz : (j : Int) < (rs.length : Int) := by omega
      by_cases hj11 : j < 11
      · have hjz2 : (j : Int) < 11 := by omega
        obtain ⟨b, off, rfl, aj, cj, r0, hcj, hlc, hm⟩ := HR.out.at j hjl
        have hb := HQ.out rs[j] (List.getElem_mem hjl)
        obtain ⟨r, hr⟩ : ∃ r, rs[j] = r := ⟨_, rfl⟩
        have HRJ := hid hr
        rw [hr] at r0 hlc hm hb
        have HM := hid hm
        unfold maxLen at hb
        have HB := hid hb.2
        obtain ⟨n, hn⟩ : ∃ n, r.length = n := ⟨_, rfl⟩
        have hnb := hb.1
        rw [hn] at r0 hlc hnb
        clear hr hm hb
        by_cases hg : 30 < n
        · have hgz : (30 : Int) < (n : Int) := by omega
          go_wp2_with fail
          go_ret
          exact ⟨.inl rfl, rfl⟩
        · have hgz : ¬ (30 : Int) < (n : Int) := by omega
          go_wp2_with fail
          go_loopg [4] 31 (fun ky s4 wr2 => ∃ (k : Nat), s4 = .int .i64 k ∧ k ≤ n ∧ n - k ≤ ky ∧ wr2 = wr ∧ Hid (∀ i (h : i < r.length), i < k → r[i].key.length ≤ 512 ∧ r[i].val.length ≤ 512))
          case atStart => exact ⟨0, rfl, by omega, by omega, rfl, fun i _ h => absurd h (by omega)⟩
          case round =>
            obtain ⟨k, rfl, hk, hky, rfl, HK⟩ := hrel
            by_cases hkn : k < n
            · have hkz : (k : Int) < (n : Int) := by omega
              obtain ⟨g, o, rfl, _, c0, c1⟩ := HM.out.at k (by omega)
              have hkl : k < r.length := by omega
              have hb := HB.out r[k] (List.getElem_mem hkl)
              have HN : Hid (r[k].key.length ≤ 512 → r[k].val.length ≤ 512 → ∀ i (h : i < r.length), i < k + 1 → r[i].key.length ≤ 512 ∧ r[i].val.length ≤ 512) := fun h1 h2 i hi hij => by
                rcases Nat.lt_or_eq_of_le (Nat.le_of_lt_succ hij) with e | e
                · exact HK.out i hi e
                · subst e; exact ⟨h1, h2⟩
              obtain ⟨⟨z, x, y⟩, hm⟩ : ∃ m, r[k] = m := ⟨_, rfl⟩
              rw [hm] at c0 c1 HN hb
              clear hm
              simp only at hb
              obtain ⟨hb1, hb2⟩ := hb
              by_cases g1 : 512 < x.length
              · have gz1 : (512 : Int) < (x.length : Int) := by omega
                go_wp2_with fail
                go_ret
                exact ⟨.inl rfl, rfl⟩
              · have gz1 : ¬ (512 : Int) < (x.length : Int) := by omega
                by_cases g2 : 512 < y.length
                · have gz2 : (512 : Int) < (y.length : Int) := by omega
                  go_wp2_with fail
                  go_ret
                  exact ⟨.inl rfl, rfl⟩
                · have gz2 : ¬ (512 : Int) < (y.length : Int) := by omega
                  have HN2 := hid (HN.out (by simp; omega) (by simp; omega))
                  go_wp2_with fail
                  go_roundg (n - (k + 1))
                  case measure => omega
                  case rel => exact ⟨k + 1, by simp, by omega, Nat.le_refl _, rfl, HN2⟩
            · have hkz : ¬ (k : Int) < (n : Int) := by omega
              obtain rfl : k = n := by omega
              have HNEW : Hid (∀ i (h : i < rs.length), i < j + 1 → rs[i].length ≤ 30 ∧ LowR rs[i]) := fun i hi hij => by
                rcases Nat.lt_or_eq_of_le (Nat.le_of_lt_succ hij) with e | e
                · exact HI.out i hi e
                · subst e
                  rw [HRJ.out]
                  refine ⟨by omega, fun m hm => ?_⟩
                  obtain ⟨q, hq, rfl⟩ := List.getElem_of_mem hm
                  exact HK.out q hq (by omega)
              go_wp2_with fail
              go_roundg (11 - (j + 1))
              case measure => omega
              case rel => exact ⟨j + 1, by simp, by omega, by omega, Nat.le_refl _, rfl, HNEW⟩
      · have hjz2 : ¬ (j : Int) < 11 := by omega
        have hgr : (10 : Int) < (rs.length : Int) := by omega
        go_wp2_with fail
        go_ret
        exact ⟨.inl rfl, rfl⟩
    · have hjz : ¬ (j : Int) < (rs.length : Int) := by omega
      obtain rfl : j = rs.length := by omega
      by_cases hgr : 10 < rs.length
      · have hgz : (10 : Int) < (rs.length : Int) := by omega
        go_wp2_with fail
        go_ret
        exact ⟨.inl rfl, rfl⟩
      · have hgz : ¬ (10 : Int) < (rs.length : Int) := by omega
        go_wp2_with fail
        go_ret
        refine ⟨.inr ⟨rfl, by omega, fun x hx => ?_⟩, rfl⟩
        obtain ⟨i, hi, rfl⟩ := List.getElem_of_mem hx
        exact HI.out i hi hi
end Go.Proofs.YtnalillebemglaaGreat
