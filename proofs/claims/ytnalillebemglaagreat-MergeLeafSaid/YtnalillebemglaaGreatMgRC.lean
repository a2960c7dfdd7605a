/-
  The document's Check: which error runs have.
-/
import Derived.Test.YtnalillebemglaaGreatMgA
import Derived.Test.YtnalillebemglaaGreatMsgD
namespace Go.Proofs.YtnalillebemglaaGreat
open Go.RowKit Go.Sort
set_option linter.unusedVariables false
set_option linter.unusedSimpArgs false
set_option maxRecDepth 20000

theorem chk_one {rs : List (List Mg)} {r : List Mg} (hr : r ∈ rs) {m : Mg} (hm : m ∈ r) (h : m.is = false) : chkR rs = 1 := by
  unfold chkR
  rw [if_neg]
  intro h2
  have := List.all_eq_true.1 (List.all_eq_true.1 h2 r hr) m hm
  rw [this] at h
  cases h
theorem chk_is {rs : List (List Mg)} (h : ∀ r ∈ rs, isR r = true) : rs.all (fun r => r.all Mg.is) = true := List.all_eq_true.2 h
theorem chk_turn {rs : List (List Mg)} (h : ∀ r ∈ rs, isR r = true) {r : List Mg} (hr : r ∈ rs) (hu : upR r = false) : chkR rs = 11 := by
  unfold chkR
  rw [if_pos (chk_is h), if_neg]
  intro h2
  have := List.all_eq_true.1 h2 r hr
  rw [this] at hu
  cases hu
theorem chk_none {rs : List (List Mg)} (h : ∀ r ∈ rs, isR r = true) (hu : ∀ r ∈ rs, upR r = true) : chkR rs = 0 := by
  unfold chkR
  rw [if_pos (chk_is h), if_pos (List.all_eq_true.2 hu)]
set_option maxHeartbeats 4000000 in
theorem refCheck_any (rs : List (List Mg)) (hF : FewR rs) (a : Option Addr) (c : Nat) (w : World) (h : RunsAt w a rs) :
    Calls Tryz.prog 11 #[.slice a rs.length c] w fun e w' => e = .returned (.int .i64 (chkR rs)) ∧ Step noF w w' := by
  have hSl := less_str
  have HR := hid h
  have HFE := hid hF
  have hrl : rs.length ≤ 1000 := hF.1
  clear h hF
  go_enter Tryz.func11, Tryz.ntmps11
  go_wp2_with fail
  go_loopg [3] 1000 (fun kx s3 wr => ∃ (j : Nat), s3 = .int .i64 j ∧ j ≤ rs.length ∧ rs.length - j ≤ kx ∧ Hid (Step noF w wr) ∧ Hid (∀ i (h : i < rs.length), i < j → isR rs[i] = true))
  case atStart => exact ⟨0, rfl, by omega, by omega, Step.refl _ _, fun i _ h => absurd h (by omega)⟩
  case round =>
    obtain ⟨j, rfl, hj, hkx, HS, HI⟩ := hrel
    by_cases hjl : j < rs.length
    · have hjz : (j : Int) < (rs.length : Int) := by omega
      obtain ⟨b, off, rfl, aj, cj, r0, hcj, hlc, hm⟩ := (HR.out.step HS.out).at j hjl
      have hb := HFE.out.2 rs[j] (List.getElem_mem hjl)
      obtain ⟨r, hr⟩ : ∃ r, rs[j] = r := ⟨_, rfl⟩
      have HRJ := hid hr
      rw [hr] at r0 hlc hm hb
      have HM := hid hm
      obtain ⟨n, hn⟩ : ∃ n, r.length = n := ⟨_, rfl⟩
      have hnb := hb.1
      rw [hn] at r0 hlc hnb
      have HR0 := hid r0
      clear hr hm hb r0
      go_wp2_with fail
      go_loopg [4] 100000 (fun ky s4 wr2 => ∃ (k : Nat), s4 = .int .i64 k ∧ k ≤ n ∧ n - k ≤ ky ∧ Hid (Step noF wr wr2) ∧ Hid (∀ i (h : i < r.length), i < k → r[i].is = true))
      case atStart => exact ⟨0, rfl, by omega, by omega, Step.refl _ _, fun i _ h => absurd h (by omega)⟩
      case round =>
        rename_i w1 _ _ _ _ _
        obtain ⟨k, rfl, hk, hky, HS2, HK⟩ := hrel
        have r0 := HS2.out.after HR0.out
        by_cases hkn : k < n
        · have hkz : (k : Int) < (n : Int) := by omega
          have hkl : k < r.length := by omega
          obtain ⟨g, o, rfl, c0, c1, c2⟩ := (HM.out.step HS2.out (fun _ x => x)).at k hkl
          have cI := fun w => refMis_any r[k] w
          have HMEM := hid (List.getElem_mem hkl)
          have HN : Hid (r[k].is = true → ∀ i (h : i < r.length), i < k + 1 → r[i].is = true) := fun h1 i hi hij => by
            rcases Nat.lt_or_eq_of_le (Nat.le_of_lt_succ hij) with e | e
            · exact HK.out i hi e
            · subst e; exact h1
          obtain ⟨⟨z, x, y⟩, hm⟩ : ∃ m, r[k] = m := ⟨_, rfl⟩
          rw [hm] at c0 c1 c2 HN cI HMEM
          have eV : (Mg.mk z x y).value = .agg #[.int .i64 z, .string (str x), .string (str y)] := rfl
          rw [eV] at cI
          clear hm eV
          obtain ⟨D, hD⟩ : ∃ D, (Mg.mk z x y).is = D := ⟨_, rfl⟩
          have HD := hid hD
          rw [hD] at cI HN
          clear hD
          cases D
          · go_wp2_with fail
            refine (cI _).mono ?_
            rintro e w3 ⟨rfl, s3⟩
            have HS3 := hid (HS.out.trans (HS2.out.trans s3))
            clear s3
            go_wp2_with fail
            go_ret
            refine ⟨?_, HS3.out⟩
            rw [chk_one (List.getElem_mem hjl) (by rw [HRJ.out]; exact HMEM.out) HD.out]; rfl
          · go_wp2_with fail
            refine (cI _).mono ?_
            rintro e w3 ⟨rfl, s3⟩
            have HS3 := hid (HS2.out.trans s3)
            clear s3
            have HN2 := hid (HN.out trivial)
            go_wp2_with fail
            go_roundg (n - (k + 1))
            case measure => omega
            case rel => exact ⟨k + 1, by simp, by omega, Nat.le_refl _, HS3, HN2⟩
        · have hkz : ¬ (k : Int) < (n : Int) := by omega
          obtain rfl : k = n := by omega
          have HNEW : Hid (∀ i (h : i < rs.length), i < j + 1 → isR rs[i] = true) := fun i hi hij => by
            rcases Nat.lt_or_eq_of_le (Nat.le_of_lt_succ hij) with e | e
            · exact HI.out i hi e
            · subst e
              rw [HRJ.out]
              refine List.all_eq_true.2 (fun m hm => ?_)
              obtain ⟨q, hq, rfl⟩ := List.getElem_of_mem hm
              exact HK.out q hq (by omega)
          have HS3 := hid (HS.out.trans HS2.out)
          go_wp2_with fail
          go_roundg (rs.length - (j + 1))
          case measure => omega
          case rel => exact ⟨j + 1, by simp, by omega, Nat.le_refl _, HS3, HNEW⟩
    · have hjz : ¬ (j : Int) < (rs.length : Int) := by omega
      obtain rfl : j = rs.length := by omega
      have HIS : Hid (∀ r ∈ rs, isR r = true) := fun r hr => by
        obtain ⟨i, hi, rfl⟩ := List.getElem_of_mem hr
        exact HI.out i hi hi
      have HSA := hid HS.out
      clear HI hj hkx hjz HS
      go_wp2_with fail
      go_loopg [5] 1000 (fun kx s3 wr => ∃ (j : Nat), s3 = .int .i64 j ∧ j ≤ rs.length ∧ rs.length - j ≤ kx ∧ Hid (Step noF w wr) ∧ Hid (∀ i (h : i < rs.length), i < j → upR rs[i] = true))
      case atStart => exact ⟨0, rfl, by omega, by omega, HSA, fun i _ h => absurd h (by omega)⟩
      case round =>
        obtain ⟨j, rfl, hj, hkx, HS, HI⟩ := hrel
        by_cases hjl : j < rs.length
        · have hjz : (j : Int) < (rs.length : Int) := by omega
          obtain ⟨b, off, rfl, aj, cj, r0, hcj, hlc, hm⟩ := (HR.out.step HS.out).at j hjl
          have hb := HFE.out.2 rs[j] (List.getElem_mem hjl)
          obtain ⟨r, hr⟩ : ∃ r, rs[j] = r := ⟨_, rfl⟩
          have HRJ := hid hr
          rw [hr] at r0 hlc hm hb
          have HM := hid hm
          obtain ⟨n, hn⟩ : ∃ n, r.length = n := ⟨_, rfl⟩
          have hnb := hb.1
          rw [hn] at r0 hlc hnb
          have HR0 := hid r0
          clear hr hm hb r0
          go_wp2_with fail
          go_loopg [6] 100000 (fun ky s4 wr2 => ∃ (k : Nat), s4 = .int .i64 k ∧ 1 ≤ k ∧ n - k ≤ ky ∧ Hid (Step noF wr wr2) ∧ Hid (∀ i (h : i + 1 < r.length), i + 1 < k → r[i].key < r[i + 1].key))
          case atStart => exact ⟨1, rfl, by omega, by omega, Step.refl _ _, fun i _ h => absurd h (by omega)⟩
          case round =>
            obtain ⟨k, rfl, hk, hky, HS2, HK⟩ := hrel
            have r0 := HS2.out.after HR0.out
            by_cases hkn : k < n
            · obtain ⟨q, rfl⟩ : ∃ q, k = q + 1 := ⟨k - 1, by omega⟩
              have hkl : q + 1 < r.length := by omega
              obtain ⟨g, o, rfl, c0, c1, c2⟩ := (HM.out.step HS2.out (fun _ x => x)).at (q + 1) hkl
              obtain ⟨g', o', e', d0, d1, d2⟩ := (HM.out.step HS2.out (fun _ x => x)).at q (by omega)
              obtain ⟨rfl, rfl⟩ : g = g' ∧ o = o' := by
                injection e' with e'
                injection e' with e1 e2
                exact ⟨e1, e2⟩
              have ez : (q : Int) + 1 - 1 = (q : Int) := by omega
              have b0 : (q : Int) < (n : Int) := by omega
              have b1 : (q : Int) + 1 < (n : Int) := by omega
              have p1 : (0 : Int) ≤ (q : Int) + 1 := by omega
              have e1 : ((q : Int) + 1).toNat = q + 1 := by omega
              have rq : IntKind.i64.wrap (q : Int) = (q : Int) := by rw [IntKind.wrap_i64]; omega
              have HN : Hid (r[q].key < r[q + 1].key → ∀ i (h : i + 1 < r.length), i + 1 < q + 1 + 1 → r[i].key < r[i + 1].key) := fun h1 i hi hij => by
                by_cases e : i = q
                · subst e; exact h1
                · exact HK.out i hi (by omega)
              have HNO : Hid (¬ r[q].key < r[q + 1].key → upR r = false) := fun h => upR_not q hkl h
              obtain ⟨x, hx⟩ : ∃ m, r[q].key = m := ⟨_, rfl⟩
              obtain ⟨y, hy⟩ : ∃ m, r[q + 1].key = m := ⟨_, rfl⟩
              rw [hx, hy] at HN HNO
              rw [hx] at d1
              rw [hy] at c1
              clear hx hy c0 c2 d0 d2 e'
              by_cases hxy : x < y
              · have HN2 := hid (HN.out hxy)
                go_wp2_with fail
                go_quiet (fail)
                go_wp2_with fail
                go_roundg (n - (q + 2))
                case measure => omega
                case rel => exact ⟨q + 2, by simp; omega, by omega, Nat.le_refl _, HS2.out.trans ((Step.refl noF _).drewN _), HN2⟩
              · have HN2 := hid (HNO.out hxy)
                go_wp2_with fail
                go_quiet (fail)
                go_wp2_with fail
                go_ret
                refine ⟨?_, HS.out.trans (HS2.out.trans ((Step.refl noF _).drewN _))⟩
                rw [chk_turn HIS.out (List.getElem_mem hjl) (by rw [HRJ.out]; exact HN2.out)]; rfl
            · have hkz : ¬ (k : Int) < (n : Int) := by omega
              have HNEW : Hid (∀ i (h : i < rs.length), i < j + 1 → upR rs[i] = true) := fun i hi hij => by
                rcases Nat.lt_or_eq_of_le (Nat.le_of_lt_succ hij) with e | e
                · exact HI.out i hi e
                · subst e
                  rw [HRJ.out]
                  exact upR_of (fun i h => HK.out i h (by omega))
              have HS3 := hid (HS.out.trans HS2.out)
              go_wp2_with fail
              go_roundg (rs.length - (j + 1))
              case measure => omega
              case rel => exact ⟨j + 1, by simp, by omega, Nat.le_refl _, HS3, HNEW⟩
        · have hjz : ¬ (j : Int) < (rs.length : Int) := by omega
          obtain rfl : j = rs.length := by omega
          go_wp2_with fail
          go_ret
          refine ⟨?_, HS.out⟩
          rw [chk_none HIS.out (fun r hr => by
            obtain ⟨i, hi, rfl⟩ := List.getElem_of_mem hr
            exact HI.out i hi hi)]; rfl
end Go.Proofs.YtnalillebemglaaGreat
