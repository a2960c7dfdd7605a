/-
  The walk of the law MergeLeaf.
-/
import Derived.Test.YtnalillebemglaaGreatMgAny
import Derived.Test.YtnalillebemglaaGreatMgRD
namespace Go.Proofs.YtnalillebemglaaGreat
open Go.RowKit Go.Sort
set_option linter.unusedVariables false
set_option linter.unusedSimpArgs false
set_option maxRecDepth 20000

def foldR (rs : List (List Mg)) (xs : List Rg) (j : Nat) : List Rg := (rs.take j).foldl (fun l r => withL r l) xs
theorem overE_up {X : List Rg} (h0 : ofE X = 0) (hR : Rising X) (rs : List (List Mg)) : overE X rs = chkR rs := by
  unfold overE
  rw [if_pos h0, (upI_iff X).2 hR, if_pos rfl]

set_option maxHeartbeats 1000000 in
theorem mergeLeaf_on (xs : List Rg) (hxl : xs.length ≤ maxLen) (a : Option Addr) (c : Nat) (hc : a = none → c = 0) (m : Nat) (hm : Hid (xs.length = m)) (rs : List (List Mg)) (hx : rs.length ≤ maxLen) (hq : ∀ r ∈ rs, r.length ≤ maxLen ∧ ∀ m ∈ r, m.key.length ≤ maxLen ∧ m.val.length ≤ maxLen) (b : Option Addr) (d : Nat) (len : Nat) (hlen : Hid (rs.length = len)) (w : World) (hX : RgsAt w a xs) (hR : RunsAt w b rs) :
    Calls Tryz.prog 6 #[.slice a m c, .slice b len d] w fun e w' => e = .returned (.bool true) ∧ Step noF w w' := by
  have cG : ∀ w', Step noF w w' → Calls Tryz.prog 8 #[.slice b len d] w' fun e w'' => (e = .returned (.bool true) ∨ (e = .returned (.bool false) ∧ Hid (ModR rs))) ∧ Hid (w' = w'') := fun w' hs => by
    rw [← hlen.out]
    exact greatR_any rs hx hq b d w' (hR.step hs)
  have HXR := hid hX
  have HRR := hid hR
  have hmm : m ≤ maxLen := by rw [← hm.out]; exact hxl
  unfold maxLen at hmm
  clear hx hq hX hR hxl
  go_enter Tryz.func6, Tryz.ntmps6
  go_wp2_with fail
  refine (awakeR_any w).mono ?_
  rintro e w1 ⟨rfl, s1⟩
  go_wp2_with fail
  refine (cG w1 s1).mono ?_
  rintro e w2 ⟨rfl | ⟨rfl, HMM⟩, hw2⟩
  · obtain rfl := hw2.out
    go_wp2_with fail
    go_ret
    exact ⟨rfl, s1⟩
  obtain rfl := hw2.out
  clear cG hw2
  by_cases hg : 60 < m
  · have hgz : (60 : Int) < (m : Int) := by omega
    go_wp2_with fail
    go_ret
    exact ⟨rfl, s1⟩
  have hgz : ¬ (60 : Int) < (m : Int) := by omega
  have hx60 : Hid (xs.length ≤ 60) := by show _ ≤ _; rw [hm.out]; omega
  obtain ⟨hF, hL⟩ := mod_few HMM.out
  have h10 : len ≤ 10 := by rw [← hlen.out]; exact HMM.out.1
  have HF := hid hF
  have HL := hid hL
  have cO := leafOf_any xs (Nat.le_trans hx60.out (by omega)) a c w1 (HXR.out.step s1) hc
  rw [hm.out] at cO
  have S1 := hid s1
  clear s1 hF hL
  go_wp2_with fail
  refine cO.mono ?_
  rintro e w2 ⟨s2, ⟨h0, rfl⟩ | ⟨h0, p0, rfl, _, hp0⟩⟩
  · obtain ⟨E, hE⟩ : ∃ E, ofE xs = E := ⟨_, rfl⟩
    rw [hE] at h0 ⊢
    clear hE cO
    go_wp2_with fail
    go_ret
    exact ⟨rfl, S1.out.trans s2⟩
  obtain ⟨hok, hnd⟩ := ofE_zeroR h0
  have hXR := sortL_rising xs hnd
  have hXok : ∀ x ∈ sortL xs, itOk x = true := fun x hx => hok x ((sortL_mem xs x).1 hx)
  have hX60 : (sortL xs).length ≤ 60 := by rw [sortL_length]; exact hx60.out
  obtain ⟨X, hXX⟩ : ∃ X, sortL xs = X := ⟨_, rfl⟩
  rw [hXX] at hXR hXok hX60 hp0
  have hX0 : ofE X = 0 := ofE_sorted X (by rw [sortL_of_rising X hXR]; exact hXR) (by rw [sortL_of_rising X hXR]; exact hXok)
  have HXU := hid (overE_up hX0 hXR rs)
  have HXI := hid hXR
  have HXO := hid hXok
  have HX60 := hid hX60
  have HP0 := hid hp0
  have S2 := hid (S1.out.trans s2)
  clear hXX hXR hXok hX60 hp0 h0 hok hnd cO s2 hX0
  go_wp2_with fail
  refine (items_any p0 X (Nat.le_trans HX60.out (by omega)) w2 HP0.out).mono ?_
  rintro e w3 ⟨v, rfl, ho, s3⟩
  obtain ⟨a1, c1, rfl, hl1, hn1, hr1⟩ := OwnIt.row ho
  have S3 := hid (S2.out.trans s3)
  have HP3 := hid (HP0.out.step s3)
  have cV := mOver_any X (Nat.le_trans HX60.out (by omega)) a1 c1 hn1.1 rs HF.out (Nat.le_trans HL.out (by omega)) b d w3 hr1 (HRR.out.step S3.out)
  obtain ⟨nx, hnx⟩ : ∃ n, X.length = n := ⟨_, rfl⟩
  rw [hlen.out, hnx] at cV
  rw [hnx]
  clear ho s3 hl1 hn1 hr1 hnx HP0 S2
  go_wp2_with fail
  refine cV.mono ?_
  rintro e w4 ⟨h, s4⟩
  have S4 := hid (S3.out.trans s4)
  have HP4 := hid (HP3.out.step s4)
  clear s4 cV HP3 S3
  rcases h with ⟨h1, rfl⟩ | ⟨h1, a2, c2, rfl, hc2, hl2, hr2⟩
  · obtain ⟨E, hE⟩ : ∃ E, overE X rs = E := ⟨_, rfl⟩
    rw [hE] at h1 ⊢
    clear hE
    go_wp2_with fail
    go_ret
    exact ⟨rfl, S4.out⟩
  have hok : OkR rs := chkR_ok (by rw [← HXU.out]; exact h1)
  have HOK := hid hok
  have HY := hid (withL_msgsR hok X HXI.out)
  have hfg := foldR_good hok HXI.out HXO.out
  have hfl := foldR_len rs X
  have HFG : Hid (∀ j, Rising (foldR rs X j) ∧ ∀ x ∈ foldR rs X j, itOk x = true) := hfg
  have HFL : Hid (∀ j, j ≤ rs.length → (foldR rs X j).length ≤ 400) := fun j hj => by
    have e1 : (foldR rs X j).length ≤ X.length + leftR (rs.take j) := hfl j hj
    have e2 := leftR_takeLe rs j
    have e3 := HL.out
    have e4 := HX60.out
    omega
  obtain ⟨Y, hYY⟩ : ∃ Y, withL (msgsR rs) X = Y := ⟨_, rfl⟩
  rw [hYY] at HY hr2 hl2
  rw [hYY]
  have HYE : Hid (Y = foldR rs X len) := by
    show _ = _
    rw [HY.out]
    unfold foldR
    rw [List.take_of_length_le (by rw [hlen.out]; exact Nat.le_refl _)]
  obtain ⟨ny, hny⟩ : ∃ n, Y.length = n := ⟨_, rfl⟩
  have HNY := hid hny
  rw [hny]
  have HC2 := hid hc2
  have HR2 := hid hr2
  have h1' : overE X rs = 0 := h1
  clear hok hfg hfl hYY hny hc2 hl2 hr2 HY h1 h1' HXU HL
  go_wp2_with fail
  go_loopg [5, 9, 10, 11] 12 (fun kx l i s10 s11 wr => ∃ (j p : Nat), l = .pointer (some ⟨p, 0, none⟩) ∧ i = .int .i64 j ∧ j ≤ len ∧ len - j ≤ kx ∧ Hid (LeafAt wr p (foldR rs X j)) ∧ Hid (Step noF w4 wr))
  case atStart => exact ⟨0, p0, rfl, rfl, by omega, by omega, HP4.out, Step.refl _ _⟩
  case round =>
    obtain ⟨j, p, rfl, rfl, hj, hkx, HP, ST⟩ := hrel
    by_cases hjl : j < len
    · have hjz : (j : Int) < (len : Int) := by omega
      have hj2 : j < rs.length := by rw [hlen.out]; exact hjl
      obtain ⟨g, o, rfl, aj, cj, r0, hcj, hlc, hmj⟩ := (HRR.out.step (S4.out.trans ST.out)).at j hj2
      have hgm := (HOK.out rs[j] (List.getElem_mem hj2)).1
      have hr30 := (HMM.out.2 rs[j] (List.getElem_mem hj2)).1
      have cW := with_any p (foldR rs X j) (HFG.out j).1 (HFG.out j).2 (Nat.le_trans (HFL.out j (by rw [hlen.out]; exact hj)) (by omega)) rs[j] (fun m hm => Mg.val_max (hgm m hm)) (Nat.le_trans hr30 (by omega)) aj cj hcj wr HP.out hmj
      have HFT : Hid (foldR rs X (j + 1) = withL rs[j] (foldR rs X j)) := foldR_take rs j hj2 X
      have HGA : Hid (rs[j].all Mg.is = true) := List.all_eq_true.2 hgm
      obtain ⟨r, hr⟩ : ∃ r, rs[j] = r := ⟨_, rfl⟩
      rw [hr] at r0 hlc hr30 cW HFT HGA
      obtain ⟨n3, hn3⟩ : ∃ n3, r.length = n3 := ⟨_, rfl⟩
      rw [hn3] at r0 hlc cW
      clear hr hmj hcj hgm hr30 hn3
      go_wp2_with fail
      refine cW.mono ?_
      rintro e w5 ⟨hp, s5⟩
      have S5 := hid (ST.out.trans s5)
      clear s5 cW
      rcases hp with ⟨h1, _⟩ | ⟨_, p2, rfl, _, hp2⟩
      · rw [HGA.out] at h1
        cases h1
      · have HP2 := hid hp2
        clear hp2
        go_wp2_with fail
        go_roundg (len - (j + 1))
        case measure => omega
        case rel => exact ⟨j + 1, p2, rfl, by simp, by omega, Nat.le_refl _, by rw [HFT.out]; exact HP2.out, S5.out⟩
    · obtain rfl : len = j := by omega
      have hjz : ¬ (len : Int) < (len : Int) := by omega
      have hYR : Rising Y := by rw [HYE.out]; exact (HFG.out len).1
      have hYok : ∀ x ∈ Y, itOk x = true := by rw [HYE.out]; exact (HFG.out len).2
      have hYl : Y.length ≤ 400 := by rw [HYE.out]; exact HFL.out len (by rw [hlen.out]; exact Nat.le_refl _)
      have hY0 : ofE Y = 0 := ofE_sorted Y (by rw [sortL_of_rising Y hYR]; exact hYR) (by rw [sortL_of_rising Y hYR]; exact hYok)
      have cO : Calls Tryz.prog 19 #[.slice a2 ny c2] wr fun e w' => ∃ q, e = .returned (.tuple #[.pointer (some ⟨q, 0, none⟩), .int .i64 0]) ∧ Hid (LeafAt w' q Y) ∧ Hid (Step noF wr w') := by
        rw [← HNY.out]
        refine (leafOf_any Y (by omega) a2 c2 wr (HR2.out.step ST.out) HC2.out).mono ?_
        rintro e w' ⟨s, ⟨h, _⟩ | ⟨_, q, rfl, _, hq⟩⟩
        · exact absurd hY0 h
        · rw [sortL_of_rising Y hYR] at hq
          exact ⟨q, rfl, hq, s⟩
      have HPY : Hid (LeafAt wr p Y) := by show LeafAt _ _ _; rw [HYE.out]; exact HP.out
      have HYL := hid hYl
      clear hYR hYok hYl hY0 HP HYE
      go_wp2_with fail
      refine cO.mono ?_
      rintro e w5 ⟨q, rfl, HQ, s5⟩
      have cS := same_any q p Y Y ⟨Nat.le_trans HYL.out (by omega), Nat.le_trans HYL.out (by omega)⟩ w5 HQ.out (HPY.out.step s5.out)
      rw [(sameB_iff _ _).2 rfl] at cS
      go_wp2_with fail
      refine cS.mono ?_
      rintro e w6 ⟨rfl, s6⟩
      go_wp2_with fail
      go_ret
      exact ⟨rfl, (S4.out.trans ST.out).trans (s5.out.trans s6)⟩
end Go.Proofs.YtnalillebemglaaGreat
