/-
  The law LeafLight: no part is too heavy, none is empty, and all of them are the leaf.
-/
import Derived.Test.YtclaagihmpghnaaLfK
namespace Go.Proofs.Ytclaagihmpghnaa
open Go.RowKit Go.Sort
set_option linter.unusedVariables false
set_option linter.unusedSimpArgs false
set_option maxRecDepth 20000

/-- A list of parts, up to one of them. -/
theorem flat_take (ps : List (List Rg)) (i : Nat) (hi : i < ps.length) : (ps.take (i + 1)).flatten = (ps.take i).flatten ++ ps[i] := by
  rw [List.take_succ_eq_append_getElem hi, List.flatten_append]
  simp
theorem flat_rising (ps : List (List Rg)) (h : Rising ps.flatten) (i : Nat) (hi : i < ps.length) : Rising (ps.take i).flatten ∧ Rising ps[i] ∧ joinOk (ps.take i).flatten ps[i] := by
  have e : ps.flatten = ((ps.take i).flatten ++ ps[i]) ++ (ps.drop (i + 1)).flatten := by
    rw [← flat_take ps i hi, ← List.flatten_append, List.take_append_drop]
  rw [e] at h
  exact rising_join (rising_join h).1
theorem ptrs_at {w : World} {e : TypeId} {base g cap : Nat} {qs : List Nat} (h : w.ownsRow base e 1 (.slice (some ⟨g, 0, none⟩) qs.length cap) qs.length (ptrs qs)) (i : Nat) (hi : i < qs.length) : w.cell? ⟨g, i, none⟩ = some (.pointer (some ⟨qs[i], 0, none⟩)) := by
  have := h.cells (g := g) rfl i (.pointer (some ⟨qs[i], 0, none⟩)) (by unfold ptrs; rw [List.getElem?_map, List.getElem?_eq_getElem hi]; rfl)
  rw [Addr.add_lit, Nat.zero_add] at this
  exact this
theorem sortL_ok {xs : List Rg} (h : xs.all itOk = true) : ∀ x ∈ sortL xs, itOk x = true := fun x hx => List.all_eq_true.1 h x ((sortL_mem xs x).1 hx)
theorem ofE_zero {xs : List Rg} (h : ofE xs = 0) : Rising (sortL xs) ∧ (∀ x ∈ sortL xs, itOk x = true) ∧ (sortL xs).length = xs.length := by
  unfold ofE at h
  split at h
  · rename_i h1
    split at h
    · rename_i h2
      exact ⟨sortL_rising xs h2, sortL_ok h1, sortL_length xs⟩
    · cases h
  · cases h

set_option maxHeartbeats 4000000 in
theorem leafLight_any (xs : List Rg) (hx : xs.length ≤ maxLen) (hq : ∀ x ∈ xs, x.lo.length ≤ maxLen ∧ x.hi.length ≤ maxLen) (a : Option Addr) (c : Nat) (hc : a = none → c = 0) (w : World) (h : RgsAt w a xs) :
    Calls Try.prog 5 #[.slice a xs.length c] w fun e w' => e = .returned (.bool true) ∧ Step noF w w' := by
  have HR := hid h
  have HC := hid hc
  have HX := hid hx
  have HQ := hid hq
  clear h hc hx hq
  go_enter Try.func5, Try.ntmps5
  go_wp2_with fail
  refine (awake_any w).mono ?_
  rintro e w1 ⟨rfl, s1⟩
  have S1 := hid s1
  clear s1
  go_wp2_with fail
  refine (great_any xs HX.out HQ.out a c w1 (HR.out.step S1.out)).mono ?_
  rintro e w1' ⟨hg, rfl⟩
  rcases hg with rfl | ⟨rfl, h60, h512⟩
  · go_wp2_with fail
    go_ret
    exact ⟨rfl, S1.out⟩
  · clear h512
    go_wp2_with fail
    refine (leafOf_any xs (by omega) a c w1 (HR.out.step S1.out) HC.out).mono ?_
    rintro e w2 ⟨s2, hof⟩
    have S2 := hid (S1.out.trans s2)
    clear s2
    rcases hof with ⟨hne, rfl⟩ | ⟨h0, p, rfl, _, l2⟩
    · have hnz : (ofE xs == 0) = false := by rw [beq_eq_false_iff_ne]; exact hne
      go_wp2_with fail
      go_ret
      exact ⟨rfl, S2.out⟩
    · obtain ⟨hR, hok, hlen⟩ := ofE_zero h0
      obtain ⟨S, hS⟩ : ∃ S, sortL xs = S := ⟨_, rfl⟩
      rw [hS] at hR hok hlen l2
      have HRI := hid hR
      have HOK := hid hok
      have L2 := hid l2
      have hSm : Small S := ⟨by omega, fun x hx => by have := ok_len hok x hx; omega⟩
      have HSm := hid hSm
      obtain ⟨g1, g2, g3, g4⟩ := parts_good S.length S (Nat.le_refl _) hok
      have hcnt : (partsIt S).length ≤ 60 := by
        by_cases hSe : S = []
        · have : partsIt S = [S] := parts_light S (by rw [hSe]; simp [wtL])
          rw [this]
          simp
        · have := parts_count S hSe hok
          omega
      have hpos : 0 < (partsIt S).length := List.length_pos_iff.2 g3
      have G1 := hid g1
      have G2 := hid g2
      have G4 := hid g4
      clear hR hok l2 hSm g1 g2 g3 g4 hS h0
      go_wp2_with fail
      refine (parts_any p S HSm.out HOK.out w2 L2.out).mono ?_
      rintro e w3 ⟨v, qs, rfl, o3, l3, s3⟩
      have hql : qs.length = (partsIt S).length := l3.1
      rcases o3.2 with ⟨_, hz⟩ | ⟨g, cap, cur, hv, _⟩
      · exact absurd hz (by omega)
      subst hv
      have O3 := hid o3
      have L3 := hid l3
      have S3 := hid s3
      obtain ⟨n, hn⟩ : ∃ n, qs.length = n := ⟨_, rfl⟩
      have HNQ := hid hn
      have HNP : Hid (n = (partsIt S).length) := by show _ = _; rw [← hn, hql]
      have hn0 : ((n : Int) == 0) = false := by rw [beq_eq_false_iff_ne]; omega
      have hnn : 0 < n ∧ n ≤ 60 := by omega
      rw [hn]
      clear o3 l3 s3 hql hn hcnt hpos
      go_wp2_with fail
      refine (leafOf_any [] (by simp) none 0 w3 (.inl rfl) (fun _ => rfl)).mono ?_
      rintro e w4 ⟨s4, hof⟩
      have S4 := hid s4
      clear s4
      rcases hof with ⟨hne, _⟩ | ⟨_, r0, rfl, _, l4⟩
      · exact absurd (by decide : ofE [] = 0) hne
      have L4 := hid (show LeafAt w4 r0 [] from l4)
      clear l4
      go_wp2_with fail
      go_loopw [8, 6, 7] (fun i al f wr => ∃ (j r : Nat), j ≤ n ∧ i = .int .i64 j ∧ al = .pointer (some ⟨r, 0, none⟩) ∧ f = .int .i64 0 ∧ Hid (LeafAt wr r ((partsIt S).take j).flatten) ∧ Hid (Step noF w3 wr)) (fun i _ _ _ => n - (intOf i).toNat)
      case atStart => exact ⟨0, r0, Nat.zero_le _, rfl, rfl, rfl, L4, S4⟩
      case round =>
        obtain ⟨j, r, hj, rfl, rfl, rfl, LR, SR⟩ := hrel
        have hlen60 : Hid (∀ k, ((partsIt S).take k).flatten.length ≤ 60) := fun k => by
          have e : (partsIt S).flatten = ((partsIt S).take k).flatten ++ ((partsIt S).drop k).flatten := by rw [← List.flatten_append, List.take_append_drop]
          have := congrArg List.length e
          rw [G1.out, List.length_append] at this
          omega
        by_cases hjl : j < n
        · have hjz : (j : Int) < (n : Int) := by omega
          have hjq : j < qs.length := by have := HNQ.out; omega
          have hjp : j < (partsIt S).length := by have := HNP.out; omega
          have c0 := SR.out.after (ptrs_at O3.out j hjq)
          have LP := hid ((L3.out.2 j hjq hjp).step SR.out)
          have hmem := List.getElem_mem hjp
          have gP := G2.out _ hmem
          have HF := hid (flat_take (partsIt S) j hjp)
          have HFR := hid (flat_rising (partsIt S) (by rw [G1.out]; exact HRI.out) j hjp)
          obtain ⟨q, hq⟩ : ∃ q, qs[j] = q := ⟨_, rfl⟩
          have hP60 : (partsIt S)[j].length ≤ 60 := by
            have := hlen60.out (j + 1)
            rw [HF.out, List.length_append] at this
            omega
          have hPsm : Small (partsIt S)[j] := ⟨by omega, fun x hx => HSm.out.2 x (by
            have : x ∈ (partsIt S).flatten := List.mem_flatten.2 ⟨_, hmem, hx⟩
            rw [G1.out] at this
            exact this)⟩
          have HPS := hid hPsm
          have hA : Hid (aheadB ((partsIt S).take j).flatten (partsIt S)[j] = true) := (aheadB_iff _ _ HFR.out.1 HFR.out.2.1).2 HFR.out.2.2
          obtain ⟨Pj, hPj⟩ : ∃ Pj, (partsIt S)[j] = Pj := ⟨_, rfl⟩
          rw [hq] at c0 LP
          rw [hPj] at LP gP HF HPS hA hP60
          have hw240 : ¬ (240 : Int) < (wtL Pj : Int) := by have := gP.1; omega
          have GP := hid gP
          clear hq hPj hPsm gP hmem HFR
          by_cases hn1 : 1 < n
          · have hnz1 : (1 : Int) < (n : Int) := by omega
            have hPl : 0 < Pj.length := by
              refine List.length_pos_iff.2 (GP.out.2 (fun e => ?_))
              have := (G4.out.2 (by rw [e]; simp [wtL]))
              have := HNP.out
              omega
            have hPz : ((Pj.length : Int) == 0) = false := by rw [beq_eq_false_iff_ne]; omega
            go_wp2_with fail
            refine (weight_anyL q Pj HPS.out wr LP.out).mono ?_
            rintro e w5 ⟨rfl, s5⟩
            have c1 := s5.after c0
            have S5 := hid s5
            clear s5
            go_wp2_with fail
            refine (len_any q Pj w5 (LP.out.step S5.out)).mono ?_
            rintro e w5' ⟨rfl, rfl⟩
            go_wp2_with fail
            refine (join_any r q _ Pj (by have := hlen60.out j; omega) w5 (LR.out.step S5.out) (LP.out.step S5.out)).mono ?_
            rintro e w6 ⟨hj6, s6⟩
            have S6 := hid (SR.out.trans (S5.out.trans s6))
            clear s6
            rcases hj6 with ⟨hf, _⟩ | ⟨_, r2, rfl, _, l6⟩
            · exact absurd hf (by rw [hA.out]; simp)
            have L6 := hid l6
            clear l6
            go_wp2_with fail
            go_roundw
            case rel => exact ⟨j + 1, r2, by omega, int_eq (by omega), rfl, rfl, (by show LeafAt _ _ _; rw [HF.out]; exact L6.out), S6⟩
            case measure => simp [intOf]; omega
          · have hnz1 : ¬ (1 : Int) < (n : Int) := by omega
            go_wp2_with fail
            refine (weight_anyL q Pj HPS.out wr LP.out).mono ?_
            rintro e w5 ⟨rfl, s5⟩
            have c1 := s5.after c0
            have S5 := hid s5
            clear s5
            go_wp2_with fail
            refine (join_any r q _ Pj (by have := hlen60.out j; omega) w5 (LR.out.step S5.out) (LP.out.step S5.out)).mono ?_
            rintro e w6 ⟨hj6, s6⟩
            have S6 := hid (SR.out.trans (S5.out.trans s6))
            clear s6
            rcases hj6 with ⟨hf, _⟩ | ⟨_, r2, rfl, _, l6⟩
            · exact absurd hf (by rw [hA.out]; simp)
            have L6 := hid l6
            clear l6
            go_wp2_with fail
            go_roundw
            case rel => exact ⟨j + 1, r2, by omega, int_eq (by omega), rfl, rfl, (by show LeafAt _ _ _; rw [HF.out]; exact L6.out), S6⟩
            case measure => simp [intOf]; omega
        · have hjz : ¬ (j : Int) < (n : Int) := by omega
          have LF : Hid (LeafAt wr r S) := by
            have e : ((partsIt S).take j).flatten = S := by
              rw [List.take_of_length_le (by have := HNP.out; omega), G1.out]
            have := LR.out
            rw [e] at this
            exact this
          have SW : Hid (Step noF w2 wr) := S3.out.trans SR.out
          have hS60 : S.length ≤ 60 := by omega
          go_wp2_with fail
          refine (same_any r p S S ⟨by omega, by omega⟩ wr LF.out (L2.out.step SW.out)).mono ?_
          rintro e w5 ⟨rfl, s5⟩
          rw [(sameB_iff S S).2 rfl]
          have S5 := hid (SW.out.trans s5)
          clear s5
          go_wp2_with fail
          refine (weight_anyL p S HSm.out w5 (L2.out.step S5.out)).mono ?_
          rintro e w6 ⟨rfl, s6⟩
          have S6 := hid (S2.out.trans (S5.out.trans s6))
          clear s6
          have hfin : ((n : Int) == 1) = decide ((wtL S : Int) ≤ 240) := by
            have h1 := G4.out
            rw [← HNP.out] at h1
            by_cases hw : wtL S ≤ 240
            · have hn1 := h1.2 hw
              subst hn1
              simp
              omega
            · have hn1 : ¬ n = 1 := fun e => hw (h1.1 e)
              have e1 : ((n : Int) == 1) = false := by rw [beq_eq_false_iff_ne]; omega
              rw [e1]
              symm
              rw [decide_eq_false_iff_not]
              omega
          have HFN := hid hfin
          clear hfin
          obtain ⟨W, hW⟩ : ∃ W, wtL S = W := ⟨_, rfl⟩
          rw [hW] at HFN ⊢
          go_wp2_with fail
          go_ret
          refine ⟨ret_bool ?_, S6.out⟩
          have h1 := HFN.out
          first | simp [h1] | (simp; simpa using h1)
end Go.Proofs.Ytclaagihmpghnaa
