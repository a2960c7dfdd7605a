/-
  The law LeafParts: Parts and Join are the document's; of nil there is nothing.
-/
import Derived.Test.YtclaagihmpghnaaLfLight
import Derived.Test.YtclaagihmpghnaaLfRE
import Derived.Deep.CutRange
import Derived.Test.YtclaagihmpghnaaLfPaR
import Derived.Test.YtclaagihmpghnaaLfNavP
import Derived.Laws.Cover1
namespace Go.Proofs.Ytclaagihmpghnaa
open Go.RowKit Go.Sort
set_option linter.unusedVariables false
set_option linter.unusedSimpArgs false
set_option maxRecDepth 20000

/-- A leaf's items, in a row. -/
theorem items_rowP (p : Nat) (xs : List Rg) (hl : xs.length ≤ 1000000) (w : World) (h : LeafAt w p xs) : Calls Try.prog 14 #[.pointer (some ⟨p, 0, none⟩)] w fun e w' => ∃ a c, e = .returned (.slice a xs.length c) ∧ Hid (RgsAt w' a xs) ∧ Hid (Step noF w w') := by
  refine (items_any p xs hl w h).mono ?_
  rintro e w' ⟨v, rfl, o, s⟩
  obtain ⟨a, c, rfl, _, _, r⟩ := owns_rgs o
  exact ⟨a, c, rfl, r, s⟩
theorem refSame_yesP (xs : List Rg) (hl : xs.length ≤ 1000000) (a1 a2 : Option Addr) (c1 c2 : Nat) (w : World) (h1 : RgsAt w a1 xs) (h2 : RgsAt w a2 xs) :
    Calls Try.prog 13 #[.slice a1 xs.length c1, .slice a2 xs.length c2] w fun e w' => e = .returned (.bool true) ∧ Hid (Step noF w w') := by
  refine (refSame_any xs xs hl hl a1 a2 c1 c2 w h1 h2).mono ?_
  rintro e w' ⟨rfl, s⟩
  exact ⟨by rw [(eqB_iff _ _).2 rfl], s⟩
theorem sls_at {w : World} {e : TypeId} {base g cap : Nat} {rs : List (Option Addr × Nat × List Rg)} (h : w.ownsRow base e 1 (.slice (some ⟨g, 0, none⟩) rs.length cap) rs.length (sls rs)) (i : Nat) (hi : i < rs.length) : w.cell? ⟨g, i, none⟩ = some (.slice rs[i].1 rs[i].2.2.length rs[i].2.1) := by
  have := h.cells (g := g) rfl i (.slice rs[i].1 rs[i].2.2.length rs[i].2.1) (by unfold sls; rw [List.getElem?_map, List.getElem?_eq_getElem hi]; rfl)
  rw [Addr.add_lit, Nat.zero_add] at this
  exact this
theorem owns_some {w : World} {base : Nat} {e : TypeId} {size : Nat} {v : Value} {n : Nat} {xs : List Value} (h : w.ownsRow base e size v n xs) (hn : 0 < n) : ∃ g c, v = .slice (some ⟨g, 0, none⟩) n c := by
  rcases h.2 with ⟨_, h0⟩ | ⟨g, cap, cur, rfl, _⟩
  · omega
  · exact ⟨g, cap, rfl⟩
theorem ahead_one {S O : List Rg} (h : S.length = 0 ∨ O.length = 0) : aheadB S O = true := by
  unfold aheadB
  rcases h with h | h
  · rw [List.eq_nil_of_length_eq_zero h]; rfl
  · rw [List.eq_nil_of_length_eq_zero h]; simp
theorem ahead_last {S O : List Rg} (m : Nat) (h : S.length = m + 1) (hO : 0 < O.length) : aheadB S O = decide ((S[m]'(by omega)).lo < (O[0]'hO).lo) := by
  have h1 : S.getLast? = some (S[m]'(by omega)) := by
    rw [List.getLast?_eq_getElem?]
    have e : S.length - 1 = m := by omega
    rw [e, List.getElem?_eq_getElem (by omega)]
  have h2 : S.isEmpty = false := by cases S <;> simp at h ⊢
  have h3 : O.isEmpty = false := by cases O <;> simp at hO ⊢
  have h4 : lowL O = (O[0]'hO).lo := by cases O <;> simp [lowL] at hO ⊢
  unfold aheadB
  rw [h1, h2, h3, h4]
  rfl
theorem wpList_append_itW {w : World} {ops : Array Oper} {rest : List Oper} {o : Oper} {a : Act} {Q : Exit → Act → World → Prop} (hgd : Region.wanted o (yielded ops a.tmps) = true) (s x : Operand)
    (ho : o.op = .call { callee := .builtin .append, args := #[s, x], argTypes := #[22, 22] })
    (base : Nat) (v : Value) (xs : List Rg) (hs : a.eval s = v) (hown : w.ownsRow base 46 2 v xs.length (rgs xs))
    (ad : Option Addr) (c : Nat) (ys : List Rg) (hx : a.eval x = .slice ad ys.length c) (hr : RgsAt w ad ys) (hc : ad = none → c = 0)
    (hl : xs.length + ys.length ≤ 1000000000) (hbase : base ≤ w.heap.size)
    (h : ∀ v' w', w'.ownsRow base 46 2 v' (xs ++ ys).length (rgs (xs ++ ys)) → w.grownBy w' v.ownBlock → wpList Try.prog ops Q rest (a.put o.dst v') w') : wpList Try.prog ops Q (o :: rest) a w := by
  obtain ⟨i0, hi, hz0, hz1, hz2⟩ := info_it
  refine wpList_step fun K hK => ?_
  rw [if_pos hgd]
  cases ad with
  | none =>
    obtain rfl : ys = [] := by
      rcases hr with h | ⟨b, off, h, _⟩
      · exact h
      · cases h
    obtain rfl := hc rfl
    have hK2 := hK _ _ (h v w (by rw [List.append_nil]; exact hown) ⟨rfl, rfl, rfl, Nat.le_refl _, fun _ _ _ => rfl⟩)
    have hrun := run_append_owned_none (P := Try.prog) (w := w) base 22 o.type 46 i0 2 Try.underlying22 hi v _ _ hown
    unfold Oper.wp
    simp [execOp, ho, resolve, invoke, builtin, hs, hx, hrun, Result.andThen]
    exact hK2
  | some ad =>
    have hn : ∀ j u, (rgs ys)[j]? = some u → w.cell? (Addr.add ad j) = some u := fun j u hj => by
      rcases hr with rfl | ⟨b, off, h1, h2⟩
      · simp [rgs] at hj
      · obtain rfl : ad = ⟨b, off, none⟩ := Option.some.inj h1
        exact rgsAt_cells h2.2 j u hj
    refine wp_append_own w s x _ ho base 46 i0 _ 2 32 Try.underlying22 hi hz0 hz1 hz2 rfl (by decide) v _ _ hs hown ad ys.length c (rgs ys) hx (rgs_length ys) hn (rgs_one ys) (le_max (by omega)) (by omega) hbase ?_
    intro v' w' h1 h2 h3
    refine hK _ _ (h v' w' ?_ h2)
    rw [List.length_append, rgs_append]
    exact h1
theorem parts_few (S : List Rg) (hok : ∀ x ∈ S, itOk x = true) (hS : S.length ≤ 60) : 0 < (partsIt S).length ∧ (partsIt S).length ≤ 60 ∧ ∀ p ∈ partsIt S, p.length ≤ 60 := by
  obtain ⟨g1, g2, g3, g4⟩ := parts_good S.length S (Nat.le_refl _) hok
  refine ⟨List.length_pos_iff.2 g3, ?_, fun p hp => ?_⟩
  · by_cases hSe : S = []
    · have : partsIt S = [S] := parts_light S (by rw [hSe]; simp [wtL])
      rw [this]
      simp
    · have := parts_count S hSe hok
      omega
  · have : p.length ≤ (partsIt S).flatten.length := (List.sublist_flatten_of_mem hp).length_le
    rw [g1] at this
    omega

set_option maxHeartbeats 8000000 in
theorem leafParts_any (xs : List Rg) (hx : xs.length ≤ maxLen) (hq : ∀ x ∈ xs, x.lo.length ≤ maxLen ∧ x.hi.length ≤ maxLen) (ys : List Rg) (hy : ys.length ≤ maxLen) (hyq : ∀ x ∈ ys, x.lo.length ≤ maxLen ∧ x.hi.length ≤ maxLen)
    (a : Option Addr) (c : Nat) (hc : a = none → c = 0) (b : Option Addr) (d : Nat) (hd : b = none → d = 0) (w : World) (h : RgsAt w a xs) (hr : RgsAt w b ys) :
    Calls Try.prog 4 #[.slice a xs.length c, .slice b ys.length d] w fun e w' => e = .returned (.bool true) ∧ Step noF w w' := by
  have hE := same_str
  have h0 := nil_str
  have HR := hid h
  have HC := hid hc
  have HX := hid hx
  have HQ := hid hq
  have HMR := hid hr
  have HD := hid hd
  have HM := hid hy
  have HMQ := hid hyq
  clear h hc hx hq hr hd hy hyq
  go_enter Try.func4, Try.ntmps4
  go_wp2_with fail
  refine (awake_any _).mono ?_
  rintro e w1 ⟨rfl, s1⟩
  have S1 := hid s1
  clear s1
  go_wp2_with fail
  refine (great_any xs HX.out HQ.out a c w1 (HR.out.step S1.out)).mono ?_
  rintro e w1' ⟨hg, rfl⟩
  rcases hg with rfl | ⟨rfl, h60, h512⟩
  · go_wp2_with fail
    go_ret
    exact ⟨rfl, S1.out⟩
  clear h512
  go_wp2_with fail
  refine (great_any ys HM.out HMQ.out b d w1 (HMR.out.step S1.out)).mono ?_
  rintro e w1' ⟨hg, rfl⟩
  rcases hg with rfl | ⟨rfl, hy60, hy512⟩
  · go_wp2_with fail
    go_ret
    exact ⟨rfl, S1.out⟩
  clear hy512
  go_wp2_with fail
  refine (leafOf_any xs (by omega) a c w1 (HR.out.step S1.out) HC.out).mono ?_
  rintro e w2 ⟨s2, hof⟩
  have S2 := hid (S1.out.trans s2)
  have S12 := hid s2
  clear s2
  have cO2 := leafOf_any ys (by omega) b d w2 (HMR.out.step S2.out) HD.out
  rcases hof with ⟨hne, rfl⟩ | ⟨hE0, p, rfl, _, l2⟩
  · obtain ⟨E, hEE⟩ : ∃ E, ofE xs = E := ⟨_, rfl⟩
    rw [hEE] at hne ⊢
    have hnz : (E == 0) = false := by rw [beq_eq_false_iff_ne]; exact hne
    clear hEE
    go_wp2_with fail
    refine cO2.mono ?_
    rintro e w3 ⟨s3, hof⟩
    have S3 := hid (S2.out.trans s3)
    clear s3 cO2
    rcases hof with ⟨_, rfl⟩ | ⟨_, po, rfl, _, _⟩
    · go_wp2_with fail
      go_ret
      exact ⟨rfl, S3.out⟩
    · go_wp2_with fail
      go_ret
      exact ⟨rfl, S3.out⟩
  obtain ⟨hR, hok, hlen⟩ := ofE_zero hE0
  have cU := fun w' (hs : Step noF w1 w') => refOf_any xs (by omega) HQ.out a c w' (HR.out.step (S1.out.trans hs))
  obtain ⟨S, hS⟩ : ∃ S, sortL xs = S := ⟨_, rfl⟩
  have HS := hid hS
  rw [hS] at hR hok hlen l2
  have HRI := hid hR
  have HOK := hid hok
  have L2 := hid l2
  have hS60 : S.length ≤ 60 := by omega
  have HSm : Hid (Small S) := ⟨by omega, fun x hx => by have := ok_len hok x hx; omega⟩
  have HE0 := hid hE0
  clear hR hok l2 hS hE0 hlen
  go_wp2_with fail
  refine cO2.mono ?_
  rintro e w3 ⟨s3, hof⟩
  have S23 := hid s3
  clear s3 cO2
  rcases hof with ⟨hne, rfl⟩ | ⟨hF0, po, rfl, _, l3⟩
  · obtain ⟨E, hEE⟩ : ∃ E, ofE ys = E := ⟨_, rfl⟩
    rw [hEE] at hne ⊢
    have hnz : (E == 0) = false := by rw [beq_eq_false_iff_ne]; exact hne
    clear hEE
    go_wp2_with fail
    go_ret
    exact ⟨rfl, S2.out.trans S23.out⟩
  obtain ⟨hR, hok, hlen⟩ := ofE_zero hF0
  have cV := fun w' (hs : Step noF w1 w') => refOf_any ys (by omega) HMQ.out b d w' (HMR.out.step (S1.out.trans hs))
  obtain ⟨O, hO⟩ : ∃ O, sortL ys = O := ⟨_, rfl⟩
  have HO := hid hO
  rw [hO] at hR hok hlen l3
  have HORI := hid hR
  have HOOK := hid hok
  have LO3 := hid l3
  have hO60 : O.length ≤ 60 := by omega
  have HF0 := hid hF0
  clear hR hok l3 hO hF0 hlen
  go_wp2_with fail
  refine (cU w3 (S12.out.trans S23.out)).mono ?_
  rintro e w4 ⟨hof, s4⟩
  rcases hof with ⟨hne, _⟩ | ⟨_, v, rfl, o4⟩
  · exact absurd HE0.out hne
  rw [HS.out] at o4
  obtain ⟨ua, uc, rfl, ucap, unil, ur⟩ := o4.row
  have UR4 := hid ur
  have UN := hid unil
  have HUC := hid ucap
  have S14 := hid ((S12.out.trans S23.out).trans s4)
  have S34 := hid s4
  clear cU s4 o4 ur unil ucap
  go_wp2_with fail
  refine (cV w4 S14.out).mono ?_
  rintro e w5 ⟨hof, s5⟩
  rcases hof with ⟨hne, _⟩ | ⟨_, v, rfl, o5⟩
  · exact absurd HF0.out hne
  rw [HO.out] at o5
  obtain ⟨oa, oc, rfl, ocap, onil, orr⟩ := o5.row
  have OR := hid orr
  have ON := hid onil.1
  have UR := hid (UR4.out.step s5)
  have L5 := hid (L2.out.step (S23.out.trans (S34.out.trans s5)))
  have LO5 := hid (LO3.out.step (S34.out.trans s5))
  have S5 := hid (S1.out.trans (S14.out.trans s5))
  have UN5 := hid (UN.out.step s5)
  clear cV s5 o5 orr onil ocap S14 S34 S12 S23 LO3 L2 UR4 UN
  go_wp2_with fail
  refine (parts_any p S HSm.out HOK.out w5 L5.out).mono ?_
  rintro e w6 ⟨v, qs, rfl, o6, l6, s6⟩
  obtain ⟨hp0, hp1, hp2⟩ := parts_few S HOK.out hS60
  have hql : qs.length = (partsIt S).length := l6.1
  obtain ⟨g, cap, rfl⟩ := owns_some o6 (by omega)
  have O6 := hid o6
  have LV6 := hid l6
  have S6 := hid s6
  have HP2 := hid hp2
  clear o6 l6 s6
  obtain ⟨n, hn⟩ : ∃ n, qs.length = n := ⟨_, rfl⟩
  have HNQ := hid hn
  rw [hn] at hql ⊢
  have HNP : Hid (n = (partsIt S).length) := hql
  rw [← hql] at hp0 hp1
  clear hn hql hp2
  go_wp2_with fail
  refine (refParts_any (S.length + 1) S ua uc w6 (by omega) ⟨by omega, HOK.out⟩ HUC.out (UN5.out.step S6.out) (UR.out.step S6.out)).mono ?_
  rintro e w7 ⟨v, rs, rfl, o7, l7, s7⟩
  have hrl : Hid (rs.length = n) := by
    show _ = _
    rw [HNP.out, ← l7.1, List.length_map]
  obtain ⟨g7, cap7, rfl⟩ := owns_some o7 (by rw [hrl.out]; exact hp0)
  have O7 := hid o7
  rw [hrl.out]
  have LV7 := hid l7
  have S7 := hid s7
  have LV := hid (LV6.out.step S7.out)
  have T7 := hid (S6.out.trans S7.out)
  clear o7 l7 s7
  go_wp2_with fail
  go_loopg [15] n (fun kx s15 wr => ∃ (j : Nat), s15 = .int .i64 j ∧ j ≤ n ∧ n - j ≤ kx ∧ Hid (Step noF w7 wr))
  case atStart => exact ⟨0, rfl, by omega, by omega, Step.refl _ _⟩
  case round =>
    obtain ⟨j, rfl, hj, hkx, ST⟩ := hrel
    by_cases hjl : j < n
    · have hjz : (j : Int) < (n : Int) := by omega
      have hjq : j < qs.length := by rw [HNQ.out]; exact hjl
      have hjp : j < (partsIt S).length := by rw [← HNP.out]; exact hjl
      have hjr : j < rs.length := by rw [hrl.out]; exact hjl
      have pc := (S7.out.trans ST.out).after (ptrs_at O6.out j hjq)
      have rc := ST.out.after (sls_at O7.out j hjr)
      have hP : rs[j].2.2 = (partsIt S)[j] := by
        have := congrArg (fun l => l[j]?) LV7.out.1
        simp only [List.getElem?_map, List.getElem?_eq_getElem hjr, List.getElem?_eq_getElem hjp, Option.map_some] at this
        exact Option.some.inj this
      have hrr := LV7.out.2 wr (UR.out.step (T7.out.trans ST.out)) rs[j] (List.getElem_mem hjr)
      have hll := (LV.out.2 j hjq hjp).step ST.out
      have hpl := HP2.out _ (List.getElem_mem hjp)
      rw [hP] at rc hrr
      obtain ⟨P, hPP⟩ : ∃ P, (partsIt S)[j] = P := ⟨_, rfl⟩
      obtain ⟨qj, hqj⟩ : ∃ qj, qs[j] = qj := ⟨_, rfl⟩
      obtain ⟨⟨ra, rcp, rx⟩, hrj⟩ : ∃ r, rs[j] = r := ⟨_, rfl⟩
      rw [hPP] at rc hrr hll hpl
      rw [hqj] at pc hll
      rw [hrj] at rc hrr
      simp only at rc hrr
      have hP6 : P.length ≤ 1000000 := by omega
      have HRR := hid hrr
      have HLL := hid hll
      have cI := fun w' (hs : Step noF wr w') => items_rowP qj P hP6 w' (HLL.out.step hs)
      have cS := fun a1 a2 c1 c2 w' h1 h2 => refSame_yesP P hP6 a1 a2 c1 c2 w' h1 h2
      clear hP hrr hll hPP hqj hrj hpl hjq hjp hjr
      go_upto_region 18 with fail
      go_cut [99] from 76 to 99 (fun s99 wx => s99 = .bool false ∧ Hid (Step noF wr wx))
      case first =>
        change Code.wp _ (Code.region 18 ((Try.f4.body.bind (regionOps 18)).getD #[]) true) _ _ _
        refine lpar_go g g7 n cap cap7 j qj rcp ra P hjz _ wr rfl rfl rfl rfl (fun w' hs => ⟨hs.after pc, hs.after rc, ?_, ?_⟩) ?_
        · refine (cI w' hs).mono ?_
          rintro e w'' ⟨a9, c9, rfl, r9, t9⟩
          exact ⟨_, rfl, t9.out, a9, c9, rfl, r9.out⟩
        · intro a1 k1 h1
          refine (cS a1 ra k1 rcp w' h1 (HRR.out.step hs)).mono ?_
          rintro e w'' ⟨rfl, t9⟩
          exact ⟨rfl, t9.out⟩
        · intro aa w' hs hd hz hfr h99
          obtain ⟨gg, rfl, hg⟩ := meet_LP aa _ lparDl hd rfl hz hfr
          have h99' : gg 99 = .bool false := (hg 99).trans h99
          clear hg h99 hfr hd hz
          go_wp2_with fail
          go_meet
          exact ⟨h99', hs⟩
      case rest =>
        obtain ⟨rfl, U8⟩ := hcut
        have T8 := hid (ST.out.trans U8.out)
        clear cI cS
        go_wp2_with fail
        go_roundg (n - (j + 1))
        case measure => omega
        case rel => exact ⟨j + 1, by simp, by omega, Nat.le_refl _, T8⟩
    · obtain rfl : j = n := by omega
      have hjz : ¬ (j : Int) < (j : Int) := by omega
      have WR := hid (T7.out.trans ST.out)
      have LP := hid (L5.out.step WR.out)
      have LQ := hid (LO5.out.step WR.out)
      have UW := hid (UR.out.step WR.out)
      have OW := hid (OR.out.step WR.out)
      have SW := hid (S5.out.trans WR.out)
      clear hkx hj hjz
      go_wp2_with fail
      refine (join_any p po S O (by omega) wr LP.out LQ.out).mono ?_
      rintro e w8 ⟨hj8, s8⟩
      have S8 := hid s8
      have UW8 := hid (UW.out.step s8)
      have OW8 := hid (OW.out.step s8)
      have SW8 := hid (SW.out.trans s8)
      clear s8
      rcases hj8 with ⟨hA, rfl⟩ | ⟨hA, jj, rfl, _, l8⟩
      · have HA := hid hA
        have hS0 : 0 < S.length := by
          rcases Nat.eq_zero_or_pos S.length with h | h
          · rw [ahead_one (.inl h)] at hA; cases hA
          · exact h
        have hO0 : 0 < O.length := by
          rcases Nat.eq_zero_or_pos O.length with h | h
          · rw [ahead_one (.inr h)] at hA; cases hA
          · exact h
        obtain ⟨m, hm⟩ : ∃ m, S.length = m + 1 := ⟨S.length - 1, by omega⟩
        rw [ahead_last m hm hO0] at hA
        obtain ⟨g1, o1, e1, x0, -⟩ := UW8.out.at m (by omega)
        obtain ⟨g2, o2, e2, y0, -⟩ := OW8.out.at 0 hO0
        subst e1
        subst e2
        rw [Nat.zero_mul, Nat.add_zero] at y0
        obtain ⟨zl, hzl⟩ : ∃ z, (S[m]'(by omega)).lo = z := ⟨_, rfl⟩
        obtain ⟨yl, hyl⟩ : ∃ z, (O[0]'hO0).lo = z := ⟨_, rfl⟩
        rw [hzl] at x0 hA
        rw [hyl] at y0 hA
        have ez : (S.length : Int) - 1 = (m : Int) := by omega
        have ew : IntKind.i64.wrap (m : Int) = (m : Int) := by rw [IntKind.wrap_i64]; omega
        have hz1 : (0 : Int) < (S.length : Int) := by omega
        have hz2 : (0 : Int) < (O.length : Int) := by omega
        have hz3 : (m : Int) < (S.length : Int) := by omega
        have hLe := less_str
        clear hzl hyl hm hO0 hS0
        obtain ⟨ls, hls⟩ : ∃ ls, S.length = ls := ⟨_, rfl⟩
        obtain ⟨lo, hlo⟩ : ∃ lo, O.length = lo := ⟨_, rfl⟩
        have HLS := hid hls
        have HLO := hid hlo
        rw [hls] at ez hz1 hz3 ⊢
        rw [hlo] at hz2 ⊢
        have hn1 : 0 < ls := by omega
        have hn2 : 0 < lo := by omega
        have hn3 : m < ls := by omega
        clear hls hlo
        go_wp2_with fail
        go_quiet (fail)
        go_wp2_with fail
        refine (with_nil none 0 0 _).mono ?_
        rintro e wx ⟨rfl, rfl⟩
        go_wp2_with fail
        refine (join_nil1 (.pointer (some ⟨p, 0, none⟩)) _).mono ?_
        rintro e wx ⟨rfl, rfl⟩
        go_wp2_with fail
        refine (join_nil2 p _).mono ?_
        rintro e wx ⟨rfl, rfl⟩
        go_wp2_with fail
        refine (find_nil [97] _).mono ?_
        rintro e wx ⟨rfl, rfl⟩
        go_wp2_with fail
        refine (len_nil _).mono ?_
        rintro e wx ⟨rfl, rfl⟩
        go_wp2_with fail
        refine (weight_nil _).mono ?_
        rintro e wx ⟨rfl, rfl⟩
        go_wp2_with fail
        refine (items_nil _).mono ?_
        rintro e wx ⟨rfl, rfl⟩
        go_wp2_with fail
        refine (parts_nil _).mono ?_
        rintro e wx ⟨rfl, rfl⟩
        go_wp2_with fail
        refine (low_nil _).mono ?_
        rintro e wx ⟨rfl, rfl⟩
        go_wp2_with fail
        refine (within_nil ⟨[], []⟩ _).mono ?_
        rintro e wy ⟨rfl, sy⟩
        have SY := hid sy
        clear sy
        go_wp2_with fail
        refine (same_nil wy).mono ?_
        rintro e wx ⟨rfl, rfl⟩
        go_wp2_with fail
        refine (same_none p wy).mono ?_
        rintro e wx ⟨rfl, rfl⟩
        go_wp2_with fail
        go_ret
        exact ⟨rfl, (SW8.out.drewN _).trans SY.out⟩
      · have HA := hid hA
        have UNN := hid UN5.out.1
        obtain ⟨J, hJ⟩ : ∃ J, S ++ O = J := ⟨_, rfl⟩
        have HJ := hid hJ
        rw [hJ] at l8
        have hJl : J.length ≤ 1000000 := by rw [← hJ, List.length_append]; omega
        have LJ := hid l8
        clear hJ l8 hA
        go_upto_region 21 with fail
        go_cut [127] from 106 (fun s wx => s = .bool false ∧ Hid (Step noF w8 wx))
        case first =>
          have hLe := less_str
          by_cases hS0 : S.length = 0
          · obtain rfl : S = [] := List.eq_nil_of_length_eq_zero hS0
            clear hS0
            go_quiet (fail)
            go_wp2_with fail
            go_meet
            exact ⟨rfl, (Step.refl noF w8).drewN _⟩
          · have hz1 : (0 : Int) < (S.length : Int) := by omega
            by_cases hO0 : O.length = 0
            · obtain rfl : O = [] := List.eq_nil_of_length_eq_zero hO0
              clear hO0 hS0
              obtain ⟨ls, hls⟩ : ∃ ls, S.length = ls := ⟨_, rfl⟩
              rw [hls] at hz1 ⊢
              have HLS := hid hls
              have hn1 : 0 < ls := by omega
              clear hls
              go_quiet (fail)
              rw [← HLS.out]
              go_wp2_with fail
              go_meet
              exact ⟨rfl, (Step.refl noF w8).drewN _⟩
            · have hO1 : 0 < O.length := by omega
              obtain ⟨m, hm⟩ : ∃ m, S.length = m + 1 := ⟨S.length - 1, by omega⟩
              have hA := HA.out
              rw [ahead_last m hm hO1] at hA
              obtain ⟨g1, o1, e1, x0, -⟩ := UW8.out.at m (by omega)
              obtain ⟨g2, o2, e2, y0, -⟩ := OW8.out.at 0 hO1
              subst e1
              subst e2
              rw [Nat.zero_mul, Nat.add_zero] at y0
              obtain ⟨zl, hzl⟩ : ∃ z, (S[m]'(by omega)).lo = z := ⟨_, rfl⟩
              obtain ⟨yl, hyl⟩ : ∃ z, (O[0]'hO1).lo = z := ⟨_, rfl⟩
              rw [hzl] at x0 hA
              rw [hyl] at y0 hA
              have ez : (S.length : Int) - 1 = (m : Int) := by omega
              have ew : IntKind.i64.wrap (m : Int) = (m : Int) := by rw [IntKind.wrap_i64]; omega
              have hz2 : (0 : Int) < (O.length : Int) := by omega
              have hz3 : (m : Int) < (S.length : Int) := by omega
              clear hzl hyl hm hO1 hO0 hS0
              obtain ⟨ls, hls⟩ : ∃ ls, S.length = ls := ⟨_, rfl⟩
              obtain ⟨lo, hlo⟩ : ∃ lo, O.length = lo := ⟨_, rfl⟩
              have HLS := hid hls
              have HLO := hid hlo
              rw [hls] at ez hz1 hz3 ⊢
              rw [hlo] at hz2 ⊢
              have hn1 : 0 < ls := by omega
              have hn2 : 0 < lo := by omega
              have hn3 : m < ls := by omega
              clear hls hlo
              go_quiet (fail)
              rw [← HLS.out, ← HLO.out]
              go_wp2_with fail
              go_meet
              exact ⟨rfl, (Step.refl noF w8).drewN _⟩
        case rest =>
          obtain ⟨rfl, U8⟩ := hcut
          have UX := hid (UW8.out.step U8.out)
          have OX := hid (OW8.out.step U8.out)
          have SX := hid (SW8.out.trans U8.out)
          have LX := hid (LJ.out.step U8.out)
          clear UW8 OW8 SW8 LJ U8
          go_wp2_with fail
          refine (items_rowP jj J hJl wc LX.out).mono ?_
          rintro e wd ⟨ja, jc, rfl, rj, td⟩
          have RJ := rj
          have UD := hid (UX.out.step td.out)
          have OD := hid (OX.out.step td.out)
          have E0 : Hid (OwnIt (wd.alloc (.cells #[] 46)) wd.heap.size (.slice (some ⟨wd.heap.size, 0, none⟩) 0 0) []) := OwnIt.empty wd
          have A0 : Hid (Step noF wd (wd.alloc (.cells #[] 46))) := (Step.refl noF wd).alloc _
          have UD1 := hid (UD.out.step A0.out)
          have LL0 : Hid (([] : List Rg).length + S.length ≤ 1000000000) := by show _ ≤ _; simp; omega
          go_wp2_with (at_builtin; refine wpList_append_itW (by first | rfl | kernel_rfl) _ _ rfl wd.heap.size _ [] rfl E0.out ua uc S rfl UD1.out UNN.out LL0.out A0.out.size ?_)
          intro v1 w9 o9 g9
          have O9 : Hid (OwnIt w9 wd.heap.size v1 S) := OwnIt.of o9 (by simp)
          have A9 : Hid (Step noF wd w9) := OwnIt.after A0.out E0.out (Nat.le_refl _) g9
          have OD9 := hid (OD.out.step A9.out)
          have LL1 : Hid (S.length + O.length ≤ 1000000000) := by show _ ≤ _; omega
          clear o9 g9
          go_wp2_with (at_builtin; refine wpList_append_itW (by first | rfl | kernel_rfl) _ _ rfl wd.heap.size v1 S rfl O9.out oa oc O rfl OD9.out ON.out LL1.out A9.out.size ?_)
          intro v2 wa oa2 ga
          have OA : Hid (OwnIt wa wd.heap.size v2 J) := by
            have := OwnIt.of (xs := S ++ O) oa2 (by simp)
            rw [HJ.out] at this
            exact this
          have AA : Hid (Step noF wd wa) := OwnIt.after A9.out O9.out (Nat.le_refl _) ga
          clear oa2 ga
          obtain ⟨ka, kc, rfl, _, _, kr⟩ := OA.out.row
          have KR := hid kr
          clear kr
          go_wp2_with fail
          refine (refSame_yesP J hJl ja ka jc kc wa (RJ.out.step AA.out) KR.out).mono ?_
          rintro e wb ⟨rfl, tb⟩
          have SB := hid (((SX.out.trans td.out).trans AA.out).trans tb.out)
          clear tb td
          go_wp2_with fail
          refine (with_nil none 0 0 wb).mono ?_
          rintro e wx ⟨rfl, rfl⟩
          go_wp2_with fail
          refine (join_nil1 (.pointer (some ⟨p, 0, none⟩)) wb).mono ?_
          rintro e wx ⟨rfl, rfl⟩
          go_wp2_with fail
          refine (join_nil2 p wb).mono ?_
          rintro e wx ⟨rfl, rfl⟩
          go_wp2_with fail
          refine (find_nil [97] wb).mono ?_
          rintro e wx ⟨rfl, rfl⟩
          go_wp2_with fail
          refine (len_nil wb).mono ?_
          rintro e wx ⟨rfl, rfl⟩
          go_wp2_with fail
          refine (weight_nil wb).mono ?_
          rintro e wx ⟨rfl, rfl⟩
          go_wp2_with fail
          refine (items_nil wb).mono ?_
          rintro e wx ⟨rfl, rfl⟩
          go_wp2_with fail
          refine (parts_nil wb).mono ?_
          rintro e wx ⟨rfl, rfl⟩
          go_wp2_with fail
          refine (low_nil wb).mono ?_
          rintro e wx ⟨rfl, rfl⟩
          go_wp2_with fail
          refine (within_nil ⟨[], []⟩ wb).mono ?_
          rintro e wy ⟨rfl, sy⟩
          have SY := hid sy
          clear sy
          go_wp2_with fail
          refine (same_nil wy).mono ?_
          rintro e wx ⟨rfl, rfl⟩
          go_wp2_with fail
          refine (same_none p wy).mono ?_
          rintro e wx ⟨rfl, rfl⟩
          go_wp2_with fail
          go_ret
          exact ⟨rfl, SB.out.trans SY.out⟩
end Go.Proofs.Ytclaagihmpghnaa
