/-
  The document's Msgs and Over.
-/
import Derived.Test.YtnalillebemglaaGreatMgRC
import Derived.Test.YtnalillebemglaaGreatMgI
import Derived.Test.YtnalillebemglaaGreatBfRA
import Derived.Test.YtnalillebemglaaGreatLfRD
namespace Go.Proofs.YtnalillebemglaaGreat
open Go.RowKit Go.Sort
set_option linter.unusedVariables false
set_option linter.unusedSimpArgs false
set_option maxRecDepth 20000

theorem foldR_take (rs : List (List Mg)) (j : Nat) (hj : j < rs.length) (xs : List It) : (rs.take (j + 1)).foldl (fun l r => withL r l) xs = withL rs[j] ((rs.take j).foldl (fun l r => withL r l) xs) := by
  rw [List.take_succ_eq_append_getElem hj, List.foldl_append]
  rfl
theorem foldR_good {rs : List (List Mg)} (h : OkR rs) {xs : List It} (hR : Rising xs) (hok : ∀ x ∈ xs, itOk x = true) : ∀ j, Rising ((rs.take j).foldl (fun l r => withL r l) xs) ∧ ∀ x ∈ (rs.take j).foldl (fun l r => withL r l) xs, itOk x = true := by
  intro j
  induction j with
  | zero => exact ⟨hR, hok⟩
  | succ j ih =>
    by_cases hj : j < rs.length
    · rw [foldR_take rs j hj]
      exact ⟨withL_rising _ _ ih.1, withL_ok _ (h _ (List.getElem_mem hj)).1 _ ih.2⟩
    · rw [List.take_of_length_le (by omega)]
      rw [List.take_of_length_le (by omega)] at ih
      exact ih
theorem foldR_len (rs : List (List Mg)) (xs : List It) : ∀ j, j ≤ rs.length → ((rs.take j).foldl (fun l r => withL r l) xs).length ≤ xs.length + leftR (rs.take j) := by
  intro j
  induction j with
  | zero => intro _; simp
  | succ j ih =>
    intro hj
    rw [foldR_take rs j (by omega), leftR_take rs j (by omega)]
    exact Nat.le_trans (refL_len rs[j] _) (Nat.le_trans (Nat.add_le_add_right (ih (by omega)) _) (by omega))
theorem leftR_takeLe (rs : List (List Mg)) (j : Nat) : leftR (rs.take j) ≤ leftR rs := by
  unfold leftR
  conv => rhs; rw [← List.take_append_drop j rs]
  rw [List.flatten_append, List.length_append]
  omega
theorem run_le {rs : List (List Mg)} {r : List Mg} (h : r ∈ rs) : r.length ≤ leftR rs := by
  unfold leftR
  induction rs with
  | nil => simp at h
  | cons q rs ih =>
    rw [List.flatten_cons, List.length_append]
    rw [List.mem_cons] at h
    rcases h with rfl | h
    · omega
    · have := ih h
      omega
set_option maxHeartbeats 4000000 in
theorem refMsgsR_any (rs : List (List Mg)) (hok : OkR rs) (hrl : rs.length ≤ 1000) (hlr : leftR rs ≤ 40000) (a : Option Addr) (c : Nat) (w : World) (h : RunsAt w a rs) :
    Calls Tryz.prog 12 #[.slice a rs.length c] w fun e w' => (∃ v, e = .returned v ∧ OwnB w' w.heap.size v (msgsR rs)) ∧ Step noF w w' := by
  have HR := hid h
  have HOK := hid hok
  have HLR := hid hlr
  clear h hok hlr
  have HNEW : Hid (OwnB (w.alloc (.cells #[] 37)) w.heap.size (.slice (some ⟨w.heap.size, 0, none⟩) 0 0) []) := OwnB.empty w
  go_enter Tryz.func12, Tryz.ntmps12
  go_wp2_with fail
  go_loopg [3, 4] 1001 (fun kx v i wr => ∃ (j : Nat) (vv : Value), vv = v ∧ i = .int .i64 j ∧ j ≤ rs.length ∧ rs.length - j ≤ kx ∧ Hid (Step noF w wr) ∧ Hid (OwnB wr w.heap.size vv (msgsR (rs.take j))))
  case atStart => exact ⟨0, _, rfl, rfl, by omega, by omega, (Step.refl noF w).alloc _, HNEW.out⟩
  case round =>
    obtain ⟨j, v, rfl, rfl, hj, hkx, HS, HV⟩ := hrel
    by_cases hjl : j < rs.length
    · have hjz : (j : Int) < (rs.length : Int) := by omega
      obtain ⟨b, off, rfl, aj, cj, r0, hcj, hlc, hm⟩ := (HR.out.step HS.out).at j hjl
      obtain ⟨va, vc, rfl, _, hvn, hvm⟩ := owns_msgs HV.out
      have hvc := hvn.1
      have hvo := HV.out
      have hokt : OkR (rs.take j) := fun r hr => HOK.out r (List.mem_of_mem_take hr)
      have hg := msgsR_good hokt
      have hl1 := msgsR_len (rs.take j)
      have hl2 := leftR_takeLe rs j
      have hl3 := run_le (List.getElem_mem hjl)
      have cW := refWithB_own (msgsR (rs.take j)) hg.2 hg.1 rs[j] (by have := HLR.out; omega) va vc hvc aj cj wr w.heap.size HS.out.size hvo hm
      have HALL : Hid (rs[j].all Mg.is = true) := List.all_eq_true.2 (HOK.out _ (List.getElem_mem hjl)).1
      have HT : Hid (msgsR (rs.take (j + 1)) = putsM rs[j] (msgsR (rs.take j))) := msgsR_take rs j hjl
      obtain ⟨r, hr⟩ : ∃ r, rs[j] = r := ⟨_, rfl⟩
      rw [hr] at r0 cW HALL HT
      obtain ⟨n, hn⟩ : ∃ n, r.length = n := ⟨_, rfl⟩
      rw [hn] at r0 cW
      obtain ⟨L, hL⟩ : ∃ L, (msgsR (rs.take j)).length = L := ⟨_, rfl⟩
      rw [hL] at cW ⊢
      clear hr hm hlc hcj hn hL hvm hvc hvo hvn HV hokt hg hl1 hl2 hl3
      go_wp2_with fail
      refine cW.mono ?_
      rintro e w2 ⟨hp, s2⟩
      have S2 := hid (HS.out.trans s2)
      clear s2 cW
      rcases hp with ⟨h1, _⟩ | ⟨_, v2, rfl, hv2⟩
      · rw [HALL.out] at h1
        cases h1
      · have HV2 := hid hv2
        clear hv2
        go_wp2_with fail
        go_roundg (rs.length - (j + 1))
        case measure => omega
        case rel =>
          refine ⟨j + 1, _, rfl, by simp, by omega, Nat.le_refl _, S2.out, ?_⟩
          show OwnB _ _ _ _
          rw [HT.out]
          exact HV2.out
    · have hjz : ¬ (j : Int) < (rs.length : Int) := by omega
      obtain rfl : j = rs.length := by omega
      have HV2 : Hid (OwnB wr w.heap.size v (msgsR rs)) := by
        have := HV.out
        rw [List.take_of_length_le (Nat.le_refl _)] at this
        exact this
      go_wp2_with fail
      go_ret
      exact ⟨⟨_, rfl, HV2.out⟩, HS.out⟩
set_option maxHeartbeats 4000000 in
theorem refOverR_any (xs : List Rg) (hl : xs.length ≤ 1000) (hS : ∀ x ∈ xs, x.lo.length ≤ maxLen ∧ x.hi.length ≤ maxLen) (a : Option Addr) (c : Nat) (rs : List (List Mg)) (hF : FewR rs) (hlr : leftR rs ≤ 40000) (b : Option Addr) (d : Nat) (w : World) (hx : RgsAt w a xs) (h : RunsAt w b rs) :
    Calls Tryz.prog 17 #[.slice a xs.length c, .slice b rs.length d] w fun e w' => ((overE xs rs ≠ 0 ∧ e = .returned (.tuple #[.slice none 0 0, .int .i64 (overE xs rs)])) ∨ (overE xs rs = 0 ∧ ∃ a2 c2, e = .returned (.tuple #[.slice a2 (withL (msgsR rs) xs).length c2, .int .i64 0]) ∧ RgsAt w' a2 (withL (msgsR rs) xs))) ∧ Step noF w w' := by
  have hSl := less_str
  have cO := refOf_any xs (by omega) hS a c w hx
  have cC := fun W (hW : Step noF w W) => refCheck_any rs hF b d W (h.step hW)
  have HX := hid hx
  have HR := hid h
  have HL := hid (And.intro hl hlr)
  have hrl := hF.1
  clear hS hF hx h
  go_enter Tryz.func17, Tryz.ntmps17
  go_wp2_with fail
  refine cO.mono ?_
  rintro e w2 ⟨hp, s2⟩
  have S2 := hid s2
  clear s2 cO
  obtain ⟨l0, e0, rfl, HE0, HL0⟩ : ∃ l0 e0, e = .returned (.tuple #[l0, .int .i64 e0]) ∧ Hid (ofE xs = e0) ∧ Hid (e0 = 0 → OwnIt w2 w.heap.size l0 (sortL xs)) := by
    rcases hp with ⟨h0, rfl⟩ | ⟨h0, v, rfl, ho⟩
    · exact ⟨_, _, rfl, (by show _ = _; rfl), fun h => absurd h h0⟩
    · exact ⟨_, _, rfl, (by show _ = _; exact h0), fun _ => ho⟩
  clear hp
  by_cases h1 : e0 = 1
  · subst h1
    have HO : Hid (overE xs rs = 1) := by
      show _ = _
      unfold overE
      rw [HE0.out]
      rfl
    go_wp2_with fail
    go_ret2
    exact ⟨.inl ⟨by rw [HO.out]; decide, by rw [HO.out]; rfl⟩, S2.out⟩
  · have h1b : (e0 == 1) = false := by rw [beq_eq_false_iff_ne]; exact h1
    go_wp2_with fail
    go_loopg [8] 1001 (fun kx i wr => ∃ (k : Nat), i = .int .i64 k ∧ 1 ≤ k ∧ xs.length - k ≤ kx ∧ Hid (Step noF w2 wr) ∧ Hid (∀ i (h : i + 1 < xs.length), i + 1 < k → xs[i].lo < xs[i + 1].lo))
    case atStart => exact ⟨1, rfl, by omega, by omega, Step.refl _ _, fun i _ h => absurd h (by omega)⟩
    case round =>
      obtain ⟨k, rfl, hk, hkx, HS, HK⟩ := hrel
      have HSS := hid (S2.out.trans HS.out)
      by_cases hkn : k < xs.length
      · obtain ⟨q, rfl⟩ : ∃ q, k = q + 1 := ⟨k - 1, by omega⟩
        obtain ⟨g, o, rfl, c0, c1⟩ := (HX.out.step HSS.out).at (q + 1) hkn
        obtain ⟨g', o', e', d0, d1⟩ := (HX.out.step HSS.out).at q (by omega)
        obtain ⟨rfl, rfl⟩ : g = g' ∧ o = o' := by
          injection e' with e'
          injection e' with e1 e2
          exact ⟨e1, e2⟩
        have ez : (q : Int) + 1 - 1 = (q : Int) := by omega
        have b0 : (q : Int) < (xs.length : Int) := by omega
        have b1 : (q : Int) + 1 < (xs.length : Int) := by omega
        have p1 : (0 : Int) ≤ (q : Int) + 1 := by omega
        have e1 : ((q : Int) + 1).toNat = q + 1 := by omega
        have rq : IntKind.i64.wrap (q : Int) = (q : Int) := by rw [IntKind.wrap_i64]; omega
        have HN : Hid (xs[q].lo < xs[q + 1].lo → ∀ i (h : i + 1 < xs.length), i + 1 < q + 1 + 1 → xs[i].lo < xs[i + 1].lo) := fun h1 i hi hij => by
          by_cases e : i = q
          · subst e; exact h1
          · exact HK.out i hi (by omega)
        have HNO : Hid (¬ xs[q].lo < xs[q + 1].lo → upI xs = false) := fun h => upI_not q hkn h
        obtain ⟨x, hx⟩ : ∃ m, xs[q].lo = m := ⟨_, rfl⟩
        obtain ⟨y, hy⟩ : ∃ m, xs[q + 1].lo = m := ⟨_, rfl⟩
        rw [hx, hy] at HN HNO
        rw [hx] at d0
        rw [hy] at c0
        clear hx hy c1 d1 e'
        by_cases hxy : x < y
        · have HN2 := hid (HN.out hxy)
          go_wp2_with fail
          go_quiet (fail)
          go_wp2_with fail
          go_roundg (xs.length - (q + 2))
          case measure => omega
          case rel => exact ⟨q + 2, by simp; omega, by omega, Nat.le_refl _, HS.out.trans ((Step.refl noF _).drewN _), HN2⟩
        · have HN2 := hid (HNO.out hxy)
          have HO : Hid (overE xs rs = 11) := by
            show _ = _
            unfold overE
            rw [HN2.out, HE0.out]
            by_cases h0 : e0 = 0
            · rw [if_pos h0]; rfl
            · rw [if_neg h0]
              have := HE0.out
              unfold ofE at this
              by_cases g1 : xs.all itOk = true
              · rw [if_pos g1] at this
                by_cases g2 : (keysL xs).Nodup
                · rw [if_pos g2] at this; exact absurd this.symm h0
                · rw [if_neg g2] at this; exact this.symm
              · rw [if_neg g1] at this; exact absurd this.symm h1
          go_wp2_with fail
          go_quiet (fail)
          go_wp2_with fail
          go_ret2
          exact ⟨.inl ⟨by rw [HO.out]; decide, by rw [HO.out]; rfl⟩, HSS.out.trans ((Step.refl noF _).drewN _)⟩
      · have hkz : ¬ (k : Int) < (xs.length : Int) := by omega
        have HU : Hid (upI xs = true) := upI_of (fun i h => HK.out i h (by omega))
        have HE : Hid (e0 = 0) := by
          rcases ofE_up HU.out with h | h
          · exact HE0.out.symm.trans h
          · exact absurd (HE0.out.symm.trans h) h1
        have HO : Hid (overE xs rs = chkR rs) := by
          show _ = _
          unfold overE
          rw [HE0.out, HE.out, HU.out]
          rfl
        have HOW : Hid (OwnIt wr w.heap.size l0 xs) := by
          have := (HL0.out HE.out).step HS.out
          rw [sortL_of_rising xs ((upI_iff xs).1 HU.out)] at this
          exact this
        clear HK hkx HL0 h1b
        go_wp2_with fail
        refine (cC _ HSS.out).mono ?_
        rintro e w4 ⟨rfl, s4⟩
        have S4 := hid (HSS.out.trans s4)
        have HOW4 := hid (HOW.out.step s4)
        obtain ⟨E, hE⟩ : ∃ E, chkR rs = E := ⟨_, rfl⟩
        have HE2 := hid hE
        rw [hE]
        clear s4 cC hE
        by_cases hE0 : E = 0
        · subst hE0
          have HOK := hid (chkR_ok HE2.out)
          have HIT := hid (ofE_zeroR (HE0.out.trans HE.out)).1
          have HRI : Hid (Rising xs) := (upI_iff xs).1 HU.out
          have HST : Hid (∃ a c, l0 = .slice a xs.length c ∧ (a = none → c = 0) ∧ RgsAt w4 a xs) := by
            obtain ⟨a, c, h1, _, h2, h3⟩ := HOW4.out.row
            exact ⟨a, c, h1, h2.1, h3⟩
          clear HOW HOW4 h1
          go_wp2_with fail
          go_loopg [6, 9] 1001 (fun kx v i wr => ∃ (j : Nat) (vv : Value), vv = v ∧ i = .int .i64 j ∧ j ≤ rs.length ∧ rs.length - j ≤ kx ∧ Hid (Step noF w wr) ∧ Hid (∃ a c, vv = .slice a ((rs.take j).foldl (fun l r => withL r l) xs).length c ∧ (a = none → c = 0) ∧ RgsAt wr a ((rs.take j).foldl (fun l r => withL r l) xs)))
          case atStart => exact ⟨0, _, rfl, rfl, by omega, by omega, S4.out, HST.out⟩
          case round =>
            obtain ⟨j, v, rfl, rfl, hj, hkx, HS5, HV⟩ := hrel
            by_cases hjl : j < rs.length
            · have hjz : (j : Int) < (rs.length : Int) := by omega
              obtain ⟨b, off, rfl, aj, cj, r0, hcj, hlc, hm⟩ := (HR.out.step HS5.out).at j hjl
              obtain ⟨va, vc, rfl, hvc, hvm⟩ := HV.out
              have hg := foldR_good HOK.out HRI.out HIT.out j
              have hl1 := foldR_len rs xs j hj
              have hl2 := leftR_takeLe rs j
              have hl3 := run_le (List.getElem_mem hjl)
              have cW := refWith_any _ hg.1 hg.2 (by have := HL.out; omega) rs[j] (by have := HL.out; omega) va vc hvc aj cj wr hvm hm
              have HALL : Hid (rs[j].all Mg.is = true) := List.all_eq_true.2 (HOK.out _ (List.getElem_mem hjl)).1
              have HT : Hid ((rs.take (j + 1)).foldl (fun l r => withL r l) xs = withL rs[j] ((rs.take j).foldl (fun l r => withL r l) xs)) := foldR_take rs j hjl xs
              obtain ⟨r, hr⟩ : ∃ r, rs[j] = r := ⟨_, rfl⟩
              rw [hr] at r0 cW HALL HT
              obtain ⟨n, hn⟩ : ∃ n, r.length = n := ⟨_, rfl⟩
              rw [hn] at r0 cW
              obtain ⟨D, hD⟩ : ∃ D, (rs.take j).foldl (fun l r => withL r l) xs = D := ⟨_, rfl⟩
              rw [hD] at cW HT ⊢
              obtain ⟨L, hL⟩ : ∃ L, D.length = L := ⟨_, rfl⟩
              rw [hL] at cW ⊢
              clear hr hm hlc hcj hn hL hvm hvc hg hl1 hl2 hl3 hD
              go_wp2_with fail
              refine cW.mono ?_
              rintro e w5 ⟨hp, s5⟩
              have S5 := hid (HS5.out.trans s5)
              clear s5 cW
              rcases hp with ⟨h1, _⟩ | ⟨_, a5, c5, rfl, hc5, hv5⟩
              · rw [HALL.out] at h1
                cases h1
              · have HV5 := hid (And.intro hc5 hv5)
                clear hv5 hc5
                go_wp2_with fail
                go_roundg (rs.length - (j + 1))
                case measure => omega
                case rel =>
                  refine ⟨j + 1, _, rfl, by simp, by omega, Nat.le_refl _, S5.out, ?_⟩
                  show ∃ a c, _
                  rw [HT.out]
                  exact ⟨a5, c5, rfl, HV5.out⟩
            · have hjz : ¬ (j : Int) < (rs.length : Int) := by omega
              obtain rfl : j = rs.length := by omega
              obtain ⟨va, vc, rfl, hvc, hvm⟩ := HV.out
              have HW : Hid ((rs.take rs.length).foldl (fun l r => withL r l) xs = withL (msgsR rs) xs) := by
                show _ = _
                rw [List.take_of_length_le (Nat.le_refl _), withL_msgsR HOK.out xs HRI.out]
              rw [HW.out] at hvm ⊢
              have HVM := hid hvm
              have HO2 : Hid (overE xs rs = 0) := by show _ = _; rw [HO.out, HE2.out]
              clear hvm hvc
              go_wp2_with fail
              go_ret2
              exact ⟨.inr ⟨HO2.out, va, ⟨vc, rfl⟩, HVM.out⟩, HS5.out⟩
        · have hEb : (E == 0) = false := by rw [beq_eq_false_iff_ne]; exact hE0
          go_wp2_with fail
          go_ret2
          exact ⟨.inl ⟨by rw [HO.out, HE2.out]; exact hE0, by rw [HO.out, HE2.out]; rfl⟩, S4.out⟩
end Go.Proofs.YtnalillebemglaaGreat
