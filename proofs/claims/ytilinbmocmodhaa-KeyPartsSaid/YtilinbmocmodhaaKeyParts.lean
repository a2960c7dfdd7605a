/-
  KeyParts.
-/
import Derived.Test.YtilinbmocmodhaaKeyPb
import Derived.Deep.QuietTactic
import Derived.BigQuiet
namespace Go.Proofs.Ytilinbmocmodhaa
open Go.RowKit
set_option linter.unusedVariables false
set_option linter.unusedSimpArgs false

set_option maxHeartbeats 8000000 in
set_option maxRecDepth 100000 in
theorem parts_in (r o : Rg) (k : List UInt8) (ps : List (List UInt8)) (a : Option Addr) (cap : Nat) (w : World) (hrow : RowAt w noF a (texts ps)) (h0 : ps.length ≤ 20) (h1 : r.may = true) (h2 : o.may = true) :
    Calls Try.prog 5 #[r.val, o.val, .string (str k), .slice a ps.length cap] w fun e w' => e = .returned (.bool true) ∧ Step noF w w' := by
  have e0 : r.val = .agg #[.string (str r.lo), .string (str r.hi)] := rfl
  have e1 : o.val = .agg #[.string (str o.lo), .string (str o.hi)] := rfl
  have K1 := may_any r
  have K2 := may_any o
  rw [e0, h1] at K1
  rw [e1, h2] at K2
  have H1 := hid h1
  have H2 := hid h2
  have hE := same_str
  have hL := less_str
  have hn0 := nil_str
  have C1 := fun u hu => cut_any r ps (by omega) a cap u hu
  have HL : Hid ((r.cut ps).length = ps.length + 1) := cut_length r ps
  have HCN := hid (count_cut r k ps)
  rw [e0] at C1
  rw [e0, e1]
  clear h1 h2 e0 e1
  obtain ⟨W, hW⟩ : ∃ W, (w.alloc (.cells #[.string (str r.lo), .string (str r.hi)] 29)).alloc (.cells #[.string (str o.lo), .string (str o.hi)] 29) = W := ⟨_, rfl⟩
  have S1 : Hid (Step noF w W) := by rw [← hW]; exact ((Step.refl noF w).alloc _).alloc _
  have P1 : Hid (PairAt W w.heap.size 29 r.lo r.hi) := by rw [← hW]; exact (pair_new w 29 r.lo r.hi).alloc _
  have P2 : Hid (PairAt W (w.heap.size + 1) 29 o.lo o.hi) := by
    have := pair_new (w.alloc (.cells #[.string (str r.lo), .string (str r.hi)] 29)) 29 o.lo o.hi
    rw [← hW]
    rw [World.size_alloc] at this
    exact this
  have HW := hid hW
  have HR := hid hrow
  clear hW hrow
  go_enter Try.func5, Try.ntmps5
  go_wp2_with fail
  rw [HW.out]
  refine (awake_any _).mono ?_
  rintro e w1 ⟨rfl, s1⟩
  have x0 := (P1.out.step s1).c0
  have x1 := (P1.out.step s1).c1
  go_wp2_with fail
  refine (K1 _).mono ?_
  rintro e w2 ⟨rfl, s2⟩
  clear x0 x1
  have y0 := (P2.out.step (s1.trans s2)).c0
  have y1 := (P2.out.step (s1.trans s2)).c1
  go_wp2_with fail
  refine (K2 _).mono ?_
  rintro e w3 ⟨rfl, s3⟩
  have Q1 := hid (P1.out.step ((s1.trans s2).trans s3))
  have Q2 := hid (P2.out.step ((s1.trans s2).trans s3))
  have T3 : Hid (Step noF w w3) := S1.out.trans ((s1.trans s2).trans s3)
  clear y0 y1 s1 s2 s3 P1 P2 S1 HW K1 K2
  go_wp2_with fail
  go_loopw [9] (fun i wr => ∃ j : Nat, j ≤ ps.length ∧ i = .int .i64 j ∧ Step noF w3 wr ∧ Hid (∀ i (h : i < ps.length), i < j → ps[i] ≠ [] ∧ ∀ hi : 0 < i, ps[i - 1]'(by omega) < ps[i])) (fun i _ => ps.length - (intOf i).toNat)
  case atStart => exact ⟨0, Nat.zero_le _, rfl, Step.refl _ _, fun i _ h => by omega⟩
  case round =>
    obtain ⟨j, hj, rfl, hst, hris⟩ := hrel
    by_cases hjn : j < ps.length
    · have hji : (j : Int) < (ps.length : Int) := by omega
      obtain ⟨b, off, rfl, hc⟩ := texts_at (HR.out.step (T3.out.trans hst)) j hjn
      obtain ⟨p, hp⟩ : ∃ p, ps[j] = p := ⟨_, rfl⟩
      rw [hp] at hc
      have HP := hid hp
      clear hp
      by_cases hpe : p = []
      · subst hpe
        go_wp2_with fail
        go_quiet (fail)
        go_wp2_with fail
        go_ret
        exact ⟨rfl, (T3.out.trans hst).drewN _⟩
      · by_cases hj0 : j = 0
        · have hR2 : Hid (∀ i (h : i < ps.length), i < j + 1 → ps[i] ≠ [] ∧ ∀ hi : 0 < i, ps[i - 1]'(by omega) < ps[i]) := by
            intro i h hi
            obtain rfl : i = j := by omega
            exact ⟨by rw [HP.out]; exact hpe, fun hi => by omega⟩
          have hjz : (j : Int) = 0 := by omega
          have hc0 : wr.cell? ⟨b, off, none⟩ = some (.string (str p)) := by
            rw [hj0] at hc
            exact hc
          clear hc hj0
          go_wp2_with fail
          go_quiet (fail)
          go_wp2_with fail
          go_roundw
          case rel => exact ⟨j + 1, by omega, int_eq (by omega), hst.drewN _, hR2.out⟩
          case measure => simp [intOf]; omega
        · obtain ⟨m, rfl⟩ : ∃ m, j = m + 1 := ⟨j - 1, by omega⟩
          obtain ⟨b2, off2, hb2, hc2⟩ := texts_at (HR.out.step (T3.out.trans hst)) m (by omega)
          injection hb2 with hb2
          injection hb2 with hb2 hb3
          subst hb2 hb3
          obtain ⟨q, hq⟩ : ∃ q, ps[m] = q := ⟨_, rfl⟩
          rw [hq] at hc2
          have HQ := hid hq
          have g1 : (0 : Int) < ((m + 1 : Nat) : Int) := by omega
          have g2 : ((m + 1 : Nat) : Int) - 1 = (m : Int) := by omega
          have g3 : (m : Int) < (ps.length : Int) := by omega
          clear hq hj0
          by_cases hqp : q < p
          · have n1 : ¬ p < q := by grind
            have n2 : ¬ p = q := by grind
            have hR2 : Hid (∀ i (h : i < ps.length), i < m + 1 + 1 → ps[i] ≠ [] ∧ ∀ hi : 0 < i, ps[i - 1]'(by omega) < ps[i]) := by
              intro i h hi
              by_cases him : i < m + 1
              · exact hris.out i h him
              · obtain rfl : i = m + 1 := by omega
                refine ⟨by rw [HP.out]; exact hpe, fun hi => ?_⟩
                have e1 : ps[m + 1 - 1]'(by omega) = q := HQ.out
                rw [e1, HP.out]
                exact hqp
            clear hqp
            go_wp2_with fail
            go_quiet (fail)
            go_wp2_with fail
            go_roundw
            case rel => exact ⟨m + 1 + 1, by omega, int_eq (by omega), hst.drewN _, hR2.out⟩
            case measure => simp [intOf]; omega
          · have hor : (decide (p < q) || decide (p = q)) = true := by
              simp
              grind
            clear hqp
            go_wp2_with fail
            go_quiet (fail)
            go_wp2_with fail
            go_ret
            exact ⟨rfl, (T3.out.trans hst).drewN _⟩
    · obtain rfl : j = ps.length := by omega
      have HRS : Hid (Rise [] ps) := rise_from ps [] (fun i h => ⟨(hris.out i h h).1, fun _ => .inl rfl, (hris.out i h h).2⟩)
      have HC2 := hid (HCN.out HRS.out)
      have R1 := hid (Q1.out.step hst)
      have R2 := hid (Q2.out.step hst)
      have T4 : Hid (Step noF w wr) := T3.out.trans hst
      clear hris Q1 Q2 T3 HCN HRS hst
      obtain ⟨rs, hrs⟩ : ∃ rs, r.cut ps = rs := ⟨_, rfl⟩
      rw [hrs] at C1 HL HC2
      clear hrs
      have x0 := R1.out.c0
      have x1 := R1.out.c1
      go_wp2_with fail
      refine (C1 _ (HR.out.step T4.out)).mono ?_
      rintro e w5 ⟨a5, c5, rfl, hc5, G5, s5⟩
      have H5 := hid G5
      have R3 := hid (R1.out.step s5)
      have R4 := hid (R2.out.step s5)
      have T5 : Hid (Step noF w w5) := T4.out.trans s5
      clear G5 s5 x0 x1 R1 R2 T4 C1 HR
      go_wp2_with fail
      go_loopw [11, 12] (fun n i wq => ∃ j : Nat, j ≤ ps.length + 1 ∧ i = .int .i64 j ∧ n = .int .i64 (((rs.take j).countP fun p => p.has k : Nat) : Int) ∧ Step noF w5 wq) (fun _ i _ => ps.length + 1 - (intOf i).toNat)
      case atStart => exact ⟨0, Nat.zero_le _, rfl, rfl, Step.refl _ _⟩
      case round =>
        obtain ⟨j2, hj2, rfl, rfl, hst⟩ := hrel
        by_cases hjn2 : j2 < ps.length + 1
        · have hji2 : (j2 : Int) < ((ps.length + 1 : Nat) : Int) := by omega
          have hlt2 : j2 < rs.length := by rw [HL.out]; exact hjn2
          have hcl : ((rs.take j2).countP fun p => p.has k) ≤ 100 := by
            have h1 := List.countP_le_length (p := fun p : Rg => p.has k) (l := rs.take j2)
            have h2 : (rs.take j2).length ≤ j2 := by rw [List.length_take]; omega
            omega
          obtain ⟨cb, co, rfl, c0, c1⟩ := (H5.out.step hst).at j2 hlt2
          have hT : Hid (((rs.take (j2 + 1)).countP fun p => p.has k) = ((rs.take j2).countP fun p => p.has k) + if rs[j2].has k then 1 else 0) := by
            show _ = _
            rw [List.take_succ_eq_append_getElem hlt2, List.countP_append]
            simp [List.countP_cons]
          obtain ⟨C, hC⟩ : ∃ C, ((rs.take j2).countP fun p => p.has k) = C := ⟨_, rfl⟩
          rw [hC] at hT hcl ⊢
          have K1 : ∀ u, Calls Try.prog 15 #[.agg #[.string (str rs[j2].lo), .string (str rs[j2].hi)], .string (str k)] u fun e w' => e = .returned (.bool (rs[j2].has k)) ∧ Step noF u w' := fun u => has_any rs[j2] k u
          obtain ⟨x, hx⟩ : ∃ x, rs[j2].lo = x := ⟨_, rfl⟩
          obtain ⟨y, hy⟩ : ∃ y, rs[j2].hi = y := ⟨_, rfl⟩
          rw [hx] at c0
          rw [hy] at c1
          rw [hx, hy] at K1
          cases hb : rs[j2].has k
          · rw [hb] at K1 hT
            clear hx hy hlt2 hC hb
            go_wp2_with fail
            refine (K1 _).mono ?_
            rintro e w6 ⟨rfl, s6⟩
            go_wp2_with fail
            go_roundw
            case rel => exact ⟨j2 + 1, by omega, int_eq (by omega), by rw [hT.out]; rfl, hst.trans s6⟩
            case measure => simp [intOf]; omega
          · rw [hb] at K1 hT
            clear hx hy hlt2 hC hb
            go_wp2_with fail
            refine (K1 _).mono ?_
            rintro e w6 ⟨rfl, s6⟩
            go_wp2_with fail
            go_roundw
            case rel => exact ⟨j2 + 1, by omega, int_eq (by omega), int_eq (by rw [hT.out]; simp), hst.trans s6⟩
            case measure => simp [intOf]; omega
        · have hji2 : ¬ (j2 : Int) < ((ps.length + 1 : Nat) : Int) := by omega
          have hall : rs.take j2 = rs := List.take_of_length_le (by rw [HL.out]; omega)
          rw [hall, HC2.out]
          have R5 := hid (R3.out.step hst)
          have R6 := hid (R4.out.step hst)
          have T6 : Hid (Step noF w wr) := T5.out.trans hst
          have x0 := R5.out.c0
          have x1 := R5.out.c1
          have K1 : ∀ u, Calls Try.prog 15 #[.agg #[.string (str r.lo), .string (str r.hi)], .string (str k)] u fun e w' => e = .returned (.bool (r.has k)) ∧ Step noF u w' := fun u => has_any r k u
          have K2 : ∀ u, Calls Try.prog 12 #[.agg #[.string (str r.lo), .string (str r.hi)], .agg #[.string (str o.lo), .string (str o.hi)]] u fun e w' => e = .returned (.agg #[.string (str (r.meet o).lo), .string (str (r.meet o).hi)]) ∧ Step noF u w' := fun u => meet_any r o u
          clear hall hst R3 R4 T5 H5 HL HC2
          cases hb : r.has k
          all_goals
            rw [hb] at K1
            go_wp2_with fail
            refine (K1 _).mono ?_
            rintro e w6 ⟨rfl, s6⟩
            have R7 := hid (R5.out.step s6)
            have R8 := hid (R6.out.step s6)
            have T7 : Hid (Step noF w w6) := T6.out.trans s6
            clear x0 x1 s6
            have x0 := R7.out.c0
            have x1 := R7.out.c1
            have y0 := R8.out.c0
            have y1 := R8.out.c1
            go_wp2_with fail
            refine (K2 _).mono ?_
            rintro e w7 ⟨rfl, s7⟩
            have R9 := hid ((R7.out.step s7).alloc (.cells #[.string (str (r.meet o).lo), .string (str (r.meet o).hi)] 29))
            have R10 := hid ((R8.out.step s7).alloc (.cells #[.string (str (r.meet o).lo), .string (str (r.meet o).hi)] 29))
            have R11 := hid (pair_new w7 29 (r.meet o).lo (r.meet o).hi)
            have T8 : Hid (Step noF w (w7.alloc (.cells #[.string (str (r.meet o).lo), .string (str (r.meet o).hi)] 29))) := (T7.out.trans s7).alloc _
            clear x0 x1 y0 y1 s7
            go_wp2_with fail
            change Code.wp _ (Code.region 20 ((Try.f5.body.bind (regionOps 20)).getD #[]) true) _ _ _
            refine check20 r o H1.out H2.out k w.heap.size (w.heap.size + 1) w7.heap.size _ R9.out R10.out R11.out _ rfl rfl rfl rfl rfl ?_
            intro af wf sf hdef h8
            simp only [Exit.then]
            refine ‹∀ (a : Act) (w : World), Code.wp _ Code.ret _ a w → _› af wf ?_
            refine wp_ret ?_
            change bodyPost Try.prog Try.f5 _ Exit.ret af wf
            exact bodyPost_ret (v := .bool true) ((results_tmp rfl _ _ _).trans (by rw [h8])) hdef ⟨rfl, T8.out.trans sf⟩
theorem parts_walk (r o : Rg) (k : List UInt8) (ps : List (List UInt8)) (a : Option Addr) (cap : Nat) (w : World) (hrow : RowAt w noF a (texts ps)) :
    Calls Try.prog 5 #[r.val, o.val, .string (str k), .slice a ps.length cap] w fun e w' => e = .returned (.bool true) ∧ Step noF w w' := by
  by_cases h : ps.length ≤ 20 ∧ r.may = true ∧ o.may = true
  · exact parts_in r o k ps a cap w hrow h.1 h.2.1 h.2.2
  · exact parts_out r o k ps a cap w h
end Go.Proofs.Ytilinbmocmodhaa
