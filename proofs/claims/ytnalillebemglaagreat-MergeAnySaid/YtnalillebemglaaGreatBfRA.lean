/-
  The reference of layer 10: Weight, Same, Take.
  The reference of layer 10: Take; Put and With.
  The reference of layer 10: Put and With. Written by genbfrc.py.
-/
import Derived.Test.YtnalillebemglaaGreatBfC
import Derived.Test.YtnalillebemglaaGreatKeyM
import Derived.BigQuiet
import Derived.Test.YtnalillebemglaaGreatMsgD
import Derived.Test.YtnalillebemglaaGreatDraw
import Derived.Deep.RegionLaw
import Derived.Deep.CutRange
namespace Go.Proofs.YtnalillebemglaaGreat
open Go.RowKit Go.Sort
set_option linter.unusedVariables false
set_option linter.unusedSimpArgs false
set_option maxRecDepth 20000

set_option maxHeartbeats 1000000 in
/-- Same of the reference. -/
theorem refSameB_any (xs ys : List Mg) (hl : xs.length ≤ 1000000 ∧ ys.length ≤ 1000000) (a1 a2 : Option Addr) (c1 c2 : Nat) (w : World) (h1 : MsgsAt w noF a1 xs) (h2 : MsgsAt w noF a2 ys) :
    Calls Tryz.prog 13 #[.slice a1 xs.length c1, .slice a2 ys.length c2] w fun e w' => e = .returned (.bool (sameM xs ys)) ∧ Step noF w w' := by
  have hE := same_str
  have H1 := hid h1
  have H2 := hid h2
  obtain ⟨hl1, hl2⟩ := hl
  clear h1 h2
  obtain ⟨D, hD⟩ : ∃ D, sameM xs ys = D := ⟨_, rfl⟩
  rw [hD]
  have HD := hid hD
  clear hD
  by_cases hlen : xs.length = ys.length
  · have HL := hid hlen
    rw [← hlen]
    clear hlen
    go_enter Tryz.func13, Tryz.ntmps13
    go_wp2_with fail
    go_loopw [5] (fun i wr => ∃ (j : Nat), j ≤ xs.length ∧ i = .int .i64 j ∧ Hid (xs.take j = ys.take j) ∧ Step noF w wr) (fun i _ => xs.length - (intOf i).toNat)
    case atStart => exact ⟨0, Nat.zero_le _, rfl, (by show _ = _; rfl), Step.refl _ _⟩
    case round =>
      obtain ⟨j, hj, rfl, HT, st⟩ := hrel
      have ST := hid st
      clear st
      by_cases hjl : j < xs.length
      · have hjy : j < ys.length := by have := HL.out; omega
        obtain ⟨g, off, rfl, p0, p1, p2⟩ := (H1.out.stepB ST.out).at j hjl
        obtain ⟨g2, off2, rfl, r0, r1, r2⟩ := (H2.out.stepB ST.out).at j hjy
        have HN : Hid (xs.take (j + 1) = ys.take (j + 1) ↔ xs[j] = ys[j]) := by
          show _ ↔ _
          rw [List.take_succ_eq_append_getElem hjl, List.take_succ_eq_append_getElem hjy, HT.out, List.append_cancel_left_eq, List.cons.injEq]
          simp only [and_true]
        have HNE : Hid (xs[j] ≠ ys[j] → xs ≠ ys) := fun h e => h (by simp [e])
        obtain ⟨⟨x0, x1, x2⟩, hx⟩ : ∃ m, xs[j] = m := ⟨_, rfl⟩
        obtain ⟨⟨y0, y1, y2⟩, hy⟩ : ∃ m, ys[j] = m := ⟨_, rfl⟩
        rw [hx] at p0 p1 p2 HN HNE
        rw [hy] at r0 r1 r2 HN HNE
        clear hx hy
        by_cases e0 : x0 = y0
        · by_cases e1 : x1 = y1
          · by_cases e2 : x2 = y2
            · subst e0
              subst e1
              subst e2
              go_wp2_with fail
              go_quiet (fail)
              go_wp2_with fail
              go_roundw
              case rel => exact ⟨j + 1, by omega, int_eq (by omega), (by show _ = _; first | exact HN.out.2 rfl | exact HN.out.2 trivial), ST.out.drewN _⟩
              case measure => simp [intOf]; omega
            · subst e0
              subst e1
              go_wp2_with fail
              go_quiet (fail)
              go_wp2_with fail
              go_ret
              exact ⟨ret_bool (by rw [← HD.out, sameM_not (HNE.out (fun e => e2 (by injection e)))]), ST.out.drewN _⟩
          · subst e0
            go_wp2_with fail
            go_quiet (fail)
            go_wp2_with fail
            go_ret
            exact ⟨ret_bool (by rw [← HD.out, sameM_not (HNE.out (fun e => e1 (by injection e)))]), ST.out.drewN _⟩
        · have eb0 : (x0 == y0) = false := by rw [beq_eq_false_iff_ne]; exact e0
          go_wp2_with fail
          go_quiet (fail)
          go_wp2_with fail
          go_ret
          exact ⟨ret_bool (by rw [← HD.out, sameM_not (HNE.out (fun e => e0 (by injection e)))]), ST.out.drewN _⟩
      · obtain rfl : j = xs.length := by omega
        go_wp2_with fail
        go_ret
        refine ⟨ret_bool ?_, ST.out⟩
        have := HT.out
        rw [List.take_of_length_le (Nat.le_refl _), HL.out, List.take_of_length_le (Nat.le_refl _)] at this
        rw [← HD.out, (sameM_iff _ _).2 this]
  · have hz : ¬ (xs.length : Int) = (ys.length : Int) := by omega
    have hz2 : ((xs.length : Int) == (ys.length : Int)) = false := by rw [beq_eq_false_iff_ne]; exact hz
    have HNE : Hid (D = false) := by show _ = _; rw [← HD.out]; exact sameM_not (fun e => hlen (by rw [e]))
    go_enter Tryz.func13, Tryz.ntmps13
    go_wp2_with fail
    go_ret
    exact ⟨ret_bool (by rw [HNE.out]), Step.refl _ _⟩

end Go.Proofs.YtnalillebemglaaGreat
namespace Go.Proofs.YtnalillebemglaaGreat
open Go.RowKit Go.Sort
set_option linter.unusedVariables false
set_option linter.unusedSimpArgs false
set_option maxRecDepth 20000

/-- Those whose keys a range has, or has not. -/
def pickM (r : Rg) (b : Bool) (xs : List Mg) : List Mg := xs.filter (fun m => r.has m.key == b)
theorem pickM_true (r : Rg) (xs : List Mg) : pickM r true xs = takeM r xs := by simp [pickM, takeM]
theorem pickM_false (r : Rg) (xs : List Mg) : pickM r false xs = dropM r xs := by simp [pickM, dropM]
theorem pickM_take (r : Rg) (b : Bool) (xs : List Mg) (j : Nat) (hj : j < xs.length) : pickM r b (xs.take (j + 1)) = pickM r b (xs.take j) ++ (if (r.has xs[j].key == b) = true then [xs[j]] else []) := by
  rw [List.take_succ_eq_append_getElem hj, pickM, List.filter_append]
  simp [pickM, List.filter_cons]
theorem pickM_len (r : Rg) (b : Bool) (xs : List Mg) : (pickM r b xs).length ≤ xs.length := List.length_filter_le _ _
end Go.Proofs.YtnalillebemglaaGreat
namespace Go.Proofs.YtnalillebemglaaGreat
open Go.RowKit Go.Sort
set_option linter.unusedVariables false
set_option linter.unusedSimpArgs false
set_option maxRecDepth 20000

theorem putRow_small (m : Mg) (b : List Mg) (j : Nat) : (putRow m (b.take j)).1.length ≤ 2 * b.length := by
  have h := putRow_len m (b.take j) ([], false)
  rw [List.length_take] at h
  unfold putRow
  simp at h ⊢
  omega
set_option maxHeartbeats 8000000 in
theorem refPut_own (b : List Mg) (hl : b.length ≤ 100000) (hR : RisingM b) (m : Mg) (a : Option Addr) (c : Nat) (hc : a = none → c = 0) (w : World) (h : MsgsAt w noF a b) :
    Calls Tryz.prog 59 #[.slice a b.length c, .agg #[.int .i64 m.kind, .string (str m.key), .string (str m.val)]] w fun e w' => (m.is = false ∧ e = .returned (.tuple #[.slice a b.length c, .bool false]) ∨ (m.is = true ∧ ∃ v, e = .returned (.tuple #[v, .bool true]) ∧ OwnB w' w.heap.size v (putM m b))) ∧ Step noF w w' := by
  have hE := same_str
  have hLs := less_str
  have HRI := hid hR
  have HM := hid (trip_new w 37 m)
  have S0 := hid ((Step.refl noF w).alloc (.cells #[.int .i64 m.kind, .string (str m.key), .string (str m.val)] 37))
  have HR := hid (h.stepB S0.out)
  have cI := fun w' => refMis_any m w'
  have e0 : m.value = .agg #[.int .i64 m.kind, .string (str m.key), .string (str m.val)] := rfl
  rw [e0] at cI
  obtain ⟨W0, hW0⟩ : ∃ W0, w.alloc (.cells #[.int .i64 m.kind, .string (str m.key), .string (str m.val)] 37) = W0 := ⟨_, rfl⟩
  rw [hW0] at HM S0 HR
  obtain ⟨z0, z1, z2, _, _, _⟩ := TripAt.all HM.out
  obtain ⟨A, hA⟩ : ∃ A, m.is = A := ⟨_, rfl⟩
  have HA := hid hA
  rw [hA] at cI ⊢
  clear h hR e0 hA HM
  cases A
  · go_enter Tryz.func59, Tryz.ntmps59
    go_wp2_with fail
    refine (cI _).mono ?_
    rintro e w1 ⟨rfl, s1⟩
    have S1 := hid (S0.out.trans s1)
    clear s1
    go_wp2_with fail
    go_ret2
    exact ⟨.inl ⟨by first | rfl | trivial, rfl⟩, S1.out⟩
  · have HPR := hid (putRow_put m b HRI.out)
    have HSM := hid (putRow_small m b)
    have HTK := hid (putRow_take m b)
    obtain ⟨mk, my, mv⟩ := m
    simp only at z0 z1 z2 cI hW0
    go_enter Tryz.func59, Tryz.ntmps59
    go_wp2_with fail
    refine (cI _).mono ?_
    rintro e w1 ⟨rfl, s1⟩
    have S1 := hid s1
    clear s1 hW0
    have HO0 : Hid (OwnB (w1.alloc (.cells #[] 37)) W0.heap.size (.slice (some ⟨w1.heap.size, 0, none⟩) 0 0) []) := (OwnB.empty w1).weak S1.out.size
    go_wp2_with fail
    go_loopw [6, 7, 8] (fun v q i wr => ∃ (j : Nat) (s : List Mg × Bool), j ≤ b.length ∧ i = .int .i64 j ∧ q = .bool s.2 ∧ Hid (putRow ⟨mk, my, mv⟩ (b.take j) = s) ∧ Hid (OwnB wr W0.heap.size v s.1) ∧ Hid (Step noF W0 wr)) (fun _ _ i _ => b.length - (intOf i).toNat)
    case atStart => exact ⟨0, ([], false), Nat.zero_le _, rfl, rfl, (by show _ = _; rfl), HO0.out, S1.out.alloc _⟩
    case round =>
      obtain ⟨j, ⟨D, q⟩, hj, rfl, rfl, HP, HO, HS⟩ := hrel
      have q0 := HS.out.after z0
      have q1 := HS.out.after z1
      have q2 := HS.out.after z2
      have HLL : Hid (D.length ≤ 2 * b.length) := by
        have := HSM.out j
        rw [HP.out] at this
        exact this
      simp only at HO HLL
      by_cases hjl : j < b.length
      · have hjz : (j : Int) < (b.length : Int) := by omega
        obtain ⟨g, off, rfl, e0, e1, e2⟩ := HR.out.at j hjl
        have HT : Hid (putRow ⟨mk, my, mv⟩ (b.take (j + 1)) = putStep ⟨mk, my, mv⟩ (D, q) b[j]) := by show _ = _; rw [HTK.out j hjl, HP.out]
        obtain ⟨⟨xk, xy, xv⟩, hx⟩ : ∃ x, b[j] = x := ⟨_, rfl⟩
        rw [hx] at e0 e1 e2 HT
        simp only at e0 e1 e2
        have d0 := hid e0
        have d1 := hid e1
        have d2 := hid e2
        have c0 := HS.out.after e0
        have c1 := HS.out.after e1
        have c2 := HS.out.after e2
        clear hx e0 e1 e2
        by_cases hky : xy = my
        · have HT2 : Hid (putRow ⟨mk, my, mv⟩ (b.take (j + 1)) = (D ++ [(Mg.mk xk xy xv).then ⟨mk, my, mv⟩], true)) := by show _ = _; rw [HT.out, putStep, if_pos hky]
          have cT := fun W' => refThen_any ⟨xk, xy, xv⟩ ⟨mk, my, mv⟩ W'
          have e1 : (Mg.mk xk xy xv).value = .agg #[.int .i64 xk, .string (str xy), .string (str xv)] := rfl
          have e2 : (Mg.mk mk my mv).value = .agg #[.int .i64 mk, .string (str my), .string (str mv)] := rfl
          have e3 : (Mg.mk xk xy xv).thenQ ⟨mk, my, mv⟩ = .tuple #[.agg #[.int .i64 ((Mg.mk xk xy xv).then ⟨mk, my, mv⟩).kind, .string (str ((Mg.mk xk xy xv).then ⟨mk, my, mv⟩).key), .string (str ((Mg.mk xk xy xv).then ⟨mk, my, mv⟩).val)], .bool ((Mg.mk xk xy xv).both ⟨mk, my, mv⟩)] := rfl
          rw [e1, e2, e3] at cT
          obtain ⟨M, hM⟩ : ∃ M, (Mg.mk xk xy xv).then ⟨mk, my, mv⟩ = M := ⟨_, rfl⟩
          obtain ⟨er, her⟩ : ∃ er, (Mg.mk xk xy xv).both ⟨mk, my, mv⟩ = er := ⟨_, rfl⟩
          rw [hM] at cT HT2
          rw [her] at cT
          clear e1 e2 e3 hM her HT
          obtain ⟨Mk, My, Mv⟩ := M
          simp only at cT
          subst hky
          have hkd : decide (xy = xy) = true := decide_eq_true rfl
          go_wp2_with fail
          go_quiet (fail)
          have st := (Step.refl noF wr).drewN nq
          have q0' := st.after q0
          have q1' := st.after q1
          have q2' := st.after q2
          have HO' := hid (HO.out.step st)
          have HS' := hid (HS.out.trans st)
          clear st c0 c1 c2 q0 q1 q2 HO HS
          generalize wr.drewN nq = W1 at *
          have q0 := q0'
          have q1 := q1'
          have q2 := q2'
          have HO := HO'
          have HS := HS'
          clear q0' q1' q2' HO' HS'
          have c0 := HS.out.after d0.out
          have c1 := HS.out.after d1.out
          have c2 := HS.out.after d2.out
          go_wp2_with fail
          have qa0 := fun o => cell_alloc q0 o
          have qa1 := fun o => cell_alloc q1 o
          have qa2 := fun o => cell_alloc q2 o
          have ca0 := fun o => cell_alloc c0 o
          have ca1 := fun o => cell_alloc c1 o
          have ca2 := fun o => cell_alloc c2 o
          go_upto_region 9 with fail
          go_cut [9, 10] from 16 to 65 (fun s9 s10 wx => ∃ g9, s9 = .pointer (some ⟨g9, 0, none⟩) ∧ Hid (TripAt wx g9 37 ⟨Mk, My, Mv⟩) ∧ Hid (Step noF W1 wx))
          case first =>
           go_region_law (refine step_calls rfl rfl Tryz.func82 (by kernel_rfl) (by kernel_rfl) (args := #[.agg #[.int .i64 xk, .string (str xy), .string (str xv)], .agg #[.int .i64 mk, .string (str xy), .string (str mv)]]) (by first | rfl | (simp [Act.eval, Act.put]; done)) ?_; refine (cT _).mono ?_; rintro e w2 ⟨rfl, s2⟩; have S2 : Hid (Step noF W1 w2) := (by first | exact s2 | exact ((Step.refl noF W1).drew).trans s2 | exact ((Step.refl noF W1).drewN _).trans s2 | exact (((Step.refl noF W1).alloc _).drew).trans s2 | exact ((Step.refl noF W1).alloc _).trans s2 | exact (((Step.refl noF W1).drew).alloc _).trans s2); (first | (have T9 := hid (TripAt.step (m := ⟨0, [], []⟩) (trip_new W1 37 ⟨0, [], []⟩) (show Step noF (W1.alloc (.cells #[.int .i64 0, .string (str []), .string (str [])] 37)) w2 from (by first | exact s2 | exact ((Step.refl noF _).drew).trans s2 | exact ((Step.refl noF _).drewN _).trans s2))); obtain ⟨t0, t1, t2, t3, t4, t5⟩ := TripAt.all T9.out) | skip); clear s2; refine ⟨_, rfl, ?_⟩)
           all_goals
             go_wp2_with fail
             go_meet
             first
               | exact ⟨_, rfl, trip_new w2 37 ⟨Mk, My, Mv⟩, S2.out.alloc _⟩
               | exact ⟨_, rfl, TripAt.put T9.out ⟨Mk, My, Mv⟩, S2.out.put3 _ (Nat.le_refl _) _ _ _⟩
          case rest =>
            obtain ⟨g9, rfl, HT9, S2⟩ := hcut
            obtain ⟨m0, m1, m2, _, _, _⟩ := TripAt.all HT9.out
            have HO' := hid (HO.out.step S2.out)
            have HS' := hid (HS.out.trans S2.out)
            clear S2 c0 c1 c2 q0 q1 q2 HO HS cT HT9 qa0 qa1 qa2 ca0 ca1 ca2
            have HO := HO'
            have HS := HS'
            have q0 := HS.out.after z0
            have q1 := HS.out.after z1
            have q2 := HS.out.after z2
            clear HO' HS'
            have HN := hid (msB_new wc Mk My Mv)
            have HOA := hid (HO.out.step ((Step.refl noF wc).alloc (.cells #[.int .i64 Mk, .string (str My), .string (str Mv)] 37)))
            have HSZ : Hid (W0.heap.size ≤ (wc.alloc (.cells #[.int .i64 Mk, .string (str My), .string (str Mv)] 37)).heap.size) := (HS.out.alloc _).size
            go_wp2_with (at_builtin; refine wpList_append_mB rfl _ _ rfl W0.heap.size _ D rfl HOA.out (some ⟨wc.heap.size, 0, none⟩) 1 [⟨Mk, My, Mv⟩] rfl HN.out (by intro h; cases h) (by have := HLL.out; simp at this ⊢; omega) HSZ.out ?_)
            intro v' w4 o3 g3
            have HS2 : Hid (Step noF W0 w4) := OwnB.after (HS.out.alloc _) HOA.out (Nat.le_refl _) g3
            have HO2 : Hid (OwnB w4 W0.heap.size v' (D ++ [⟨Mk, My, Mv⟩])) := by
              show OwnB _ _ _ _
              unfold OwnB
              first
                | exact o3
                | (simp only [List.length_append, List.length_cons, List.length_nil] at o3 ⊢; exact o3)
                | (rw [List.length_append]; exact o3)
            have q0' := HS2.out.after z0
            have q1' := HS2.out.after z1
            have q2' := HS2.out.after z2
            clear o3 g3 HN HOA HSZ HO HS q0 q1 q2
            have HS := HS2
            have HO := HO2
            have q0 := q0'
            have q1 := q1'
            have q2 := q2'
            clear HS2 HO2 q0' q1' q2'
            go_wp2_with fail
            go_roundw
            case rel =>
              refine ⟨j + 1, (D ++ [(⟨Mk, My, Mv⟩ : Mg)], true), by omega, int_eq (by omega), rfl, ?_, HO.out, HS.out⟩
              show _ = _
              rw [HT2.out]
            case measure => simp [intOf]; omega
        · have HT2 : Hid (putRow ⟨mk, my, mv⟩ (b.take (j + 1)) = if q = false ∧ my < xy then (D ++ [⟨mk, my, mv⟩, ⟨xk, xy, xv⟩], true) else (D ++ [⟨xk, xy, xv⟩], q)) := by show _ = _; rw [HT.out, putStep, if_neg hky]
          have hkd : decide (xy = my) = false := decide_eq_false hky
          clear HT
          go_wp2_with fail
          go_quiet (fail)
          have st := (Step.refl noF wr).drewN nq
          have q0' := st.after q0
          have q1' := st.after q1
          have q2' := st.after q2
          have HO' := hid (HO.out.step st)
          have HS' := hid (HS.out.trans st)
          clear st c0 c1 c2 q0 q1 q2 HO HS
          generalize wr.drewN nq = W1 at *
          have q0 := q0'
          have q1 := q1'
          have q2 := q2'
          have HO := HO'
          have HS := HS'
          clear q0' q1' q2' HO' HS'
          have c0 := HS.out.after d0.out
          have c1 := HS.out.after d1.out
          have c2 := HS.out.after d2.out
          cases q
          · by_cases hlt : my < xy
            · have HT3 : Hid (putRow ⟨mk, my, mv⟩ (b.take (j + 1)) = (D ++ [⟨mk, my, mv⟩, ⟨xk, xy, xv⟩], true)) := by show _ = _; rw [HT2.out, if_pos ⟨rfl, hlt⟩]
              have hltd : decide (xy < my) = false := decide_eq_false (lt_asymm' hlt)
              clear HT2
              go_wp2_with fail
              go_quiet (fail)
              have st := (Step.refl noF W1).drewN nq
              have q0' := st.after q0
              have q1' := st.after q1
              have q2' := st.after q2
              have HO' := hid (HO.out.step st)
              have HS' := hid (HS.out.trans st)
              clear st c0 c1 c2 q0 q1 q2 HO HS
              generalize W1.drewN nq = W2 at *
              have q0 := q0'
              have q1 := q1'
              have q2 := q2'
              have HO := HO'
              have HS := HS'
              clear q0' q1' q2' HO' HS'
              have c0 := HS.out.after d0.out
              have c1 := HS.out.after d1.out
              have c2 := HS.out.after d2.out
              have HN := hid (msB_new W2 mk my mv)
              have HOA := hid (HO.out.step ((Step.refl noF W2).alloc (.cells #[.int .i64 mk, .string (str my), .string (str mv)] 37)))
              have HSZ : Hid (W0.heap.size ≤ (W2.alloc (.cells #[.int .i64 mk, .string (str my), .string (str mv)] 37)).heap.size) := (HS.out.alloc _).size
              go_wp2_with (at_builtin; refine wpList_append_mB rfl _ _ rfl W0.heap.size _ D rfl HOA.out (some ⟨W2.heap.size, 0, none⟩) 1 [⟨mk, my, mv⟩] rfl HN.out (by intro h; cases h) (by have := HLL.out; simp at this ⊢; omega) HSZ.out ?_)
              intro v' w4 o3 g3
              have HS2 : Hid (Step noF W0 w4) := OwnB.after (HS.out.alloc _) HOA.out (Nat.le_refl _) g3
              have HO2 : Hid (OwnB w4 W0.heap.size v' (D ++ [⟨mk, my, mv⟩])) := by
                show OwnB _ _ _ _
                unfold OwnB
                first
                  | exact o3
                  | (simp only [List.length_append, List.length_cons, List.length_nil] at o3 ⊢; exact o3)
                  | (rw [List.length_append]; exact o3)
              have q0' := HS2.out.after z0
              have q1' := HS2.out.after z1
              have q2' := HS2.out.after z2
              clear o3 g3 HN HOA HSZ HO HS q0 q1 q2
              have HS := HS2
              have HO := HO2
              have q0 := q0'
              have q1 := q1'
              have q2 := q2'
              clear HS2 HO2 q0' q1' q2'
              have c0 := HS.out.after d0.out
              have c1 := HS.out.after d1.out
              have c2 := HS.out.after d2.out
              have HLM : Hid ((D ++ [(⟨mk, my, mv⟩ : Mg)]).length ≤ 2 * b.length + 1) := by have := HLL.out; show _ ≤ _; simp; omega
              obtain ⟨D1, hD1⟩ : ∃ D1, D ++ [(⟨mk, my, mv⟩ : Mg)] = D1 := ⟨_, rfl⟩
              rw [hD1] at HO HLM
              have HD1 := hid hD1
              clear hD1
              have HN := hid (msB_new w4 xk xy xv)
              have HOA := hid (HO.out.step ((Step.refl noF w4).alloc (.cells #[.int .i64 xk, .string (str xy), .string (str xv)] 37)))
              have HSZ : Hid (W0.heap.size ≤ (w4.alloc (.cells #[.int .i64 xk, .string (str xy), .string (str xv)] 37)).heap.size) := (HS.out.alloc _).size
              go_wp2_with (at_builtin; refine wpList_append_mB rfl _ _ rfl W0.heap.size _ D1 rfl HOA.out (some ⟨w4.heap.size, 0, none⟩) 1 [⟨xk, xy, xv⟩] rfl HN.out (by intro h; cases h) (by have := HLM.out; simp at this ⊢; omega) HSZ.out ?_)
              intro v' w5 o3 g3
              have HS2 : Hid (Step noF W0 w5) := OwnB.after (HS.out.alloc _) HOA.out (Nat.le_refl _) g3
              have HO2 : Hid (OwnB w5 W0.heap.size v' (D1 ++ [⟨xk, xy, xv⟩])) := by
                show OwnB _ _ _ _
                unfold OwnB
                first
                  | exact o3
                  | (simp only [List.length_append, List.length_cons, List.length_nil] at o3 ⊢; exact o3)
                  | (rw [List.length_append]; exact o3)
              have q0' := HS2.out.after z0
              have q1' := HS2.out.after z1
              have q2' := HS2.out.after z2
              clear o3 g3 HN HOA HSZ HO HS q0 q1 q2
              have HS := HS2
              have HO := HO2
              have q0 := q0'
              have q1 := q1'
              have q2 := q2'
              clear HS2 HO2 q0' q1' q2'
              go_wp2_with fail
              go_roundw
              case rel =>
                refine ⟨j + 1, (D1 ++ [(⟨xk, xy, xv⟩ : Mg)], true), by omega, int_eq (by omega), rfl, ?_, HO.out, HS.out⟩
                show _ = _
                rw [HT3.out, ← HD1.out]
                simp
              case measure => simp [intOf]; omega
            · have HT3 : Hid (putRow ⟨mk, my, mv⟩ (b.take (j + 1)) = (D ++ [⟨xk, xy, xv⟩], false)) := by show _ = _; rw [HT2.out, if_neg (fun h => hlt h.2)]
              have hltd : decide (xy < my) = true := decide_eq_true (lt_or' hlt (fun e => hky e.symm))
              clear HT2
              go_wp2_with fail
              go_quiet (fail)
              have st := (Step.refl noF W1).drewN nq
              have q0' := st.after q0
              have q1' := st.after q1
              have q2' := st.after q2
              have HO' := hid (HO.out.step st)
              have HS' := hid (HS.out.trans st)
              clear st c0 c1 c2 q0 q1 q2 HO HS
              generalize W1.drewN nq = W2 at *
              have q0 := q0'
              have q1 := q1'
              have q2 := q2'
              have HO := HO'
              have HS := HS'
              clear q0' q1' q2' HO' HS'
              have c0 := HS.out.after d0.out
              have c1 := HS.out.after d1.out
              have c2 := HS.out.after d2.out
              have HN := hid (msB_new W2 xk xy xv)
              have HOA := hid (HO.out.step ((Step.refl noF W2).alloc (.cells #[.int .i64 xk, .string (str xy), .string (str xv)] 37)))
              have HSZ : Hid (W0.heap.size ≤ (W2.alloc (.cells #[.int .i64 xk, .string (str xy), .string (str xv)] 37)).heap.size) := (HS.out.alloc _).size
              go_wp2_with (at_builtin; refine wpList_append_mB rfl _ _ rfl W0.heap.size _ D rfl HOA.out (some ⟨W2.heap.size, 0, none⟩) 1 [⟨xk, xy, xv⟩] rfl HN.out (by intro h; cases h) (by have := HLL.out; simp at this ⊢; omega) HSZ.out ?_)
              intro v' w4 o3 g3
              have HS2 : Hid (Step noF W0 w4) := OwnB.after (HS.out.alloc _) HOA.out (Nat.le_refl _) g3
              have HO2 : Hid (OwnB w4 W0.heap.size v' (D ++ [⟨xk, xy, xv⟩])) := by
                show OwnB _ _ _ _
                unfold OwnB
                first
                  | exact o3
                  | (simp only [List.length_append, List.length_cons, List.length_nil] at o3 ⊢; exact o3)
                  | (rw [List.length_append]; exact o3)
              have q0' := HS2.out.after z0
              have q1' := HS2.out.after z1
              have q2' := HS2.out.after z2
              clear o3 g3 HN HOA HSZ HO HS q0 q1 q2
              have HS := HS2
              have HO := HO2
              have q0 := q0'
              have q1 := q1'
              have q2 := q2'
              clear HS2 HO2 q0' q1' q2'
              go_wp2_with fail
              go_roundw
              case rel =>
                refine ⟨j + 1, (D ++ [(⟨xk, xy, xv⟩ : Mg)], false), by omega, int_eq (by omega), rfl, ?_, HO.out, HS.out⟩
                show _ = _
                rw [HT3.out]
              case measure => simp [intOf]; omega
          · have HT3 : Hid (putRow ⟨mk, my, mv⟩ (b.take (j + 1)) = (D ++ [⟨xk, xy, xv⟩], true)) := by show _ = _; rw [HT2.out, if_neg (fun h => by cases h.1)]
            clear HT2
            go_wp2_with fail
            go_quiet (fail)
            have st := (Step.refl noF W1).drewN nq
            have q0' := st.after q0
            have q1' := st.after q1
            have q2' := st.after q2
            have HO' := hid (HO.out.step st)
            have HS' := hid (HS.out.trans st)
            clear st c0 c1 c2 q0 q1 q2 HO HS
            generalize W1.drewN nq = W2 at *
            have q0 := q0'
            have q1 := q1'
            have q2 := q2'
            have HO := HO'
            have HS := HS'
            clear q0' q1' q2' HO' HS'
            have c0 := HS.out.after d0.out
            have c1 := HS.out.after d1.out
            have c2 := HS.out.after d2.out
            have HN := hid (msB_new W2 xk xy xv)
            have HOA := hid (HO.out.step ((Step.refl noF W2).alloc (.cells #[.int .i64 xk, .string (str xy), .string (str xv)] 37)))
            have HSZ : Hid (W0.heap.size ≤ (W2.alloc (.cells #[.int .i64 xk, .string (str xy), .string (str xv)] 37)).heap.size) := (HS.out.alloc _).size
            go_wp2_with (at_builtin; refine wpList_append_mB rfl _ _ rfl W0.heap.size _ D rfl HOA.out (some ⟨W2.heap.size, 0, none⟩) 1 [⟨xk, xy, xv⟩] rfl HN.out (by intro h; cases h) (by have := HLL.out; simp at this ⊢; omega) HSZ.out ?_)
            intro v' w4 o3 g3
            have HS2 : Hid (Step noF W0 w4) := OwnB.after (HS.out.alloc _) HOA.out (Nat.le_refl _) g3
            have HO2 : Hid (OwnB w4 W0.heap.size v' (D ++ [⟨xk, xy, xv⟩])) := by
              show OwnB _ _ _ _
              unfold OwnB
              first
                | exact o3
                | (simp only [List.length_append, List.length_cons, List.length_nil] at o3 ⊢; exact o3)
                | (rw [List.length_append]; exact o3)
            have q0' := HS2.out.after z0
            have q1' := HS2.out.after z1
            have q2' := HS2.out.after z2
            clear o3 g3 HN HOA HSZ HO HS q0 q1 q2
            have HS := HS2
            have HO := HO2
            have q0 := q0'
            have q1 := q1'
            have q2 := q2'
            clear HS2 HO2 q0' q1' q2'
            go_wp2_with fail
            go_roundw
            case rel =>
              refine ⟨j + 1, (D ++ [(⟨xk, xy, xv⟩ : Mg)], true), by omega, int_eq (by omega), rfl, ?_, HO.out, HS.out⟩
              show _ = _
              rw [HT3.out]
            case measure => simp [intOf]; omega
      · obtain rfl : j = b.length := by omega
        have HE : Hid ((if q = true then D else D ++ [⟨mk, my, mv⟩]) = putM ⟨mk, my, mv⟩ b) := by
          have h1 := HPR.out
          have h2 := HP.out
          rw [List.take_of_length_le (Nat.le_refl _)] at h2
          rw [h2] at h1
          exact h1
        cases q
        · have HE2 : Hid (D ++ [⟨mk, my, mv⟩] = putM ⟨mk, my, mv⟩ b) := by show _ = _; have := HE.out; simpa using this
          clear HE
          have HN := hid (msB_new wr mk my mv)
          have HOA := hid (HO.out.step ((Step.refl noF wr).alloc (.cells #[.int .i64 mk, .string (str my), .string (str mv)] 37)))
          have HSZ : Hid (W0.heap.size ≤ (wr.alloc (.cells #[.int .i64 mk, .string (str my), .string (str mv)] 37)).heap.size) := (HS.out.alloc _).size
          go_wp2_with (at_builtin; refine wpList_append_mB rfl _ _ rfl W0.heap.size _ D rfl HOA.out (some ⟨wr.heap.size, 0, none⟩) 1 [⟨mk, my, mv⟩] rfl HN.out (by intro h; cases h) (by have := HLL.out; simp at this ⊢; omega) HSZ.out ?_)
          intro v' w4 o3 g3
          have HS2 : Hid (Step noF W0 w4) := OwnB.after (HS.out.alloc _) HOA.out (Nat.le_refl _) g3
          have HO2 : Hid (OwnB w4 W0.heap.size v' (D ++ [⟨mk, my, mv⟩])) := by
            show OwnB _ _ _ _
            unfold OwnB
            first
              | exact o3
              | (simp only [List.length_append, List.length_cons, List.length_nil] at o3 ⊢; exact o3)
              | (rw [List.length_append]; exact o3)
          have q0' := HS2.out.after z0
          have q1' := HS2.out.after z1
          have q2' := HS2.out.after z2
          clear o3 g3 HN HOA HSZ HO HS q0 q1 q2
          have HS := HS2
          have HO := HO2
          have q0 := q0'
          have q1 := q1'
          have q2 := q2'
          clear HS2 HO2 q0' q1' q2'
          go_wp2_with fail
          go_ret2
          refine ⟨.inr ⟨by first | rfl | trivial, _, rfl, ?_⟩, S0.out.trans HS.out⟩
          rw [← HE2.out]
          exact HO.out.weak S0.out.size
        · have HE2 : Hid (D = putM ⟨mk, my, mv⟩ b) := by show _ = _; have := HE.out; simpa using this
          clear HE
          go_wp2_with fail
          go_ret2
          refine ⟨.inr ⟨by first | rfl | trivial, _, rfl, ?_⟩, S0.out.trans HS.out⟩
          rw [← HE2.out]
          exact HO.out.weak S0.out.size

theorem refPut_any (b : List Mg) (hl : b.length ≤ 100000) (hR : RisingM b) (m : Mg) (a : Option Addr) (c : Nat) (hc : a = none → c = 0) (w : World) (h : MsgsAt w noF a b) :
    Calls Tryz.prog 59 #[.slice a b.length c, .agg #[.int .i64 m.kind, .string (str m.key), .string (str m.val)]] w fun e w' => (m.is = false ∧ e = .returned (.tuple #[.slice a b.length c, .bool false]) ∨ (m.is = true ∧ ∃ v, e = .returned (.tuple #[v, .bool true]) ∧ MsV w' v (putM m b))) ∧ Step noF w w' := by
  refine (refPut_own b hl hR m a c hc w h).mono ?_
  rintro e w' ⟨h1 | ⟨h1, v, rfl, h2⟩, h3⟩
  · exact ⟨.inl h1, h3⟩
  · exact ⟨.inr ⟨h1, v, rfl, h2.msv⟩, h3⟩

set_option maxHeartbeats 4000000 in
/-- With of the reference: one by one. -/
theorem refWithB_any (b : List Mg) (hR : RisingM b) (hG : GoodM b) (ms : List Mg) (hl : b.length + ms.length ≤ 100000) (a : Option Addr) (c : Nat) (hc : a = none → c = 0) (a2 : Option Addr) (c2 : Nat) (w : World) (h : MsgsAt w noF a b) (h2 : MsgsAt w noF a2 ms) :
    Calls Tryz.prog 31 #[.slice a b.length c, .slice a2 ms.length c2] w fun e w' => (ms.all Mg.is = false ∧ e = .returned (.tuple #[.slice none 0 0, .bool false]) ∨ (ms.all Mg.is = true ∧ ∃ v, e = .returned (.tuple #[v, .bool true]) ∧ MsV w' v (putsM ms b))) ∧ Step noF w w' := by
  have HR := hid h
  have HR2 := hid h2
  have HRI := hid hR
  have HG := hid hG
  have HC := hid hc
  clear h h2 hR hG hc
  go_enter Tryz.func31, Tryz.ntmps31
  go_wp2_with fail
  go_loopw [0, 6, 7] (fun v q i wr => ∃ (j : Nat) (ok : Bool), j ≤ ms.length ∧ i = .int .i64 j ∧ q = .bool ok ∧ Hid ((ms.take j).all Mg.is = ok) ∧ Hid (ok = true → MsV wr v (putsM (ms.take j) b)) ∧ Hid (Step noF w wr)) (fun _ _ i _ => ms.length - (intOf i).toNat)
  case atStart => exact ⟨0, true, Nat.zero_le _, rfl, rfl, (by show _ = _; rfl), fun _ => ⟨a, c, rfl, HC.out, HR.out⟩, Step.refl _ _⟩
  case round =>
    obtain ⟨j, ok, hj, rfl, rfl, HK, HV, HS⟩ := hrel
    by_cases hjl : j < ms.length
    · have hjz : (j : Int) < (ms.length : Int) := by omega
      cases ok
      · have HALL : Hid (ms.all Mg.is = false) := by
          have h1 := HK.out
          show _ = _
          rw [List.all_eq_false] at h1 ⊢
          obtain ⟨x, hx, hx2⟩ := h1
          exact ⟨x, List.mem_of_mem_take hx, hx2⟩
        go_wp2_with fail
        go_ret2
        exact ⟨.inl ⟨HALL.out, rfl⟩, HS.out⟩
      · obtain ⟨la, lc, rfl, hlc, hlm⟩ := HV.out rfl
        obtain ⟨g, off, rfl, c0, c1, c2'⟩ := (HR2.out.stepB HS.out).at j hjl
        have hgt : GoodM (ms.take j) := List.all_eq_true.1 HK.out
        have hP := putsM_all (ms.take j) hgt b HG.out HRI.out
        have hlen := putsM_len (ms.take j) b
        rw [List.length_take] at hlen
        have cP := refPut_any (putsM (ms.take j) b) (by omega) hP.2 ms[j] la lc hlc wr hlm
        have HT : Hid ((ms.take (j + 1)).all Mg.is = ms[j].is) := by
          show _ = _
          rw [List.take_succ_eq_append_getElem hjl, List.all_append, HK.out]
          simp
        have HT2 : Hid (putsM (ms.take (j + 1)) b = putM ms[j] (putsM (ms.take j) b)) := by
          show _ = _
          rw [List.take_succ_eq_append_getElem hjl, putsM_snoc]
        obtain ⟨⟨xk, xy, xv⟩, hx⟩ : ∃ x, ms[j] = x := ⟨_, rfl⟩
        rw [hx] at c0 c1 c2' HT HT2 cP
        simp only at c0 c1 c2' cP
        obtain ⟨L, hL⟩ : ∃ L, (putsM (ms.take j) b).length = L := ⟨_, rfl⟩
        rw [hL] at cP ⊢
        clear hx hgt hP hlen hlm hlc hL
        go_wp2_with fail
        refine cP.mono ?_
        rintro e w2 ⟨hp, s2⟩
        have HS2 := hid (HS.out.trans s2)
        clear s2 cP
        rcases hp with ⟨h1, rfl⟩ | ⟨h1, v2, rfl, hv⟩
        · have H1 := hid h1
          clear h1
          go_wp2_with fail
          go_roundw
          case rel =>
            refine ⟨j + 1, false, by omega, int_eq (by omega), rfl, ?_, (fun h => by cases h), HS2.out⟩
            show _ = _
            rw [HT.out, H1.out]
          case measure => simp [intOf]; omega
        · have H1 := hid h1
          have H2 := hid hv
          clear h1 hv
          go_wp2_with fail
          go_roundw
          case rel =>
            refine ⟨j + 1, true, by omega, int_eq (by omega), rfl, ?_, (fun _ => ?_), HS2.out⟩
            · show _ = _
              rw [HT.out, H1.out]
            · rw [HT2.out]; exact H2.out
          case measure => simp [intOf]; omega
    · obtain rfl : j = ms.length := by omega
      have HK2 : Hid (ms.all Mg.is = ok) := by
        have := HK.out
        rw [List.take_of_length_le (Nat.le_refl _)] at this
        exact this
      cases ok
      · go_wp2_with fail
        go_ret2
        exact ⟨.inl ⟨by first | exact HK2.out | (have := HK2.out; simpa using this), rfl⟩, HS.out⟩
      · have HV2 : Hid (MsV wr u0 (putsM ms b)) := by
          have := HV.out rfl
          rw [List.take_of_length_le (Nat.le_refl _)] at this
          exact this
        go_wp2_with fail
        go_ret2
        exact ⟨.inr ⟨by first | exact HK2.out | (have := HK2.out; simpa using this), _, rfl, HV2.out⟩, HS.out⟩

set_option maxHeartbeats 4000000 in
/-- With of the reference, of a row of one's own. -/
theorem refWithB_own (b : List Mg) (hR : RisingM b) (hG : GoodM b) (ms : List Mg) (hl : b.length + ms.length ≤ 100000) (a : Option Addr) (c : Nat) (hc : a = none → c = 0) (a2 : Option Addr) (c2 : Nat) (w : World) (base : Nat) (hbase : base ≤ w.heap.size) (h : OwnB w base (.slice a b.length c) b) (h2 : MsgsAt w noF a2 ms) :
    Calls Tryz.prog 31 #[.slice a b.length c, .slice a2 ms.length c2] w fun e w' => (ms.all Mg.is = false ∧ e = .returned (.tuple #[.slice none 0 0, .bool false]) ∨ (ms.all Mg.is = true ∧ ∃ v, e = .returned (.tuple #[v, .bool true]) ∧ OwnB w' base v (putsM ms b))) ∧ Step noF w w' := by
  have HR := hid h
  have HR2 := hid h2
  have HRI := hid hR
  have HG := hid hG
  have HC := hid hc
  clear h h2 hR hG hc
  go_enter Tryz.func31, Tryz.ntmps31
  go_wp2_with fail
  go_loopw [0, 6, 7] (fun v q i wr => ∃ (j : Nat) (ok : Bool), j ≤ ms.length ∧ i = .int .i64 j ∧ q = .bool ok ∧ Hid ((ms.take j).all Mg.is = ok) ∧ Hid (ok = true → OwnB wr base v (putsM (ms.take j) b)) ∧ Hid (Step noF w wr)) (fun _ _ i _ => ms.length - (intOf i).toNat)
  case atStart => exact ⟨0, true, Nat.zero_le _, rfl, rfl, (by show _ = _; rfl), fun _ => HR.out, Step.refl _ _⟩
  case round =>
    obtain ⟨j, ok, hj, rfl, rfl, HK, HV, HS⟩ := hrel
    by_cases hjl : j < ms.length
    · have hjz : (j : Int) < (ms.length : Int) := by omega
      cases ok
      · have HALL : Hid (ms.all Mg.is = false) := by
          have h1 := HK.out
          show _ = _
          rw [List.all_eq_false] at h1 ⊢
          obtain ⟨x, hx, hx2⟩ := h1
          exact ⟨x, List.mem_of_mem_take hx, hx2⟩
        go_wp2_with fail
        go_ret2
        exact ⟨.inl ⟨HALL.out, rfl⟩, HS.out⟩
      · obtain ⟨la, lc, rfl, hlcc, hnil, hlm⟩ := owns_msgs (HV.out rfl)
        have hlc := hnil.1
        obtain ⟨g, off, rfl, c0, c1, c2'⟩ := (HR2.out.stepB HS.out).at j hjl
        have hgt : GoodM (ms.take j) := List.all_eq_true.1 HK.out
        have hP := putsM_all (ms.take j) hgt b HG.out HRI.out
        have hlen := putsM_len (ms.take j) b
        rw [List.length_take] at hlen
        have cP := refPut_own (putsM (ms.take j) b) (by omega) hP.2 ms[j] la lc hlc wr hlm
        have HT : Hid ((ms.take (j + 1)).all Mg.is = ms[j].is) := by
          show _ = _
          rw [List.take_succ_eq_append_getElem hjl, List.all_append, HK.out]
          simp
        have HT2 : Hid (putsM (ms.take (j + 1)) b = putM ms[j] (putsM (ms.take j) b)) := by
          show _ = _
          rw [List.take_succ_eq_append_getElem hjl, putsM_snoc]
        obtain ⟨⟨xk, xy, xv⟩, hx⟩ : ∃ x, ms[j] = x := ⟨_, rfl⟩
        rw [hx] at c0 c1 c2' HT HT2 cP
        simp only at c0 c1 c2' cP
        obtain ⟨L, hL⟩ : ∃ L, (putsM (ms.take j) b).length = L := ⟨_, rfl⟩
        rw [hL] at cP ⊢
        clear hx hgt hP hlen hlm hlc hL
        go_wp2_with fail
        refine cP.mono ?_
        rintro e w2 ⟨hp, s2⟩
        have HS2 := hid (HS.out.trans s2)
        clear s2 cP
        rcases hp with ⟨h1, rfl⟩ | ⟨h1, v2, rfl, hv⟩
        · have H1 := hid h1
          clear h1
          go_wp2_with fail
          go_roundw
          case rel =>
            refine ⟨j + 1, false, by omega, int_eq (by omega), rfl, ?_, (fun h => by cases h), HS2.out⟩
            show _ = _
            rw [HT.out, H1.out]
          case measure => simp [intOf]; omega
        · have H1 := hid h1
          have H2 := hid (hv.weak (Nat.le_trans hbase HS.out.size))
          clear h1 hv
          go_wp2_with fail
          go_roundw
          case rel =>
            refine ⟨j + 1, true, by omega, int_eq (by omega), rfl, ?_, (fun _ => ?_), HS2.out⟩
            · show _ = _
              rw [HT.out, H1.out]
            · rw [HT2.out]; exact H2.out
          case measure => simp [intOf]; omega
    · obtain rfl : j = ms.length := by omega
      have HK2 : Hid (ms.all Mg.is = ok) := by
        have := HK.out
        rw [List.take_of_length_le (Nat.le_refl _)] at this
        exact this
      cases ok
      · go_wp2_with fail
        go_ret2
        exact ⟨.inl ⟨by first | exact HK2.out | (have := HK2.out; simpa using this), rfl⟩, HS.out⟩
      · have HV2 : Hid (OwnB wr base u0 (putsM ms b)) := by
          have := HV.out rfl
          rw [List.take_of_length_le (Nat.le_refl _)] at this
          exact this
        go_wp2_with fail
        go_ret2
        exact ⟨.inr ⟨by first | exact HK2.out | (have := HK2.out; simpa using this), _, rfl, HV2.out⟩, HS.out⟩
end Go.Proofs.YtnalillebemglaaGreat
