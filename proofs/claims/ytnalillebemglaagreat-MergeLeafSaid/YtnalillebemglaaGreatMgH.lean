/-
  A merger in memory: Next from state to state; Msgs.
-/
import Derived.Test.YtnalillebemglaaGreatMgF
import Derived.Test.YtnalillebemglaaGreatBfC
namespace Go.Proofs.YtnalillebemglaaGreat
open Go.RowKit Go.Sort
set_option linter.unusedVariables false
set_option linter.unusedSimpArgs false
set_option maxRecDepth 20000

theorem least_uniq {k j : List UInt8} {rs : List (List Mg)} (h : LeastR k rs) (g : LeastR j rs) : k = j := by
  obtain ⟨⟨r, hr, m, hm, rfl⟩, h2⟩ := h
  obtain ⟨⟨q, hq, n, hn, rfl⟩, g2⟩ := g
  have h3 := g2 r hr m hm
  have h4 := h2 q hq n hn
  exact Classical.byContradiction fun e => h4 (lt_or' h3 e)
theorem tails_len (k : List UInt8) (rs : List (List Mg)) : (tailsR k rs).length = rs.length := by simp [tailsR]
theorem st_len (rs : List (List Mg)) : ∀ i, (stR rs i).length = rs.length := by
  intro i
  induction i with
  | zero => rfl
  | succ i ih => show (tailsR _ _).length = _; rw [tails_len, ih]
theorem st_le (rs : List (List Mg)) : ∀ i, leftR (stR rs i) ≤ leftR rs := by
  intro i
  induction i with
  | zero => exact Nat.le_refl _
  | succ i ih =>
    have := left_split (((msgsR rs)[i]?.map Mg.key).getD []) (stR rs i)
    show leftR (tailsR _ _) ≤ _
    omega
theorem tails_none (k : List UInt8) {rs : List (List Mg)} (h : leftR rs = 0) : tailsR k rs = rs := by
  rw [left_none0] at h
  unfold tailsR
  have : ∀ r ∈ rs, tailR k r = r := fun r hr => by rw [h r hr]; rfl
  rw [List.map_congr_left this, List.map_id']
theorem st_zero {rs : List (List Mg)} (h : OkR rs) {i : Nat} (hi : i ≤ (msgsR rs).length) (h0 : leftR (stR rs i) = 0) : i = (msgsR rs).length := by
  rcases Nat.lt_or_ge i (msgsR rs).length with h1 | h1
  · obtain ⟨⟨r, hr, m, hm, _⟩, _⟩ := (st_ok h i hi).2.2 h1
    rw [left_none0] at h0
    rw [h0 r hr] at hm
    cases hm
  · omega
theorem st_next {rs : List (List Mg)} (h : OkR rs) {i : Nat} (hi : i ≤ (msgsR rs).length) {k : List UInt8} {x : Mg} (hk : LeastR k (stR rs i)) (hx : ontoAll k (headsR k (stR rs i)) none = some x) : ∃ hl : i < (msgsR rs).length, x = (msgsR rs)[i] ∧ tailsR k (stR rs i) = stR rs (i + 1) := by
  obtain ⟨h1, h2, h3⟩ := st_ok h i hi
  obtain ⟨y, hy, _, yk, e⟩ := next_msgs h1 hk
  rw [hx] at hy
  injection hy with hy
  subst hy
  rw [h2] at e
  rcases Nat.lt_or_ge i (msgsR rs).length with hl | hl
  · rw [List.drop_eq_getElem_cons hl] at e
    injection e with e _
    refine ⟨hl, e.symm, ?_⟩
    show _ = tailsR _ _
    rw [List.getElem?_eq_getElem hl]
    show _ = tailsR (msgsR rs)[i].key _
    rw [e, yk]
  · rw [List.drop_of_length_le hl] at e
    cases e
/-- What Next gives behind i. -/
def xAt (rs : List (List Mg)) (i : Nat) : Mg := (msgsR rs)[i]?.getD ⟨0, [], []⟩
theorem xAt_lt {rs : List (List Mg)} {i : Nat} (h : i < (msgsR rs).length) : xAt rs i = (msgsR rs)[i] := by unfold xAt; rw [List.getElem?_eq_getElem h]; rfl
theorem xAt_end (rs : List (List Mg)) : xAt rs (msgsR rs).length = ⟨0, [], []⟩ := by unfold xAt; rw [List.getElem?_eq_none (Nat.le_refl _)]; rfl
theorem mNextSt_any (w : World) (F : Nat → Prop) (b p : Nat) (rs : List (List Mg)) (hok : OkR rs) (hl : leftR rs ≤ 1000000000) (hn : rs.length ≤ 900000) (i : Nat) (hi : i ≤ (msgsR rs).length) (h : MerAt w F b p (stR rs i)) :
    Calls Tryz.prog 15 #[.pointer (some ⟨p, 0, none⟩)] w fun e w' => e = .returned (.tuple #[.agg #[.int .i64 (xAt rs i).kind, .string (str (xAt rs i).key), .string (str (xAt rs i).val)], .bool (decide (i < (msgsR rs).length))]) ∧ Step F w w' ∧ MerAt w' F b p (stR rs (i + 1)) := by
  refine (mNext_any w F b p (stR rs i) (st_ok hok i hi).1 (Nat.le_trans (st_le rs i) hl) (by rw [st_len]; exact hn) h).mono ?_
  rintro e w' ⟨hs, h1 | ⟨k, x, h1, h2, h3, h4⟩⟩
  · obtain ⟨h0, rfl, hm⟩ := h1
    have e1 := st_zero hok hi h0
    refine ⟨?_, hs, ?_⟩
    · rw [e1, xAt_end, decide_eq_false (by omega)]
    · show MerAt w' F b p (tailsR _ _)
      rw [tails_none _ h0]
      exact hm
  · obtain ⟨hlt, rfl, e2⟩ := st_next hok hi h1 h2
    refine ⟨?_, hs, by rw [← e2]; exact h4⟩
    rw [h3, xAt_lt hlt, decide_eq_true hlt]
theorem few_left {rs : List (List Mg)} (h : FewR rs) : leftR rs ≤ 100000000 := by
  have h1 := leftR_le rs 100000 (fun r hr => (h.2 r hr).1)
  have h2 : rs.length * 100000 ≤ 1000 * 100000 := Nat.mul_le_mul_right _ h.1
  omega
/-- A row of one's own and a message beside a merger. -/
theorem OwnB.keepF {w w' : World} {b : Nat} {v : Value} {xs : List Mg} {F : Nat → Prop} (h : OwnB w b v xs) (hs : Step F w w') (hF : ∀ k, F k → k < b) : OwnB w' b v xs := owns_step h hs (fun k hk hf => by have := hF k hf; have := (h.lt k hk).1; omega)
theorem OwnB.keepO {w w' : World} {b B : Nat} {v : Value} {xs : List Mg} (h : OwnB w b v xs) (hs : Step (oneF B) w w') (hB : v.ownBlock ≠ some B) : OwnB w' b v xs := owns_step h hs (fun k hk hf => by have e : k = B := hf; subst e; exact hB hk)

set_option maxHeartbeats 4000000 in
theorem mMsgs_any (rs : List (List Mg)) (hF : FewR rs) (a : Option Addr) (c : Nat) (w : World) (h : RunsAt w a rs) :
    Calls Tryz.prog 10 #[.slice a rs.length c] w fun e w' => Step noF w w' ∧ ((chkR rs ≠ 0 ∧ e = .returned (.tuple #[.slice none 0 0, .int .i64 (chkR rs)])) ∨ (chkR rs = 0 ∧ ∃ a2 c2, e = .returned (.tuple #[.slice a2 (msgsR rs).length c2, .int .i64 0]) ∧ (a2 = none → c2 = 0) ∧ (msgsR rs).length ≤ c2 ∧ MsgsAt w' noF a2 (msgsR rs))) := by
  have cN := mNew_any rs hF a c w h
  have HFE := hid hF
  have hll := few_left hF
  have hrl := hF.1
  clear h hF
  go_enter Tryz.func10, Tryz.ntmps10
  go_wp2_with fail
  refine cN.mono ?_
  rintro e w2 ⟨s2, hp⟩
  have S2 := hid s2
  clear s2 cN
  rcases hp with ⟨h0, rfl⟩ | ⟨h0, p, F, rfl, hm, hFn⟩
  · obtain ⟨E, hE⟩ : ∃ E, chkR rs = E := ⟨_, rfl⟩
    have HE := hid hE
    rw [hE] at h0 ⊢
    have hEb : (E == 0) = false := by rw [beq_eq_false_iff_ne]; exact h0
    go_wp2_with fail
    go_ret2
    exact ⟨S2.out, .inl ⟨by rw [HE.out]; exact h0, by rw [HE.out]; rfl⟩⟩
  · have HOK := hid (chkR_ok h0)
    obtain ⟨N, hN⟩ : ∃ N, (msgsR rs).length = N := ⟨_, rfl⟩
    have hNl := msgsR_len rs
    rw [hN] at hNl
    have cX := fun (W : World) (i : Nat) (hi : i ≤ (msgsR rs).length) (h : MerAt W F w2.heap.size p (stR rs i)) => mNextSt_any W F w2.heap.size p rs HOK.out (by omega) (by omega) i hi h
    rw [hN] at cX
    have HM := hid hm
    have HFN := hid hFn
    have HFB := hid hm.low.1
    have H0 := hid h0
    have HN := hid hN
    clear hm hFn h0 hN
    go_wp2_with fail
    refine (cX w2 0 (Nat.zero_le _) HM.out).mono ?_
    rintro e w3 ⟨rfl, s3, hm3⟩
    have HM3 := hid hm3
    have S3 := hid ((S2.out.mono (fun k x => x.elim)).trans s3)
    have S23 := hid s3
    obtain ⟨⟨xk, xy, xv⟩, hx⟩ : ∃ x, xAt rs 0 = x := ⟨_, rfl⟩
    have HX := hid hx
    rw [hx]
    obtain ⟨B1, hB1⟩ : ∃ q, decide (0 < N) = q := ⟨_, rfl⟩
    have HB1 := hid hB1
    rw [hB1]
    clear hm3 s3 hx hB1
    go_wp2_with fail
    have hb2 : w2.heap.size ≤ w3.heap.size := S23.out.size
    have hw2 : w.heap.size ≤ w2.heap.size := S2.out.size
    go_loopg [6, 7, 8] (N + 1) (fun kx v x q wr => ∃ (i B : Nat) (vv : Value), vv = v ∧ i ≤ N ∧ x = .pointer (some ⟨B, 0, none⟩) ∧ q = .bool (decide (i < N)) ∧ w2.heap.size ≤ B ∧ Hid (v.ownBlock ≠ some B) ∧ Hid (OwnB wr w2.heap.size v ((msgsR rs).take i)) ∧ Hid (Step noF w wr) ∧ Hid (MerAt wr F w2.heap.size p (stR rs (i + 1))) ∧ Hid (TripAt wr B 37 (xAt rs i)) ∧ N - i ≤ kx)
    case atStart =>
      refine ⟨0, w3.heap.size, _, rfl, Nat.zero_le _, rfl, by rw [HB1.out], hb2, (fun e => by cases e), ⟨rfl, .inl ⟨rfl, rfl⟩⟩, (S3.out.mono (fun k hk => .inr (HFN.out k hk))).alloc _, HM3.out.step ((Step.refl noF w3).alloc _), ?_, by omega⟩
      show TripAt _ _ _ _
      rw [HX.out]
      exact trip_new w3 37 ⟨xk, xy, xv⟩
    case round =>
      obtain ⟨i, B, v, rfl, hi, rfl, rfl, hB, HV, HO, HS, HMR, HT, hkx⟩ := hrel
      by_cases hiN : i < N
      · have hd : decide (i < N) = true := decide_eq_true hiN
        have hil : i < (msgsR rs).length := by rw [HN.out]; exact hiN
        have HXI := hid (xAt_lt hil)
        obtain ⟨⟨ik, iy, iv⟩, hx⟩ : ∃ x, xAt rs i = x := ⟨_, rfl⟩
        rw [hx] at HT HXI
        obtain ⟨t0, t1, t2, _, _, _⟩ := HT.out.all
        simp only at t0 t1 t2
        have HTK : Hid ((msgsR rs).take (i + 1) = (msgsR rs).take i ++ [⟨ik, iy, iv⟩]) := by
          show _ = _
          rw [List.take_succ_eq_append_getElem hil, HXI.out]
        have HN1 := hid (msB_new wr ik iy iv)
        have HO1 : Hid (OwnB (wr.alloc (.cells #[.int .i64 ik, .string (str iy), .string (str iv)] 37)) w2.heap.size v ((msgsR rs).take i)) := HO.out.step ((Step.refl noF wr).alloc _)
        have HSZ : Hid (w2.heap.size ≤ (wr.alloc (.cells #[.int .i64 ik, .string (str iy), .string (str iv)] 37)).heap.size) := by
          show _ ≤ _
          rw [World.size_alloc]
          have := HMR.out.low.2
          omega
        have HLL : Hid (((msgsR rs).take i).length + 1 ≤ 1000000000) := by show _ ≤ _; rw [List.length_take]; omega
        clear hx
        go_wp2_with (at_builtin; refine wpList_append_mB rfl _ _ rfl w2.heap.size _ ((msgsR rs).take i) rfl HO1.out (some ⟨wr.heap.size, 0, none⟩) 1 [⟨ik, iy, iv⟩] rfl HN1.out (by intro h; cases h) HLL.out HSZ.out ?_)
        intro v' w4 o4 g4
        have hT4 : TripAt w4 B 37 ⟨ik, iy, iv⟩ := grown_block g4 (HT.out.step ((Step.refl noF wr).alloc _)) (fun e => HV.out e.symm)
        have S4 : Hid (Step noF w w4) := OwnB.after (HS.out.alloc _) HO1.out hw2 g4
        have M4 : Hid (MerAt w4 F w2.heap.size p (stR rs (i + 1))) := (HMR.out.step ((Step.refl noF wr).alloc _)).keep (G := fun k => v.ownBlock = some k) ((Step.refl _ _).grown g4 (fun k hk => .inl hk)) (fun k hk => (HO1.out.lt k hk).1)
        have O4 : Hid (OwnB w4 w2.heap.size v' ((msgsR rs).take (i + 1))) := by
          show OwnB _ _ _ _
          rw [HTK.out]
          unfold OwnB
          rw [List.length_append, List.length_take]
          exact o4
        have hb4 := M4.out.low.2
        have cX4 := fun ob => cX (w4.alloc ob) (i + 1) (by omega) (M4.out.step ((Step.refl noF w4).alloc ob))
        obtain ⟨q0, q1, q2, _, _, _⟩ := hT4.all
        simp only at q0 q1 q2
        obtain ⟨⟨jk, jy, jv⟩, hy⟩ : ∃ x, xAt rs (i + 1) = x := ⟨_, rfl⟩
        have HY := hid hy
        rw [hy] at cX4
        obtain ⟨D, hD⟩ : ∃ q, decide (i + 1 < N) = q := ⟨_, rfl⟩
        have HD := hid hD
        rw [hD] at cX4
        have HT9 := hid (trip_new w4 37 ⟨ik, iy, iv⟩)
        have HVN : Hid (v'.ownBlock ≠ some w4.heap.size) := fun e => by have := (O4.out.lt _ e).2; omega
        clear o4 g4 hy hD hT4
        go_wp2_with fail
        refine (cX4 _).mono ?_
        rintro e w5 ⟨rfl, s5, hm5⟩
        have hFw : ¬ F w4.heap.size := fun h => by have := HFB.out _ h; omega
        have HT5 := hid (HT9.out.keep s5 hFw)
        obtain ⟨_, _, _, f0, f1, f2⟩ := HT5.out.all
        have S5 := hid (((S4.out.mono (fun _ x => x.elim)).alloc (.cells #[.int .i64 ik, .string (str iy), .string (str iv)] 37)).trans s5)
        have S45 := hid s5
        have M5 := hid hm5
        clear s5 hm5 cX4
        go_wp2_with fail
        go_roundg (N - (i + 1))
        case measure => omega
        case rel =>
          have hs5 : Step (oneF w4.heap.size) w5 _ := (((Step.refl (oneF w4.heap.size) w5).setCell (p := ⟨w4.heap.size, 0, none⟩) (.inl (show oneF w4.heap.size w4.heap.size from rfl)) (.int .i64 jk)).setCell (p := ⟨w4.heap.size, 1, none⟩) (.inl (show oneF w4.heap.size w4.heap.size from rfl)) (.string (str jy))).setCell (p := ⟨w4.heap.size, 2, none⟩) (.inl (show oneF w4.heap.size w4.heap.size from rfl)) (.string (str jv))
          have hw4 := S4.out.size
          refine ⟨i + 1, w4.heap.size, _, rfl, by omega, rfl, by rw [HD.out], hb4, HVN.out, ((O4.out.step ((Step.refl noF w4).alloc _)).keepF S45.out HFB.out).keepO hs5 HVN.out, (S5.out.mono (fun k hk => .inr (HFN.out k hk))).put3 w4.heap.size hw4 _ _ _, M5.out.keep hs5 (fun k hk => by have e : k = w4.heap.size := hk; omega), ?_, Nat.le_refl _⟩
          show TripAt _ _ _ _
          rw [HY.out]
          exact HT5.out.put ⟨jk, jy, jv⟩
      · obtain rfl : i = N := by omega
        have hd : decide (i < i) = false := decide_eq_false (Nat.lt_irrefl _)
        have hO : OwnB wr w2.heap.size v (msgsR rs) := by
          have := HO.out
          rw [List.take_of_length_le (by rw [HN.out]; exact Nat.le_refl _)] at this
          exact this
        obtain ⟨a2, c2, rfl, k1, k2, k3⟩ := owns_msgs hO
        have HK := hid (And.intro k1 (And.intro k2 k3))
        rw [HN.out]
        clear hO k1 k2 k3
        go_wp2_with fail
        go_ret2
        exact ⟨HS.out, .inr ⟨H0.out, a2, c2, (by rw [HN.out]; rfl), HK.out.2.1.1, HK.out.1, HK.out.2.2⟩⟩
end Go.Proofs.YtnalillebemglaaGreat
