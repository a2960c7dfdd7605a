/-
  awake of the laws of layer 13: true.
-/
import Derived.Test.YtnalillebemglaaGreatMgAwR
import Derived.Test.YtnalillebemglaaGreatMgI
import Derived.Test.YtnalillebemglaaGreatMgN
import Derived.Deep.Cut
namespace Go.Proofs.YtnalillebemglaaGreat
open Go.RowKit Go.Sort
set_option linter.unusedVariables false
set_option linter.unusedSimpArgs false
set_option maxRecDepth 20000

def mgwA : List Mg := [⟨3, [98], [0, 0, 0, 0, 0, 0, 0, 5]⟩, ⟨2, [99], []⟩]
def mgwB : List Mg := [⟨1, [97], [120]⟩, ⟨3, [98], [0, 0, 0, 0, 0, 0, 0, 7]⟩]
def mgwR : List (List Mg) := [mgwA, mgwB]
def mgwRow : List Mg := [⟨1, [97], [120]⟩, ⟨3, [98], [0, 0, 0, 0, 0, 0, 0, 12]⟩, ⟨2, [99], []⟩]
def mgwD : List (List Mg) := [[⟨2, [98], []⟩, ⟨2, [98], []⟩]]
def mgwX : List Rg := [⟨[98], [118]⟩, ⟨[99], [119]⟩]
def mgwY : List Rg := [⟨[97], [120]⟩, ⟨[98], [118]⟩]
theorem mgw_row : msgsR mgwR = mgwRow := by rfl
theorem mgw_chk : chkR mgwR = 0 := by decide
theorem mgw_chkD : chkR mgwD = 11 := by decide
theorem mgw_ok : OkR mgwR := chkR_ok mgw_chk
theorem mgw_len : (msgsR mgwR).length = 3 := by rw [mgw_row]; rfl
theorem mgw_x0 : xAt mgwR 0 = ⟨1, [97], [120]⟩ := by unfold xAt; rw [mgw_row]; rfl
theorem mgw_x1 : xAt mgwR 1 = ⟨3, [98], [0, 0, 0, 0, 0, 0, 0, 12]⟩ := by unfold xAt; rw [mgw_row]; rfl
theorem mgw_left : leftR mgwR = 4 := rfl
theorem mgw_left2 : leftR (stR mgwR 2) = 1 := by simp only [stR, mgw_row]; decide
theorem mgw_few : FewR mgwR := ⟨by decide, fun r hr => by
  unfold maxLen
  simp only [mgwR, List.mem_cons, List.not_mem_nil, or_false] at hr
  rcases hr with rfl | rfl <;> exact ⟨by decide, fun m hm => by
    simp only [mgwA, mgwB, List.mem_cons, List.not_mem_nil, or_false] at hm
    rcases hm with rfl | rfl <;> decide⟩⟩
theorem mgw_fewD : FewR mgwD := ⟨by decide, fun r hr => by
  unfold maxLen
  simp only [mgwD, List.mem_cons, List.not_mem_nil, or_false] at hr
  subst hr
  exact ⟨by decide, fun m hm => by
    simp only [List.mem_cons, List.not_mem_nil, or_false] at hm
    rcases hm with rfl | rfl <;> decide⟩⟩
theorem mgw_over : overE mgwX mgwR = 0 := by decide
theorem mgw_with : withL (msgsR mgwR) mgwX = mgwY := by rw [mgw_row]; rfl
theorem mgw_be5 : be 8 5 = [0, 0, 0, 0, 0, 0, 0, 5] := by decide
theorem mgw_be7 : be 8 7 = [0, 0, 0, 0, 0, 0, 0, 7] := by decide
theorem mgw_be12 : be 8 12 = [0, 0, 0, 0, 0, 0, 0, 12] := by decide

theorem step_over {F : Nat → Prop} {a b c : World} (h : Step noF a b) (k : Step F b c) (hF : ∀ k, F k → a.heap.size ≤ k) : Step noF a c := ((h.mono (fun _ x => x.elim)).trans k).mono (fun k x => .inr (hF k x))

set_option maxHeartbeats 4000000 in
theorem awakeR_any (w : World) : Calls Tryz.prog 7 #[] w fun e w' => e = .returned (.bool true) ∧ Step noF w w' := by
  have i1 : ∀ w, Calls Tryz.prog 23 #[.string ⟨#[98]⟩, .int .u64 5] w fun e w' => e = .returned (.agg #[.int .i64 3, .string ⟨#[98]⟩, .string ⟨#[0, 0, 0, 0, 0, 0, 0, 5]⟩]) ∧ Step noF w w' := fun w => by
    have h := ofAdd_any [98] 5 (by omega) w
    rw [mgw_be5] at h
    exact h
  have i2 : ∀ w, Calls Tryz.prog 24 #[.string ⟨#[99]⟩] w fun e w' => e = .returned (.agg #[.int .i64 2, .string ⟨#[99]⟩, .string ⟨#[]⟩]) ∧ Step noF w w' := fun w => ofDel_any [99] w
  have i3 : ∀ w, Calls Tryz.prog 25 #[.string ⟨#[97]⟩, .string ⟨#[120]⟩] w fun e w' => e = .returned (.agg #[.int .i64 1, .string ⟨#[97]⟩, .string ⟨#[120]⟩]) ∧ Step noF w w' := fun w => ofPut_any [97] [120] w
  have i4 : ∀ w, Calls Tryz.prog 23 #[.string ⟨#[98]⟩, .int .u64 7] w fun e w' => e = .returned (.agg #[.int .i64 3, .string ⟨#[98]⟩, .string ⟨#[0, 0, 0, 0, 0, 0, 0, 7]⟩]) ∧ Step noF w w' := fun w => by
    have h := ofAdd_any [98] 7 (by omega) w
    rw [mgw_be7] at h
    exact h
  have i5 : ∀ w, Calls Tryz.prog 24 #[.string ⟨#[98]⟩] w fun e w' => e = .returned (.agg #[.int .i64 2, .string ⟨#[98]⟩, .string ⟨#[]⟩]) ∧ Step noF w w' := fun w => ofDel_any [98] w
  have i6 : ∀ w, Calls Tryz.prog 23 #[.string (str [98]), .int .u64 12] w fun e w' => e = .returned (.agg #[.int .i64 3, .string (str [98]), .string (str [0, 0, 0, 0, 0, 0, 0, 12])]) ∧ Step noF w w' := fun w => by
    have h := ofAdd_any [98] 12 (by omega) w
    rw [mgw_be12] at h
    exact h
  have cN : ∀ (W : World) (g1 g2 h' : Nat), h' = W.heap.size → RunOk W (some ⟨g1, 0, none⟩) 2 2 mgwA → RunOk W (some ⟨g2, 0, none⟩) 2 2 mgwB → Calls Tryz.prog 9 #[.slice (some ⟨h', 0, none⟩) 2 2] (W.alloc (.cells #[.slice (some ⟨g1, 0, none⟩) 2 2, .slice (some ⟨g2, 0, none⟩) 2 2] 29)) fun e w' => ∃ p F, e = .returned (.tuple #[.pointer (some ⟨p, 0, none⟩), .int .i64 0]) ∧ Hid (MerAt w' F w'.heap.size p mgwR) ∧ Hid (∀ k, F k → W.heap.size ≤ k) ∧ Hid (Step noF W w') := fun W g1 g2 h' e h1 h2 => by
    subst e
    have st := (Step.refl noF W).alloc (.cells #[.slice (some ⟨g1, 0, none⟩) 2 2, .slice (some ⟨g2, 0, none⟩) 2 2] 29)
    refine (mNew_any mgwR mgw_few (some ⟨W.heap.size, 0, none⟩) 2 _ (runs2_new W 29 _ 2 2 mgwA _ 2 2 mgwB h1 h2)).mono ?_
    rintro e w' ⟨s, h⟩
    rcases h with ⟨h, _⟩ | ⟨_, p, F, rfl, hm, hF⟩
    · exact absurd mgw_chk h
    · exact ⟨p, F, rfl, hm, fun k hk => Nat.le_trans st.size (hF k hk), st.trans s⟩
  have cL : ∀ (W : World) (F : Nat → Prop) (b p : Nat), MerAt W F b p mgwR → Calls Tryz.prog 14 #[.pointer (some ⟨p, 0, none⟩)] W fun e w' => e = .returned (.int .i64 4) ∧ W = w' := fun W F b p h => by
    have h := mLeft_any W F b p mgwR h
    rw [mgw_left] at h
    exact h
  have cX : ∀ (W : World) (F : Nat → Prop) (b p : Nat), MerAt W F b p mgwR → Calls Tryz.prog 15 #[.pointer (some ⟨p, 0, none⟩)] W fun e w' => e = .returned (.tuple #[.agg #[.int .i64 1, .string (str [97]), .string (str [120])], .bool true]) ∧ Hid (Step F W w') ∧ Hid (MerAt w' F b p (stR mgwR 1)) := fun W F b p h => by
    have h := mNextSt_any W F b p mgwR mgw_ok (by rw [mgw_left]; omega) (by decide) 0 (by rw [mgw_len]; omega) h
    rw [mgw_x0, mgw_len] at h
    exact h
  have cY : ∀ (W : World) (F : Nat → Prop) (b p : Nat), MerAt W F b p (stR mgwR 1) → Calls Tryz.prog 15 #[.pointer (some ⟨p, 0, none⟩)] W fun e w' => e = .returned (.tuple #[.agg #[.int .i64 3, .string (str [98]), .string (str [0, 0, 0, 0, 0, 0, 0, 12])], .bool true]) ∧ Hid (Step F W w') ∧ Hid (MerAt w' F b p (stR mgwR 2)) := fun W F b p h => by
    have h := mNextSt_any W F b p mgwR mgw_ok (by rw [mgw_left]; omega) (by decide) 1 (by rw [mgw_len]; omega) h
    rw [mgw_x1, mgw_len] at h
    exact h
  have cV : ∀ (W : World) (g1 g2 h1' h2' : Nat), h1' = W.heap.size → h2' = W.heap.size + 1 → RunOk W (some ⟨g1, 0, none⟩) 2 2 mgwA → RunOk W (some ⟨g2, 0, none⟩) 2 2 mgwB → Calls Tryz.prog 16 #[.slice (some ⟨h1', 0, none⟩) 2 2, .slice (some ⟨h2', 0, none⟩) 2 2] ((W.alloc (.cells #[.string ⟨#[98]⟩, .string ⟨#[118]⟩, .string ⟨#[99]⟩, .string ⟨#[119]⟩] 42)).alloc (.cells #[.slice (some ⟨g1, 0, none⟩) 2 2, .slice (some ⟨g2, 0, none⟩) 2 2] 29)) fun e w' => ∃ gl lf cl, e = .returned (.tuple #[.slice (some ⟨gl, lf, none⟩) 2 cl, .int .i64 0]) ∧ w'.cell? ⟨gl, lf, none⟩ = some (.string (str [97])) ∧ w'.cell? ⟨gl, lf + 1, none⟩ = some (.string (str [120])) ∧ w'.cell? ⟨gl, lf + 2, none⟩ = some (.string (str [98])) ∧ w'.cell? ⟨gl, lf + 3, none⟩ = some (.string (str [118])) ∧ Hid (Step noF W w') := fun W g1 g2 h1' h2' e1 e2 h1 h2 => by
    subst e1 e2
    have st1 := (Step.refl noF W).alloc (.cells #[.string ⟨#[98]⟩, .string ⟨#[118]⟩, .string ⟨#[99]⟩, .string ⟨#[119]⟩] 42)
    have st := st1.alloc (.cells #[.slice (some ⟨g1, 0, none⟩) 2 2, .slice (some ⟨g2, 0, none⟩) 2 2] 29)
    have hr := runs2_new (W.alloc (.cells #[.string ⟨#[98]⟩, .string ⟨#[118]⟩, .string ⟨#[99]⟩, .string ⟨#[119]⟩] 42)) 29 _ 2 2 mgwA _ 2 2 mgwB (h1.step st1) (h2.step st1)
    have hi : RgsAt _ (some ⟨W.heap.size, 0, none⟩) mgwX := (its2_newG W ⟨[98], [118]⟩ ⟨[99], [119]⟩).step ((Step.refl noF _).alloc (.cells #[.slice (some ⟨g1, 0, none⟩) 2 2, .slice (some ⟨g2, 0, none⟩) 2 2] 29))
    rw [World.size_alloc] at hr
    refine (mOver_any mgwX (by decide) (some ⟨W.heap.size, 0, none⟩) 2 (fun h => by cases h) mgwR mgw_few (by rw [mgw_left]; omega) (some ⟨W.heap.size + 1, 0, none⟩) 2 _ hi hr).mono ?_
    rintro e w' ⟨h, s⟩
    rcases h with ⟨h, _⟩ | ⟨_, a2, c2, rfl, _, _, h⟩
    · exact absurd mgw_over h
    · rw [mgw_with] at h ⊢
      rcases h with h | ⟨gl, lf, rfl, _, hj⟩
      · cases h
      · have j0 := hj 0 (by decide)
        have j1 := hj 1 (by decide)
        exact ⟨gl, lf, c2, rfl, j0.1, j0.2, j1.1, j1.2, st.trans s⟩
  have cM : ∀ (W : World) (h1' h2' : Nat), h1' = W.heap.size → h2' = W.heap.size + 1 → Calls Tryz.prog 10 #[.slice (some ⟨h2', 0, none⟩) 1 1] ((W.alloc (.cells #[.int .i64 2, .string ⟨#[98]⟩, .string ⟨#[]⟩, .int .i64 2, .string ⟨#[98]⟩, .string ⟨#[]⟩] 37)).alloc (.cells #[.slice (some ⟨h1', 0, none⟩) 2 2] 29)) fun e w' => e = .returned (.tuple #[.slice none 0 0, .int .i64 11]) ∧ Hid (Step noF W w') := fun W h1' h2' e1 e2 => by
    subst e1 e2
    have st1 := (Step.refl noF W).alloc (.cells #[.int .i64 2, .string ⟨#[98]⟩, .string ⟨#[]⟩, .int .i64 2, .string ⟨#[98]⟩, .string ⟨#[]⟩] 37)
    have st := st1.alloc (.cells #[.slice (some ⟨W.heap.size, 0, none⟩) 2 2] 29)
    have hr := runs1_new (W.alloc (.cells #[.int .i64 2, .string ⟨#[98]⟩, .string ⟨#[]⟩, .int .i64 2, .string ⟨#[98]⟩, .string ⟨#[]⟩] 37)) 29 _ 2 2 [⟨2, [98], []⟩, ⟨2, [98], []⟩] ⟨rfl, fun h => (by cases h), Nat.le_refl _, ms2_newG W ⟨2, [98], []⟩ ⟨2, [98], []⟩⟩
    rw [World.size_alloc] at hr
    refine (mMsgs_any mgwD mgw_fewD (some ⟨W.heap.size + 1, 0, none⟩) 1 _ hr).mono ?_
    rintro e w' ⟨s, h⟩
    rcases h with ⟨_, rfl⟩ | ⟨h, _⟩
    · rw [mgw_chkD]
      exact ⟨rfl, st.trans s⟩
    · rw [mgw_chkD] at h
      cases h
  go_enter Tryz.func7, Tryz.ntmps7
  go_wp2_with fail
  refine (i1 _).mono ?_
  rintro e w1 ⟨rfl, s1⟩
  go_wp2_with fail
  refine (i2 _).mono ?_
  rintro e w2 ⟨rfl, s2⟩
  have hA := ms2_newG w2 ⟨3, [98], [0, 0, 0, 0, 0, 0, 0, 5]⟩ ⟨2, [99], []⟩
  have st2 := (Step.refl noF w2).alloc (.cells #[.int .i64 3, .string (str [98]), .string (str [0, 0, 0, 0, 0, 0, 0, 5]), .int .i64 2, .string (str [99]), .string (str [])] 37)
  have HA : Hid (RunOk (w2.alloc (.cells #[.int .i64 3, .string (str [98]), .string (str [0, 0, 0, 0, 0, 0, 0, 5]), .int .i64 2, .string (str [99]), .string (str [])] 37)) (some ⟨w2.heap.size, 0, none⟩) 2 2 mgwA) := ⟨rfl, fun h => (by cases h), Nat.le_refl _, hA⟩
  have S2 := hid ((s1.trans s2).trans st2)
  clear hA st2 s1 s2
  go_wp2_with fail
  refine (i3 _).mono ?_
  rintro e w3 ⟨rfl, s3⟩
  go_wp2_with fail
  refine (i4 _).mono ?_
  rintro e w4 ⟨rfl, s4⟩
  have hB := ms2_newG w4 ⟨1, [97], [120]⟩ ⟨3, [98], [0, 0, 0, 0, 0, 0, 0, 7]⟩
  have st4 := (Step.refl noF w4).alloc (.cells #[.int .i64 1, .string (str [97]), .string (str [120]), .int .i64 3, .string (str [98]), .string (str [0, 0, 0, 0, 0, 0, 0, 7])] 37)
  have HB : Hid (RunOk (w4.alloc (.cells #[.int .i64 1, .string (str [97]), .string (str [120]), .int .i64 3, .string (str [98]), .string (str [0, 0, 0, 0, 0, 0, 0, 7])] 37)) (some ⟨w4.heap.size, 0, none⟩) 2 2 mgwB) := ⟨rfl, fun h => (by cases h), Nat.le_refl _, hB⟩
  have HA4 := hid (HA.out.step ((s3.trans s4).trans st4))
  have S4 := hid (S2.out.trans ((s3.trans s4).trans st4))
  clear hB st4 s3 s4 HA S2
  go_wp2_with fail
  refine (cN _ w2.heap.size w4.heap.size _ (World.size_alloc _ _).symm HA4.out HB.out).mono ?_
  rintro e w5 ⟨p, F, rfl, HM, HF, s5⟩
  have hW : Hid ((w4.alloc (.cells #[.int .i64 1, .string (str [97]), .string (str [120]), .int .i64 3, .string (str [98]), .string (str [0, 0, 0, 0, 0, 0, 0, 7])] 37)).heap.size ≤ w5.heap.size) := s5.out.size
  go_wp2_with fail
  refine (cL w5 F _ p HM.out).mono ?_
  rintro e w6 ⟨rfl, rfl⟩
  go_wp2_with fail
  refine (cX w5 F _ p HM.out).mono ?_
  rintro e w6 ⟨rfl, s6, HM6⟩
  have T6 := hid (step_over s5.out s6.out HF.out)
  have L6 := hid s6.out.size
  have st6 := (Step.refl noF w6).alloc (.cells #[.int .i64 1, .string (str [97]), .string (str [120])] 37)
  have X6 := hid (trip_new w6 37 ⟨1, [97], [120]⟩)
  have HM7 := hid (HM6.out.step st6)
  have T7 := hid (T6.out.trans st6)
  clear st6 HM6 T6 s6
  go_wp2_with fail
  refine (cY _ F _ p HM7.out).mono ?_
  rintro e w8 ⟨rfl, s8, HM8⟩
  have T8 := hid (step_over T7.out s8.out HF.out)
  have X8 := hid (X6.out.keep s8.out (fun h => absurd (HM.out.low.1 _ h) (by have := L6.out; omega)))
  have L8 := hid s8.out.size
  have st8 := (Step.refl noF w8).alloc (.cells #[.int .i64 3, .string (str [98]), .string (str [0, 0, 0, 0, 0, 0, 0, 12])] 37)
  have Y8 := hid (trip_new w8 37 ⟨3, [98], [0, 0, 0, 0, 0, 0, 0, 12]⟩)
  have X9 := hid (X8.out.step st8)
  have HM9 := hid (HM8.out.step st8)
  have T9 := hid (T8.out.trans st8)
  have HA9 := hid (HA4.out.step T9.out)
  have HB9 := hid (HB.out.step T9.out)
  clear st8 HM8 T8 s8 X8 X6 T7 HM7 HA4 HB
  go_wp2_with fail
  refine (cV _ w2.heap.size w4.heap.size _ _ ?_ ?_ HA9.out HB9.out).mono ?_
  · simp only [World.size_alloc]
  · simp only [World.size_alloc]
  rintro e w10 ⟨gl, lf, cl, rfl, u0, u1, u2, u3, s10⟩
  have X10 := hid (X9.out.step s10.out)
  have Y10 := hid (Y8.out.step s10.out)
  have HM10 := hid (HM9.out.step s10.out)
  have T10 := hid (T9.out.trans s10.out)
  clear X9 Y8 HM9 T9 HA9 HB9
  go_wp2_with fail
  refine (i5 _).mono ?_
  rintro e w11 ⟨rfl, s11⟩
  go_wp2_with fail
  refine (i5 _).mono ?_
  rintro e w12 ⟨rfl, s12⟩
  have S12 := hid (s11.trans s12)
  clear s11 s12
  go_wp2_with fail
  refine (cM w12 _ _ ?_ ?_).mono ?_
  · rfl
  · simp only [World.size_alloc]
  rintro e w13 ⟨rfl, s13⟩
  have S13 := hid (S12.out.trans s13.out)
  have X13 := hid (X10.out.step S13.out)
  have Y13 := hid (Y10.out.step S13.out)
  have HM13 := hid (HM10.out.step S13.out)
  have T13 := hid ((S4.out.trans T10.out).trans S13.out)
  have u0' := S13.out.after u0
  have u1' := S13.out.after u1
  have u2' := S13.out.after u2
  have u3' := S13.out.after u3
  clear u0 u1 u2 u3 X10 Y10 HM10 T10 S13 s13 S12
  go_upto_region 11 with fail
  change Code.wp _ (Code.region 11 ((Tryz.f7.body.bind (regionOps 11)).getD #[]) true) _ _ _
  refine mgaw_go p w6.heap.size w8.heap.size gl lf cl _ w13 rfl rfl rfl rfl rfl rfl rfl rfl rfl rfl (fun w' hs => ?_) ?_
  · obtain ⟨v0, v1, v2, _, _, _⟩ := TripAt.all (X13.out.step hs)
    obtain ⟨y0, y1, y2, _, _, _⟩ := TripAt.all (Y13.out.step hs)
    refine ⟨v0, v1, v2, y0, y1, y2, hs.after u0', hs.after u1', hs.after u2', hs.after u3', i3 w', i6 w', ?_⟩
    have h := mLeft_any w' F _ p _ (HM13.out.step hs)
    rw [mgw_left2] at h
    refine h.mono ?_
    rintro e w'' ⟨rfl, rfl⟩
    exact ⟨rfl, Step.refl _ _⟩
  · intro a w14 hs hd hz hfr h0
    have S49 := hid (T13.out.trans hs)
    simp only [Exit.then]
    refine ‹∀ (a : Act) (w : World), Code.wp _ Code.ret _ a w → _› a w14 ?_
    refine wp_ret ?_
    change bodyPost Tryz.prog Tryz.f7 _ Exit.ret a w14
    refine bodyPost_ret (v := .bool true) ((results_tmp rfl _ _ _).trans (by rw [h0])) hd ⟨rfl, S49.out⟩
end Go.Proofs.YtnalillebemglaaGreat
