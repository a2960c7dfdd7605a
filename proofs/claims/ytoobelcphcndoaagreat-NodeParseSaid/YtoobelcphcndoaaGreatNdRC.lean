/-
  The document's answer for layer 12: whether two nodes are the same; what is made of what is told.
-/
import Derived.Test.YtoobelcphcndoaaGreatNdRB
import Derived.Test.YtoobelcphcndoaaGreatNdG
import Derived.Test.YtoobelcphcndoaaGreatInRA
namespace Go.Proofs.YtoobelcphcndoaaGreat
open Go.RowKit Go.Sort
set_option linter.unusedVariables false
set_option linter.unusedSimpArgs false
set_option maxRecDepth 20000

theorem eqB_same (xs ys : List Rg) : eqB xs ys = sameB xs ys := rfl
theorem sameV_eq (v u : Nv) : sameV v u = ((v.isLeaf == u.isLeaf) && eqB v.its u.its && sameN v.nd u.nd) := by
  cases v using Nv.two with
  | leaf xs =>
    cases u using Nv.two with
    | leaf ys =>
      show sameB xs ys = ((true == true) && eqB xs ys && sameN ⟨[], [], []⟩ ⟨[], [], []⟩)
      rw [eqB_same, (sameN_iff _ _).2 rfl]
      simp
    | inn e => rfl
  | inn d =>
    cases u using Nv.two with
    | leaf ys => rfl
    | inn e =>
      show sameN d e = ((false == false) && eqB [] [] && sameN d e)
      rw [show eqB [] [] = true from by decide]
      simp
theorem Nv.its_small {v : Nv} (h : v.small) : v.its.length ≤ 1000000 ∧ v.nd.kids.length ≤ 1000000 ∧ v.nd.pivs.length ≤ 1000000 ∧ v.nd.ms.length ≤ 1000000 := by
  cases v using Nv.two with
  | leaf xs => exact ⟨h.1, by show ([] : List Int).length ≤ _; simp, by show ([] : List (List UInt8)).length ≤ _; simp, by show ([] : List Mg).length ≤ _; simp⟩
  | inn d => exact ⟨by show ([] : List Rg).length ≤ _; simp, h.1, h.2.1, h.2.2.1⟩
set_option maxHeartbeats 2000000 in
theorem refSame12_any (v u : Nv) (hv : v.small) (hu : u.small) (x y : Value) (w : World) (h1 : NvV w v x) (h2 : NvV w u y) :
    Calls Tryz.prog 18 #[x, y] w fun e w' => e = .returned (.bool (sameV v u)) ∧ Step noF w w' := by
  obtain ⟨ia, ka, pa, a, ic, kc, pc, c, rfl, ⟨hi, _⟩, ⟨hk, hk2, hk3⟩, ⟨hp, hp2, hp3⟩, hm, hm2⟩ := h1
  obtain ⟨ia', ka', pa', a', ic', kc', pc', c', rfl, ⟨hi', _⟩, ⟨hk', hk2', hk3'⟩, ⟨hp', hp2', hp3'⟩, hm', hm2'⟩ := h2
  have l1 := Nv.its_small hv
  have l2 := Nv.its_small hu
  have HV : Hid (NdV w v.nd (.agg #[.slice ka v.nd.kids.length kc, .slice pa v.nd.pivs.length pc, .slice a v.nd.ms.length c])) := ⟨ka, pa, a, kc, pc, c, rfl, ⟨hk, hk2, hk3⟩, ⟨hp, hp2, hp3⟩, hm, hm2⟩
  have HU : Hid (NdV w u.nd (.agg #[.slice ka' u.nd.kids.length kc', .slice pa' u.nd.pivs.length pc', .slice a' u.nd.ms.length c'])) := ⟨ka', pa', a', kc', pc', c', rfl, ⟨hk', hk2', hk3'⟩, ⟨hp', hp2', hp3'⟩, hm', hm2'⟩
  have cI := fun (s : World) (hs : Hid (Step noF w s)) => refSame_any v.its u.its l1.1 l2.1 ia ia' ic ic' s (hi.step hs.out) (hi'.step hs.out)
  have cN := fun (s : World) (hs : Hid (Step noF w s)) => refSameN_any v.nd u.nd ⟨l1.2.2.2, l2.2.2.2⟩ ⟨l1.2.1, l1.2.2.1⟩ _ _ s (HV.out.step hs.out) (HU.out.step hs.out)
  have HE := hid (sameV_eq v u)
  obtain ⟨D, hD⟩ : ∃ D, sameV v u = D := ⟨_, rfl⟩
  obtain ⟨E2, hE2⟩ : ∃ D, eqB v.its u.its = D := ⟨_, rfl⟩
  obtain ⟨E3, hE3⟩ : ∃ D, sameN v.nd u.nd = D := ⟨_, rfl⟩
  obtain ⟨b1, hb1⟩ : ∃ D, v.isLeaf = D := ⟨_, rfl⟩
  obtain ⟨b2, hb2⟩ : ∃ D, u.isLeaf = D := ⟨_, rfl⟩
  rw [hD, hE2, hE3, hb1, hb2] at HE
  simp only [hE2] at cI
  simp only [hE3] at cN
  rw [hD, hb1, hb2]
  obtain ⟨n1, e1⟩ : ∃ D, v.its.length = D := ⟨_, rfl⟩
  obtain ⟨n2, e2⟩ : ∃ D, v.nd.kids.length = D := ⟨_, rfl⟩
  obtain ⟨n3, e3⟩ : ∃ D, v.nd.pivs.length = D := ⟨_, rfl⟩
  obtain ⟨n4, e4⟩ : ∃ D, v.nd.ms.length = D := ⟨_, rfl⟩
  obtain ⟨m1, d1⟩ : ∃ D, u.its.length = D := ⟨_, rfl⟩
  obtain ⟨m2, d2⟩ : ∃ D, u.nd.kids.length = D := ⟨_, rfl⟩
  obtain ⟨m3, d3⟩ : ∃ D, u.nd.pivs.length = D := ⟨_, rfl⟩
  obtain ⟨m4, d4⟩ : ∃ D, u.nd.ms.length = D := ⟨_, rfl⟩
  simp only [e1, d1] at cI
  simp only [e2, e3, e4, d2, d3, d4] at cN
  rw [e1, e2, e3, e4, d1, d2, d3, d4]
  clear hD hE2 hE3 hb1 hb2 e1 e2 e3 e4 d1 d2 d3 d4 hi hi' hk hk' hp hp' hm hm' hk2 hk3 hp2 hp3 hm2 hk2' hk3' hp2' hp3' hm2' HV HU l1 l2 hv hu
  obtain ⟨W, hW⟩ : ∃ W, (w.alloc (.cells #[.bool b1, .slice ia n1 ic, .slice ka n2 kc, .slice pa n3 pc, .slice a n4 c] 29)).alloc (.cells #[.bool b2, .slice ia' m1 ic', .slice ka' m2 kc', .slice pa' m3 pc', .slice a' m4 c'] 29) = W := ⟨_, rfl⟩
  have S0 : Hid (Step noF w W) := by show Step _ _ _; rw [← hW]; exact ((Step.refl _ _).alloc _).alloc _
  obtain ⟨g0, hg0⟩ : ∃ g, w.heap.size = g := ⟨_, rfl⟩
  have bx := (ndBox_new w (.bool b1) (.slice ia n1 ic) (.slice ka n2 kc) (.slice pa n3 pc) (.slice a n4 c)).step ((Step.refl noF _).alloc (.cells #[.bool b2, .slice ia' m1 ic', .slice ka' m2 kc', .slice pa' m3 pc', .slice a' m4 c'] 29))
  have by0 := ndBox_new (w.alloc (.cells #[.bool b1, .slice ia n1 ic, .slice ka n2 kc, .slice pa n3 pc, .slice a n4 c] 29)) (.bool b2) (.slice ia' m1 ic') (.slice ka' m2 kc') (.slice pa' m3 pc') (.slice a' m4 c')
  rw [World.size_alloc] at by0
  rw [hW, hg0] at bx by0
  have BX := hid bx
  have BY := hid by0
  have HW := hid hW
  have HG := hid hg0
  clear hW bx by0 hg0
  have cI0 := cI _ S0
  obtain ⟨x0, x1, x2, x3, x4⟩ := BX.out.all
  obtain ⟨y0, y1, y2, y3, y4⟩ := BY.out.all
  cases hb : (b1 == b2) with
  | false =>
    have HD : Hid (D = false) := by show _ = _; rw [HE.out, hb]; rfl
    clear HE
    go_enter Tryz.func18, Tryz.ntmps18
    go_upto_region 1 with fail
    rw [HW.out, HG.out]
    go_wp2_with fail
    go_ret
    exact ⟨ret_bool HD.out.symm, S0.out⟩
  | true =>
    cases E2 with
    | false =>
      have HD : Hid (D = false) := by show _ = _; rw [HE.out, hb]; rfl
      clear HE
      go_enter Tryz.func18, Tryz.ntmps18
      go_upto_region 1 with fail
      rw [HW.out, HG.out]
      go_wp2_with fail
      refine cI0.mono ?_
      rintro e w2 ⟨rfl, s2⟩
      have S2 := hid (S0.out.trans s2)
      clear s2
      go_wp2_with fail
      go_ret
      exact ⟨ret_bool HD.out.symm, S2.out⟩
    | true =>
      have HD : Hid (D = E3) := by show _ = _; rw [HE.out, hb]; rfl
      clear HE
      go_enter Tryz.func18, Tryz.ntmps18
      go_upto_region 1 with fail
      rw [HW.out, HG.out]
      go_wp2_with fail
      refine cI0.mono ?_
      rintro e w2 ⟨rfl, s2⟩
      have S2 := hid (S0.out.trans s2)
      have BX2 := hid (BX.out.step s2)
      have BY2 := hid (BY.out.step s2)
      clear s2 x0 x1 x2 x3 x4 y0 y1 y2 y3 y4 cI cI0
      obtain ⟨x0, x1, x2, x3, x4⟩ := BX2.out.all
      obtain ⟨y0, y1, y2, y3, y4⟩ := BY2.out.all
      go_wp2_with fail
      refine (cN _ S2).mono ?_
      rintro e w3 ⟨rfl, s3⟩
      have S3 := hid (S2.out.trans s3)
      clear s3
      go_wp2_with fail
      go_ret
      exact ⟨ret_bool HD.out.symm, S3.out⟩

theorem NdBox.set0 {w : World} {g : Nat} {x0 x1 x2 x3 x4 : Value} (h : NdBox w g x0 x1 x2 x3 x4) (y : Value) : NdBox (w.setCell ⟨g, 0, none⟩ y) g y x1 x2 x3 x4 := by simpa [NdBox] using block_setCell h 0 y
theorem NdBox.set1 {w : World} {g : Nat} {x0 x1 x2 x3 x4 : Value} (h : NdBox w g x0 x1 x2 x3 x4) (y : Value) : NdBox (w.setCell ⟨g, 1, none⟩ y) g x0 y x2 x3 x4 := by simpa [NdBox] using block_setCell h 1 y
theorem NdBox.set2 {w : World} {g : Nat} {x0 x1 x2 x3 x4 : Value} (h : NdBox w g x0 x1 x2 x3 x4) (y : Value) : NdBox (w.setCell ⟨g, 2, none⟩ y) g x0 x1 y x3 x4 := by simpa [NdBox] using block_setCell h 2 y
theorem NdBox.set3 {w : World} {g : Nat} {x0 x1 x2 x3 x4 : Value} (h : NdBox w g x0 x1 x2 x3 x4) (y : Value) : NdBox (w.setCell ⟨g, 3, none⟩ y) g x0 x1 x2 y x4 := by simpa [NdBox] using block_setCell h 3 y
theorem NdBox.set4 {w : World} {g : Nat} {x0 x1 x2 x3 x4 : Value} (h : NdBox w g x0 x1 x2 x3 x4) (y : Value) : NdBox (w.setCell ⟨g, 4, none⟩ y) g x0 x1 x2 x3 y := by simpa [NdBox] using block_setCell h 4 y
/-- All five cells. -/
def put5 (w : World) (g : Nat) (y0 y1 y2 y3 y4 : Value) : World := ((((w.setCell ⟨g, 0, none⟩ y0).setCell ⟨g, 1, none⟩ y1).setCell ⟨g, 2, none⟩ y2).setCell ⟨g, 3, none⟩ y3).setCell ⟨g, 4, none⟩ y4
theorem NdBox.put {w : World} {g : Nat} {x0 x1 x2 x3 x4 : Value} (h : NdBox w g x0 x1 x2 x3 x4) (y0 y1 y2 y3 y4 : Value) : NdBox (put5 w g y0 y1 y2 y3 y4) g y0 y1 y2 y3 y4 := ((((h.set0 y0).set1 y1).set2 y2).set3 y3).set4 y4
theorem step_put5 {w0 w : World} (hs : Step noF w0 w) (g : Nat) (hg : w0.heap.size ≤ g) (y0 y1 y2 y3 y4 : Value) : Step noF w0 (put5 w g y0 y1 y2 y3 y4) :=
  ((((hs.setCell (p := ⟨g, 0, none⟩) (.inr hg) y0).setCell (p := ⟨g, 1, none⟩) (.inr hg) y1).setCell (p := ⟨g, 2, none⟩) (.inr hg) y2).setCell (p := ⟨g, 3, none⟩) (.inr hg) y3).setCell (p := ⟨g, 4, none⟩) (.inr hg) y4
/-- What a node's box may hold. -/
def IsBox (v : Value) : Prop := (∃ a n c, v = .slice a n c) ∨ ∃ b, v = .bool b
theorem isBox_int (k : IntKind) (z : Int) : ¬ IsBox (.int k z) := by rintro (⟨a, n, c, h⟩ | ⟨b, h⟩) <;> cases h
theorem isBox_str (s : ByteArray) : ¬ IsBox (.string s) := by rintro (⟨a, n, c, h⟩ | ⟨b, h⟩) <;> cases h
/-- A block that holds a node. -/
def BoxOf (w : World) (g : Nat) : Prop := ∃ x0 x1 x2 x3 x4, NdBox w g x0 x1 x2 x3 x4 ∧ IsBox x0 ∧ IsBox x1 ∧ IsBox x2 ∧ IsBox x3 ∧ IsBox x4
theorem BoxOf.step {w w' : World} {g : Nat} (h : BoxOf w g) (hs : Step noF w w') : BoxOf w' g := by
  obtain ⟨x0, x1, x2, x3, x4, h1, h2⟩ := h
  exact ⟨x0, x1, x2, x3, x4, h1.step hs, h2⟩
theorem BoxOf.cell {w : World} {g : Nat} (h : BoxOf w g) {j : Nat} {u : Value} (hu : w.cell? ⟨g, j, none⟩ = some u) : IsBox u := by
  obtain ⟨x0, x1, x2, x3, x4, h1, i0, i1, i2, i3, i4⟩ := h
  have := cell_of_block h1 j
  rw [hu] at this
  match j, this with
  | 0, e => simp at e; rw [e]; exact i0
  | 1, e => simp at e; rw [e]; exact i1
  | 2, e => simp at e; rw [e]; exact i2
  | 3, e => simp at e; rw [e]; exact i3
  | 4, e => simp at e; rw [e]; exact i4
  | j + 5, e => simp at e
theorem BoxOf.keep {w w' : World} {g : Nat} (h : BoxOf w g) (hs : Step (oneF g) w w') {b off : Nat} {u : Value} (hc : w.cell? ⟨b, off, none⟩ = some u) (hu : ¬ IsBox u) : w'.cell? ⟨b, off, none⟩ = some u := by
  have hb : ¬ oneF g b := fun e => by
    have e2 : b = g := e
    subst e2
    exact hu (h.cell hc)
  exact (hs.cell (p := ⟨b, off, none⟩) hb (World.block_lt_of_cell? w _ hc)).trans hc
theorem BoxOf.ints {w w' : World} {g : Nat} (h : BoxOf w g) (hs : Step (oneF g) w w') {a : Option Addr} {zs : List Int} (hr : RowAt w noF a (intsOf zs)) : RowAt w' noF a (intsOf zs) := by
  rcases hr with hr | ⟨b, off, rfl, hb, hr⟩
  · exact .inl hr
  · refine .inr ⟨b, off, rfl, hb, fun j hj => h.keep hs (hr j hj) ?_⟩
    rw [show (intsOf zs)[j] = .int .i64 (zs[j]'(by simpa [intsOf] using hj)) from by simp [intsOf]]
    exact isBox_int _ _
theorem BoxOf.txs {w w' : World} {g : Nat} (h : BoxOf w g) (hs : Step (oneF g) w w') {a : Option Addr} {ps : List (List UInt8)} (hr : RowAt w noF a (texts ps)) : RowAt w' noF a (texts ps) := by
  rcases hr with hr | ⟨b, off, rfl, hb, hr⟩
  · exact .inl hr
  · refine .inr ⟨b, off, rfl, hb, fun j hj => h.keep hs (hr j hj) ?_⟩
    rw [show (texts ps)[j] = .string (str (ps[j]'(by simpa [texts] using hj))) from by simp [texts]]
    exact isBox_str _
theorem BoxOf.rgs {w w' : World} {g : Nat} (h : BoxOf w g) (hs : Step (oneF g) w w') {a : Option Addr} {xs : List Rg} (hr : RgsAt w a xs) : RgsAt w' a xs := by
  rcases hr with hr | ⟨b, off, rfl, hb, hr⟩
  · exact .inl hr
  · exact .inr ⟨b, off, rfl, Nat.lt_of_lt_of_le hb hs.size, fun j hj => ⟨h.keep hs (hr j hj).1 (isBox_str _), h.keep hs (hr j hj).2 (isBox_str _)⟩⟩
theorem BoxOf.msgs {w w' : World} {g : Nat} (h : BoxOf w g) (hs : Step (oneF g) w w') {a : Option Addr} {ms : List Mg} (hr : MsgsAt w noF a ms) : MsgsAt w' noF a ms := by
  rcases hr with hr | ⟨b, off, rfl, hn, hb, hr⟩
  · exact .inl hr
  · exact .inr ⟨b, off, rfl, hn, Nat.lt_of_lt_of_le hb hs.size, fun j hj => ⟨h.keep hs (hr j hj).1 (isBox_int _ _), h.keep hs (hr j hj).2.1 (isBox_str _), h.keep hs (hr j hj).2.2 (isBox_str _)⟩⟩
theorem BoxOf.nd {w w' : World} {g : Nat} (h : BoxOf w g) (hs : Step (oneF g) w w') {d : Nd} {v : Value} (hr : NdV w d v) : NdV w' d v := by
  obtain ⟨ka, pa, a, kc, pc, c, h1, ⟨h2, h3⟩, ⟨h4, h5⟩, h6, h7⟩ := hr
  exact ⟨ka, pa, a, kc, pc, c, h1, ⟨h.ints hs h2, h3⟩, ⟨h.txs hs h4, h5⟩, h.msgs hs h6, h7⟩
theorem BoxOf.nv {w w' : World} {g : Nat} (h : BoxOf w g) (hs : Step (oneF g) w w') {v : Nv} {x : Value} (hr : NvV w v x) : NvV w' v x := by
  obtain ⟨ia, ka, pa, a, ic, kc, pc, c, h1, ⟨h2, h3⟩, ⟨h4, h5⟩, ⟨h6, h7⟩, h8, h9⟩ := hr
  exact ⟨ia, ka, pa, a, ic, kc, pc, c, h1, ⟨h.rgs hs h2, h3⟩, ⟨h.ints hs h4, h5⟩, ⟨h.txs hs h6, h7⟩, h.msgs hs h8, h9⟩
theorem step_one5 {w0 w : World} (g : Nat) (hs : Step (oneF g) w0 w) (y0 y1 y2 y3 y4 : Value) : Step (oneF g) w0 (put5 w g y0 y1 y2 y3 y4) := ((((hs.setOne 0 y0).setOne 1 y1).setOne 2 y2).setOne 3 y3).setOne 4 y4

end Go.Proofs.YtoobelcphcndoaaGreat
