/-
  Nodes in memory; the small readers of package node; whether a node fits.
-/
import Derived.Test.YtoobelcphcndoaaGreatNodeM
import Derived.Test.YtoobelcphcndoaaGreatInOf
import Derived.Test.YtoobelcphcndoaaGreatLfC
namespace Go.Proofs.YtoobelcphcndoaaGreat
open Go.RowKit Go.Sort
set_option linter.unusedVariables false
set_option linter.unusedSimpArgs false
set_option maxRecDepth 20000

/-- A node in memory. -/
def NodeAt (w : World) (p : Nat) (v : Nv) : Prop :=
  Sum.elim (fun xs => ∃ q, w.heap[p]? = some (.cells #[.pointer (some ⟨q, 0, none⟩), .pointer none] 80 (0, 0)) ∧ LeafAt w q xs)
    (fun d => ∃ q, w.heap[p]? = some (.cells #[.pointer none, .pointer (some ⟨q, 0, none⟩)] 80 (0, 0)) ∧ InnerAt w q d) v
theorem NodeAt.step {w w' : World} {p : Nat} {v : Nv} (h : NodeAt w p v) (hs : Step noF w w') : NodeAt w' p v := by
  cases v using Nv.two with
  | leaf xs =>
    obtain ⟨q, h1, h2⟩ := h
    exact ⟨q, (hs.block p (lt_of_block h1) (fun x => x)).trans h1, h2.step hs⟩
  | inn d =>
    obtain ⟨q, h1, h2⟩ := h
    exact ⟨q, (hs.block p (lt_of_block h1) (fun x => x)).trans h1, h2.step hs⟩
theorem NodeAt.lt {w : World} {p : Nat} {v : Nv} (h : NodeAt w p v) : p < w.heap.size := by
  cases v using Nv.two with
  | leaf xs => obtain ⟨q, h1, _⟩ := h; exact lt_of_block h1
  | inn d => obtain ⟨q, h1, _⟩ := h; exact lt_of_block h1
theorem NodeAt.cellL {w : World} {p : Nat} {xs : List Rg} (h : NodeAt w p (.leaf xs)) : ∃ q, w.cell? ⟨p, 0, none⟩ = some (.pointer (some ⟨q, 0, none⟩)) ∧ w.cell? ⟨p, 1, none⟩ = some (.pointer none) ∧ LeafAt w q xs := by
  obtain ⟨q, h1, h2⟩ := h
  exact ⟨q, by rw [cell_of_block h1]; rfl, by rw [cell_of_block h1]; rfl, h2⟩
theorem NodeAt.cellI {w : World} {p : Nat} {d : Nd} (h : NodeAt w p (.inn d)) : ∃ q, w.cell? ⟨p, 0, none⟩ = some (.pointer none) ∧ w.cell? ⟨p, 1, none⟩ = some (.pointer (some ⟨q, 0, none⟩)) ∧ InnerAt w q d := by
  obtain ⟨q, h1, h2⟩ := h
  exact ⟨q, by rw [cell_of_block h1]; rfl, by rw [cell_of_block h1]; rfl, h2⟩
/-- .. and a pointer to it, or nil. -/
def NodeZ (w : World) : Option Addr → Option Nv → Prop
  | none, none => True
  | some ad, some v => ∃ p, ad = ⟨p, 0, none⟩ ∧ NodeAt w p v
  | _, _ => False

theorem ndOfLeaf_any (q : Nat) (xs : List Rg) (w : World) (h : LeafAt w q xs) : Calls Tryz.prog 27 #[.pointer (some ⟨q, 0, none⟩)] w fun e w' => e = .returned (.pointer (some ⟨w.heap.size, 0, none⟩)) ∧ Step noF w w' ∧ NodeAt w' w.heap.size (.leaf xs) := by
  have H := hid h
  clear h
  go_enter Tryz.func27, Tryz.ntmps27
  go_wp2_with fail
  go_ret
  exact ⟨rfl, (Step.refl _ _).alloc _, q, block_alloc_new _ _, H.out.step ((Step.refl _ _).alloc _)⟩
theorem ndOfLeaf_nil (w : World) : Calls Tryz.prog 27 #[.pointer none] w fun e w' => e = .returned (.pointer none) ∧ w = w' := by
  go_enter Tryz.func27, Tryz.ntmps27
  go_wp2_with fail
  go_ret
  exact ⟨rfl, rfl⟩
theorem ndOfInner_any (q : Nat) (d : Nd) (w : World) (h : InnerAt w q d) : Calls Tryz.prog 21 #[.pointer (some ⟨q, 0, none⟩)] w fun e w' => e = .returned (.pointer (some ⟨w.heap.size, 0, none⟩)) ∧ Step noF w w' ∧ NodeAt w' w.heap.size (.inn d) := by
  have H := hid h
  clear h
  go_enter Tryz.func21, Tryz.ntmps21
  go_wp2_with fail
  go_ret
  exact ⟨rfl, (Step.refl _ _).alloc _, q, block_alloc_new _ _, H.out.step ((Step.refl _ _).alloc _)⟩
theorem ndOfInner_nil (w : World) : Calls Tryz.prog 21 #[.pointer none] w fun e w' => e = .returned (.pointer none) ∧ w = w' := by
  go_enter Tryz.func21, Tryz.ntmps21
  go_wp2_with fail
  go_ret
  exact ⟨rfl, rfl⟩

theorem ndLeaf_cell (p : Nat) (y : Option Addr) (w : World) (c0 : w.cell? ⟨p, 0, none⟩ = some (.pointer y)) : Calls Tryz.prog 19 #[.pointer (some ⟨p, 0, none⟩)] w fun e w' => e = .returned (.pointer y) ∧ w = w' := by
  go_enter Tryz.func19, Tryz.ntmps19
  go_wp2_with fail
  go_ret
  exact ⟨rfl, rfl⟩
theorem ndLeaf_nil (w : World) : Calls Tryz.prog 19 #[.pointer none] w fun e w' => e = .returned (.pointer none) ∧ w = w' := by
  go_enter Tryz.func19, Tryz.ntmps19
  go_wp2_with fail
  go_ret
  exact ⟨rfl, rfl⟩
theorem ndInner_cell (p : Nat) (y : Option Addr) (w : World) (c1 : w.cell? ⟨p, 1, none⟩ = some (.pointer y)) : Calls Tryz.prog 20 #[.pointer (some ⟨p, 0, none⟩)] w fun e w' => e = .returned (.pointer y) ∧ w = w' := by
  go_enter Tryz.func20, Tryz.ntmps20
  go_wp2_with fail
  go_ret
  exact ⟨rfl, rfl⟩
theorem ndInner_nil (w : World) : Calls Tryz.prog 20 #[.pointer none] w fun e w' => e = .returned (.pointer none) ∧ w = w' := by
  go_enter Tryz.func20, Tryz.ntmps20
  go_wp2_with fail
  go_ret
  exact ⟨rfl, rfl⟩
theorem ndIsLeaf_some (p q : Nat) (w : World) (c0 : w.cell? ⟨p, 0, none⟩ = some (.pointer (some ⟨q, 0, none⟩))) : Calls Tryz.prog 11 #[.pointer (some ⟨p, 0, none⟩)] w fun e w' => e = .returned (.bool true) ∧ w = w' := by
  have c := ndLeaf_cell p _ w c0
  clear c0
  go_enter Tryz.func11, Tryz.ntmps11
  go_wp2_with fail
  refine c.mono ?_
  rintro e w2 ⟨rfl, rfl⟩
  go_wp2_with fail
  go_ret
  exact ⟨rfl, rfl⟩
theorem ndIsLeaf_none (p : Nat) (w : World) (c0 : w.cell? ⟨p, 0, none⟩ = some (.pointer none)) : Calls Tryz.prog 11 #[.pointer (some ⟨p, 0, none⟩)] w fun e w' => e = .returned (.bool false) ∧ w = w' := by
  have c := ndLeaf_cell p _ w c0
  clear c0
  go_enter Tryz.func11, Tryz.ntmps11
  go_wp2_with fail
  refine c.mono ?_
  rintro e w2 ⟨rfl, rfl⟩
  go_wp2_with fail
  go_ret
  exact ⟨rfl, rfl⟩
theorem ndIsLeaf_nil (w : World) : Calls Tryz.prog 11 #[.pointer none] w fun e w' => e = .returned (.bool false) ∧ w = w' := by
  have c := ndLeaf_nil w
  go_enter Tryz.func11, Tryz.ntmps11
  go_wp2_with fail
  refine c.mono ?_
  rintro e w2 ⟨rfl, rfl⟩
  go_wp2_with fail
  go_ret
  exact ⟨rfl, rfl⟩
theorem ndIsLeaf_any (p : Nat) (v : Nv) (w : World) (h : NodeAt w p v) : Calls Tryz.prog 11 #[.pointer (some ⟨p, 0, none⟩)] w fun e w' => e = .returned (.bool v.isLeaf) ∧ w = w' := by
  cases v using Nv.two with
  | leaf xs => obtain ⟨q, c0, c1, h2⟩ := h.cellL; exact ndIsLeaf_some p q w c0
  | inn d => obtain ⟨q, c0, c1, h2⟩ := h.cellI; exact ndIsLeaf_none p w c0
theorem ndKids_inn (p q : Nat) (d : Nd) (hl : d.kids.length ≤ 1000000) (w : World) (c1 : w.cell? ⟨p, 1, none⟩ = some (.pointer (some ⟨q, 0, none⟩))) (h : InnerAt w q d) : Calls Tryz.prog 14 #[.pointer (some ⟨p, 0, none⟩)] w fun e w' => ∃ a c, e = .returned (.slice a d.kids.length c) ∧ Hid (SlAt w' a d.kids.length c (intsOf d.kids)) ∧ Hid (Step noF w w') := by
  have c := ndInner_cell p _ w c1
  have k := kidsN_any q d hl w h
  clear c1 h
  go_enter Tryz.func14, Tryz.ntmps14
  go_wp2_with fail
  refine c.mono ?_
  rintro e w2 ⟨rfl, rfl⟩
  go_wp2_with fail
  refine k.mono ?_
  rintro e w2 ⟨a, cp, rfl, S2, s2⟩
  go_wp2_with fail
  go_ret
  exact ⟨a, cp, rfl, S2, s2⟩
theorem ndKids_none (p : Nat) (w : World) (c1 : w.cell? ⟨p, 1, none⟩ = some (.pointer none)) : Calls Tryz.prog 14 #[.pointer (some ⟨p, 0, none⟩)] w fun e w' => e = .returned (.slice none 0 0) ∧ w = w' := by
  have c := ndInner_cell p _ w c1
  have k := kidsN_nil w
  clear c1
  go_enter Tryz.func14, Tryz.ntmps14
  go_wp2_with fail
  refine c.mono ?_
  rintro e w2 ⟨rfl, rfl⟩
  go_wp2_with fail
  refine k.mono ?_
  rintro e w2 ⟨rfl, rfl⟩
  go_wp2_with fail
  go_ret
  exact ⟨rfl, rfl⟩
theorem ndKids_nil (w : World) : Calls Tryz.prog 14 #[.pointer none] w fun e w' => e = .returned (.slice none 0 0) ∧ w = w' := by
  have c := ndInner_nil w
  have k := kidsN_nil w
  go_enter Tryz.func14, Tryz.ntmps14
  go_wp2_with fail
  refine c.mono ?_
  rintro e w2 ⟨rfl, rfl⟩
  go_wp2_with fail
  refine k.mono ?_
  rintro e w2 ⟨rfl, rfl⟩
  go_wp2_with fail
  go_ret
  exact ⟨rfl, rfl⟩

theorem isNoBlock_any (z : Int) (w : World) : Calls Tryz.prog 41 #[.int .i64 z] w fun e w' => e = .returned (.bool (decide (512 ≤ z))) ∧ w = w' := by
  go_enter Tryz.func41, Tryz.ntmps41
  go_wp2
  go_ret
  exact ⟨rfl, rfl⟩
/-- Whether all of them are blocks. -/
def kidsIn (ks : List Int) : Bool := ks.all (fun k => decide (k ≤ 511))
theorem kidsIn_take (ks : List Int) (j : Nat) (hj : j < ks.length) : kidsIn (ks.take (j + 1)) = (kidsIn (ks.take j) && decide (ks[j] ≤ 511)) := by
  unfold kidsIn
  rw [List.take_succ_eq_append_getElem hj, List.all_append]
  simp
set_option maxHeartbeats 1000000 in
theorem indexK_any (ks : List Int) (hl : ks.length ≤ 1000000) (a : Option Addr) (cap : Nat) (w : World) (hr : RowAt w noF a (intsOf ks)) :
    Calls Tryz.prog 92 #[.slice a ks.length cap, .func (.func 41) #[] #[]] w fun e w' => (∃ r : Int, e = .returned (.int .i64 r) ∧ decide (0 ≤ r) = !(kidsIn ks)) ∧ Step noF w w' := by
  have HR := hid hr
  clear hr
  go_enter Tryz.func92, Tryz.ntmps92
  go_wp2_with fail
  go_loopw [8] (fun i wr => ∃ (j : Nat), j ≤ ks.length ∧ i = .int .i64 j ∧ Hid (kidsIn (ks.take j) = true) ∧ Step noF w wr) (fun i _ => ks.length - (intOf i).toNat)
  case atStart => exact ⟨0, Nat.zero_le _, rfl, (by show _ = _; rfl), Step.refl _ _⟩
  case round =>
    obtain ⟨j, hj, rfl, HA, st⟩ := hrel
    have ST := hid st
    clear st
    by_cases hjl : j < ks.length
    · have hjz : (j : Int) < (ks.length : Int) := by omega
      obtain ⟨g, off, rfl, c0⟩ := ints_get (rowAt_step HR.out ST.out (fun _ _ h => h)) j hjl
      have HT := hid (kidsIn_take ks j hjl)
      have HN : Hid (¬ ks[j] ≤ 511 → kidsIn ks = false) := fun h => by
        unfold kidsIn
        rw [List.all_eq_false]
        exact ⟨ks[j], List.getElem_mem hjl, by simpa using h⟩
      obtain ⟨z, hz⟩ : ∃ m, ks[j] = m := ⟨_, rfl⟩
      rw [hz] at c0 HT HN
      clear hz
      by_cases hi : 512 ≤ z
      · have HF : Hid (kidsIn ks = false) := HN.out (by omega)
        have hd : decide (512 ≤ z) = true := decide_eq_true hi
        have cN := isNoBlock_any z
        rw [hd] at cN
        go_wp2_with fail
        refine (cN _).mono ?_
        rintro e w2 ⟨rfl, rfl⟩
        go_wp2_with fail
        go_ret
        refine ⟨⟨_, rfl, ?_⟩, ST.out⟩
        rw [HF.out]
        simp
      · have hd : decide (512 ≤ z) = false := decide_eq_false hi
        have HT2 : Hid (kidsIn (ks.take (j + 1)) = true) := by
          show _ = _
          rw [HT.out, HA.out]
          simp; omega
        have cN := isNoBlock_any z
        rw [hd] at cN
        go_wp2_with fail
        refine (cN _).mono ?_
        rintro e w2 ⟨rfl, rfl⟩
        go_wp2_with fail
        go_roundw
        case rel => exact ⟨j + 1, by omega, int_eq (by omega), HT2, ST.out⟩
        case measure => simp [intOf]; omega
    · obtain rfl : j = ks.length := by omega
      go_wp2_with fail
      go_ret
      refine ⟨⟨_, rfl, ?_⟩, ST.out⟩
      have := HA.out
      rw [List.take_of_length_le (Nat.le_refl _)] at this
      rw [this]
      rfl
theorem containsK_any (ks : List Int) (hl : ks.length ≤ 1000000) (a : Option Addr) (cap : Nat) (w : World) (hr : RowAt w noF a (intsOf ks)) :
    Calls Tryz.prog 40 #[.slice a ks.length cap, .func (.func 41) #[] #[]] w fun e w' => e = .returned (.bool !(kidsIn ks)) ∧ Step noF w w' := by
  have c := indexK_any ks hl a cap w hr
  obtain ⟨A, hA⟩ : ∃ A, kidsIn ks = A := ⟨_, rfl⟩
  rw [hA] at c ⊢
  go_enter Tryz.func40, Tryz.ntmps40
  go_wp2_with fail
  refine c.mono ?_
  rintro e w2 ⟨⟨r, rfl, hr2⟩, s2⟩
  have HR2 := hid hr2
  clear hr2
  go_wp2_with fail
  go_ret
  exact ⟨ret_bool (by rw [← HR2.out]), s2⟩

/-- Of no great size. -/
def Nv.small (v : Nv) : Prop := Sum.elim Small (fun d => d.kids.length ≤ 1000000 ∧ d.pivs.length ≤ 1000000 ∧ SmallM d.ms) v
theorem fitsN_eq (d : Nd) : fitsN d = (decide (d.kids.length ≤ 6) && kidsIn d.kids && decide (wtM d.ms ≤ 180)) := rfl
set_option maxHeartbeats 1000000 in
theorem ndFits_any (p : Nat) (v : Nv) (hs : v.small) (w : World) (h : NodeAt w p v) : Calls Tryz.prog 12 #[.pointer (some ⟨p, 0, none⟩)] w fun e w' => e = .returned (.bool v.fits) ∧ Step noF w w' := by
  cases v using Nv.two with
  | leaf xs =>
    obtain ⟨q, c0, c1, h2⟩ := h.cellL
    have cI := ndIsLeaf_some p q w c0
    have cW := weight_anyL q xs hs w h2
    have HF : Hid ((Nv.leaf xs).fits = decide (wtL xs ≤ 240)) := rfl
    obtain ⟨W, hW⟩ : ∃ W, wtL xs = W := ⟨_, rfl⟩
    rw [hW] at cW HF
    rw [HF.out]
    clear h hW h2 hs
    go_enter Tryz.func12, Tryz.ntmps12
    go_wp2_with fail
    refine cI.mono ?_
    rintro e w2 ⟨rfl, rfl⟩
    go_wp2_with fail
    refine cW.mono ?_
    rintro e w2 ⟨rfl, s2⟩
    go_wp2_with fail
    go_ret
    exact ⟨ret_bool (by rw [decide_eq_decide]; omega), s2⟩
  | inn d =>
    obtain ⟨q, c0, c1, h2⟩ := h.cellI
    have cI := ndIsLeaf_none p w c0
    have cL := lenN_any q d w h2
    have cK := ndKids_inn p q d hs.1 w c1 h2
    have H2 := hid h2
    have HF : Hid ((Nv.inn d).fits = (decide (d.kids.length ≤ 6) && kidsIn d.kids && decide (wtM d.ms ≤ 180))) := rfl
    rw [HF.out]
    clear HF h
    have cC := fun (a : Option Addr) (c : Nat) (u : World) (hr : Hid (SlAt u a d.kids.length c (intsOf d.kids))) => containsK_any d.kids hs.1 a c u hr.out.2.2
    have cB := fun (u : World) (hu : Hid (Step noF w u)) => buffN_any q d u (H2.out.step hu.out)
    have cW := fun (b : Nat) (u : World) (hb : Hid (BuffAt u b d.ms)) => weightB_any b d.ms hs.2.2 u hb.out
    have cc1 := fun (u : World) (hu : Hid (Step noF w u)) => hu.out.after c1
    clear h2 hs
    obtain ⟨K, hK⟩ : ∃ K, d.kids.length = K := ⟨_, rfl⟩
    obtain ⟨W, hW⟩ : ∃ W, wtM d.ms = W := ⟨_, rfl⟩
    obtain ⟨B, hB⟩ : ∃ B, kidsIn d.kids = B := ⟨_, rfl⟩
    rw [hK] at cL cK
    rw [hW] at cW
    rw [hB] at cC
    rw [hK, hW, hB]
    simp only [hK] at cC
    clear hK hW hB
    by_cases g1 : K ≤ 6
    · have gz : (K : Int) ≤ 6 := by omega
      have d1 : decide (K ≤ 6) = true := decide_eq_true g1
      rw [d1, Bool.true_and]
      clear d1 g1
      cases B with
      | false =>
        go_enter Tryz.func12, Tryz.ntmps12
        go_wp2_with fail
        refine cI.mono ?_
        rintro e w2 ⟨rfl, rfl⟩
        go_wp2_with fail
        refine cL.mono ?_
        rintro e w2 ⟨rfl, rfl⟩
        go_wp2_with fail
        refine cK.mono ?_
        rintro e w2 ⟨a, c, rfl, A2, S2⟩
        go_wp2_with fail
        refine (cC a c _ A2).mono ?_
        rintro e w3 ⟨rfl, s3⟩
        have S3 := hid (S2.out.trans s3)
        clear s3
        go_wp2_with fail
        go_ret
        exact ⟨rfl, S3.out⟩
      | true =>
        rw [Bool.true_and]
        go_enter Tryz.func12, Tryz.ntmps12
        go_wp2_with fail
        refine cI.mono ?_
        rintro e w2 ⟨rfl, rfl⟩
        go_wp2_with fail
        refine cL.mono ?_
        rintro e w2 ⟨rfl, rfl⟩
        go_wp2_with fail
        refine cK.mono ?_
        rintro e w2 ⟨a, c, rfl, A2, S2⟩
        go_wp2_with fail
        refine (cC a c _ A2).mono ?_
        rintro e w3 ⟨rfl, s3⟩
        have S3 := hid (S2.out.trans s3)
        have k1 := cc1 w3 S3
        clear s3
        go_wp2_with fail
        refine (cB _ S3).mono ?_
        rintro e w4 ⟨b, rfl, B4, rfl⟩
        go_wp2_with fail
        refine (cW b _ B4).mono ?_
        rintro e w5 ⟨rfl, s5⟩
        have S5 := hid (S3.out.trans s5)
        clear s5
        go_wp2_with fail
        go_ret
        exact ⟨ret_bool (by rw [decide_eq_decide]; omega), S5.out⟩
    · have gz : ¬ (K : Int) ≤ 6 := by omega
      have d1 : decide (K ≤ 6) = false := decide_eq_false g1
      rw [d1, Bool.false_and, Bool.false_and]
      clear d1 g1
      go_enter Tryz.func12, Tryz.ntmps12
      go_wp2_with fail
      refine cI.mono ?_
      rintro e w2 ⟨rfl, rfl⟩
      go_wp2_with fail
      refine cL.mono ?_
      rintro e w2 ⟨rfl, rfl⟩
      go_wp2_with fail
      go_ret
      exact ⟨rfl, Step.refl _ _⟩
theorem ndFits_nil (w : World) : Calls Tryz.prog 12 #[.pointer none] w fun e w' => e = .returned (.bool false) ∧ w = w' := by
  go_enter Tryz.func12, Tryz.ntmps12
  go_wp2_with fail
  go_ret
  exact ⟨rfl, rfl⟩
end Go.Proofs.YtoobelcphcndoaaGreat
