/-
  A leaf that is still made: lift.
-/
import Derived.Test.YtnalillebemglaaGreatLfJ
namespace Go.Proofs.YtnalillebemglaaGreat
open Go.RowKit Go.Sort
set_option linter.unusedVariables false
set_option linter.unusedSimpArgs false
set_option maxRecDepth 20000

/-- What lift answers, and what it leaves. -/
def liftO (k : List UInt8) (D : List Rg) : Option (List UInt8) := match D.getLast? with
  | none => none
  | some z => if z.lo = k then some z.hi else none
def liftD (k : List UInt8) (D : List Rg) : List Rg := if (liftO k D).isSome then D.dropLast else D
set_option maxHeartbeats 2000000 in
theorem lift_any (b : Nat) (P : Nat → Prop) (D R : List Rg) (hl : D.length ≤ 1000000) (k : List UInt8) (w : World) (h : DraftAt w b P D R) :
    Calls Tryz.prog 77 #[.pointer (some ⟨b, 0, none⟩), .string (str k)] w fun e w' => e = .returned (.tuple #[.string (str ((liftO k D).getD [])), .bool (liftO k D).isSome]) ∧ DraftAt w' b P (liftD k D) R ∧ Step (fun j => b ≤ j ∧ ¬ P j) w w' := by
  obtain ⟨da, dc, a, c, hb, ho, hr, hpb, hpo⟩ := h
  obtain ⟨k0, k1, z0, z1⟩ := draft_cells hb
  have hE := same_str
  have HB := hid hb
  have HO := hid ho
  have HR := hid hr
  have HPB := hid hpb
  have HPO := hid hpo
  clear hb ho hr hpb hpo
  by_cases hD : D = []
  · subst hD
    rw [List.length_nil] at k0
    go_enter Tryz.func77, Tryz.ntmps77
    go_wp2_with fail
    go_ret2
    exact ⟨rfl, ⟨da, dc, a, c, HB.out, HO.out, HR.out, HPB.out, HPO.out⟩, Step.refl _ _⟩
  · have hp : 0 < D.length := List.length_pos_iff.2 hD
    obtain ⟨m, hm⟩ : ∃ m, D.length = m + 1 := ⟨D.length - 1, by omega⟩
    have hml : m < D.length := by omega
    obtain ⟨_, _, hv, hcap, hnok, hrg⟩ := owns_rgs HO.out
    injection hv with e1 _ e2
    subst e1
    subst e2
    obtain ⟨g, off, rfl, c0, c1⟩ := hrg.at m hml
    have hlast : D.getLast? = some D[m] := by rw [List.getLast?_eq_getElem?, hm, Nat.add_sub_cancel, List.getElem?_eq_getElem hml]
    have em : (D.length : Int) - 1 = (m : Int) := by omega
    have rm : IntKind.i64.wrap (m : Int) = (m : Int) := by rw [IntKind.wrap_i64]; omega
    have bm : (m : Int) < (D.length : Int) := by omega
    have bc : (m : Int) ≤ (dc : Int) := by omega
    have nm : ¬ (m : Int) < 0 := by omega
    have HLO : Hid (liftO k D = if D[m].lo = k then some D[m].hi else none) := by show _ = _; unfold liftO; rw [hlast]
    have HDL : Hid (D.dropLast = D.take m) := by show _ = _; rw [List.dropLast_eq_take, hm, Nat.add_sub_cancel]
    have HLT : Hid ((D.take m).length = m) := by show _ = _; simp; omega
    obtain ⟨⟨x, y⟩, hx⟩ : ∃ z, D[m] = z := ⟨_, rfl⟩
    rw [hx] at c0 c1 HLO
    clear hx hlast hm hrg hcap hnok hp hD
    by_cases hxk : x = k
    · subst hxk
      have HL2 : Hid (liftO x D = some y) := by show _ = _; rw [HLO.out]; simp
      go_enter Tryz.func77, Tryz.ntmps77
      go_wp2_with fail
      go_ret2
      refine ⟨by rw [HL2.out]; rfl, ?_, Step.setCell (p := ⟨b, 0, none⟩) (Step.refl _ w) (.inl ⟨Nat.le_refl _, HPB.out⟩) _⟩
      have eD : liftD x D = D.take m := by unfold liftD; rw [HL2.out, ← HDL.out]; rfl
      rw [eD]
      have h1 := block_setCell HB.out 0 (.slice (some ⟨g, off, none⟩) m dc)
      have hne : ∀ q, (Value.slice (some ⟨g, off, none⟩) q dc).ownBlock ≠ some b := fun q e => by
        have := (HO.out.lt b e).1
        omega
      refine ⟨some ⟨g, off, none⟩, dc, a, c, by rw [HLT.out]; exact h1, ?_, HR.out.step (P := P) (Step.setCell (p := ⟨b, 0, none⟩) (Step.refl _ w) (.inl ⟨Nat.le_refl _, HPB.out⟩) _) (Nat.le_of_lt (lt_of_block HB.out)), HPB.out, fun q hq => HPO.out q hq⟩
      rcases HO.out.2 with ⟨h, _⟩ | ⟨g', cap, cur, h, q1, q2, q3, q4, q5, q6⟩
      · cases h
      · injection h with h _ h'
        injection h with h
        injection h with h h2
        subst h
        subst h2
        subst h'
        rw [HLT.out]
        have hgb : g ≠ b := by omega
        refine owns_of_block q1 (cur := cur) ?_ (by omega) q4 q5 ?_ (by rw [rgs_length, HLT.out])
        · exact ((Step.setCell (F := oneF b) (p := ⟨b, 0, none⟩) (Step.refl (oneF b) w) (.inl rfl) _).block g (lt_of_block q2) hgb).trans q2
        · have e3 : rgs D = rgs (D.take m) ++ rgs (D.drop m) := by rw [← rgs_append, List.take_append_drop]
          have := congrArg (List.take (m * 2)) q6
          rw [List.take_take, Nat.min_eq_left (by omega), e3, List.take_left' (by rw [rgs_length, HLT.out])] at this
          exact this
    · have HL2 : Hid (liftO k D = none) := by show _ = _; rw [HLO.out, if_neg hxk]
      go_enter Tryz.func77, Tryz.ntmps77
      go_wp2_with fail
      go_ret2
      refine ⟨by rw [HL2.out]; rfl, ?_, Step.refl _ _⟩
      have eD : liftD k D = D := by unfold liftD; rw [HL2.out]; rfl
      rw [eD]
      exact ⟨_, dc, a, c, HB.out, HO.out, HR.out, HPB.out, HPO.out⟩
end Go.Proofs.YtnalillebemglaaGreat
namespace Go.Proofs.YtnalillebemglaaGreat
open Go.RowKit Go.Sort
set_option linter.unusedVariables false
set_option linter.unusedSimpArgs false
set_option maxRecDepth 20000

theorem DraftAt.widen {w w' : World} {b : Nat} {P : Nat → Prop} {D R : List Rg} (h : DraftAt w b P D R) (hs : Step noF w w') : DraftAt w' b (fun k => P k ∨ k = w.heap.size) D R := by
  have h' := h.stepNo hs
  obtain ⟨da, dc, a, c, hb, ho, hr, hpb, hpo⟩ := h
  obtain ⟨da', dc', a', c', hb', ho', hr', hpb', hpo'⟩ := h'
  have e := hb'.symm.trans ((hs.block b (lt_of_block hb) (fun x => x)).trans hb)
  have ev : Value.slice da' D.length dc' = Value.slice da D.length dc := by
    injection e with e
    injection e with e _ _
    have := congrArg (fun A : Array Value => A[0]?) e
    simpa using this
  have hlt := lt_of_block hb
  refine ⟨da', dc', a', c', hb', ho', hr', fun x => ?_, fun k hk x => ?_⟩
  · rcases x with x | x
    · exact hpb x
    · omega
  · rcases x with x | x
    · exact hpo' k hk x
    · rw [ev] at hk
      have := (ho.lt k hk).2
      omega
theorem DraftAt.narrow {w : World} {b : Nat} {P Q : Nat → Prop} {D R : List Rg} (h : DraftAt w b P D R) (hq : ∀ k, Q k → P k) : DraftAt w b Q D R := by
  obtain ⟨da, dc, a, c, hb, ho, hr, hpb, hpo⟩ := h
  exact ⟨da, dc, a, c, hb, ho, hr, fun x => hpb (hq _ x), fun k hk x => hpo k hk (hq _ x)⟩
/-- What is done behind a message. -/
def takeD (m : Mg) (D R : List Rg) : List Rg := liftD m.key (D ++ R.take (passN m.key R)) ++ (match m.appO (liftO m.key (D ++ R.take (passN m.key R))) with | none => [] | some v => [⟨m.key, v⟩])
theorem liftD_len (k : List UInt8) (D : List Rg) : (liftD k D).length ≤ D.length := by
  unfold liftD
  split
  · simp
  · exact Nat.le_refl _
theorem liftO_len (k : List UInt8) (D : List Rg) (h : ∀ x ∈ D, x.hi.length ≤ 1000000) : ((liftO k D).getD []).length ≤ maxLen := by
  unfold liftO
  split
  · simp
  · rename_i z hz
    have hm := h z (List.mem_of_getLast? hz)
    split
    · exact le_max (by simp; omega)
    · simp
theorem draft_put1 {w : World} {b : Nat} {P : Nat → Prop} {D R : List Rg} {da a : Option Addr} {dc c : Nat} {x : Value} (hb : w.heap[b]? = some (.cells #[x, .slice a R.length c] 92 (0, 0))) (ho : w.ownsRow (b + 1) 42 2 (.slice da D.length dc) D.length (rgs D)) (hr : RowBelow w b a c R) (hp : ¬ P b) (hq : ∀ k, (Value.slice da D.length dc).ownBlock = some k → ¬ P k) :
    DraftAt (w.setCell ⟨b, 0, none⟩ (.slice da D.length dc)) b P D R := by
  have hne : (Value.slice da D.length dc).ownBlock ≠ some b := fun e => by
    have := (ho.lt b e).1
    omega
  have h1 := block_setCell hb 0 (.slice da D.length dc)
  exact ⟨da, dc, a, c, h1, owns_setCell ho _ hne _, hr.step (P := P) (Step.setCell (p := ⟨b, 0, none⟩) (Step.refl _ w) (.inl ⟨Nat.le_refl _, hp⟩) _) (Nat.le_of_lt (lt_of_block hb)), hp, hq⟩
set_option maxHeartbeats 4000000 in
theorem take_any (b : Nat) (P : Nat → Prop) (D R : List Rg) (hl : D.length + R.length ≤ 1000000) (hx : ∀ x ∈ D ++ R, x.hi.length ≤ 1000000) (m : Mg) (hm : m.val.length ≤ maxLen) (w : World) (hP : ∀ j, P j → j < w.heap.size) (h : DraftAt w b P D R) :
    Calls Tryz.prog 50 #[.pointer (some ⟨b, 0, none⟩), .agg #[.int .i64 m.kind, .string (str m.key), .string (str m.val)]] w fun e w' => e = .returned (.tuple #[]) ∧ DraftAt w' b P (takeD m D R) (R.drop (passN m.key R)) ∧ Step (fun j => b ≤ j ∧ ¬ P j) w w' := by
  have hlt : b < w.heap.size := by obtain ⟨da, dc, a, c, hb, _⟩ := h; exact lt_of_block hb
  have cA := apply_any m hm
  have e0 : m.value = .agg #[.int .i64 m.kind, .string (str m.key), .string (str m.val)] := rfl
  rw [e0] at cA
  clear e0
  have W1 := fun o => hid (h.widen ((Step.refl noF w).alloc o))
  have HX := hid hx
  have HPP := hid hP
  obtain ⟨D1, hD1⟩ : ∃ D1, D ++ R.take (passN m.key R) = D1 := ⟨_, rfl⟩
  obtain ⟨R1, hR1⟩ : ∃ R1, R.drop (passN m.key R) = R1 := ⟨_, rfl⟩
  have HT : Hid (takeD m D R = liftD m.key D1 ++ (match m.appO (liftO m.key D1) with | none => [] | some v => [⟨m.key, v⟩])) := by show _ = _; unfold takeD; rw [hD1]
  have HL1 : Hid (D1.length ≤ 1000000) := by show _ ≤ _; rw [← hD1]; simp; omega
  have HV1 : Hid (((liftO m.key D1).getD []).length ≤ maxLen) := liftO_len _ _ (fun x hx => HX.out x (by
    rw [← hD1] at hx
    rcases List.mem_append.1 hx with h | h
    · simp [h]
    · simp [List.mem_of_mem_take h]))
  have cP := fun w1 hh h2 => pass_any b (fun k => P k ∨ k = w.heap.size) D R hl m.key w1 hh h2
  rw [hD1, hR1] at cP
  rw [hR1]
  have HDL := hid (liftD_len m.key D1)
  obtain ⟨o, hoo⟩ : ∃ o, liftO m.key D1 = o := ⟨_, rfl⟩
  rw [hoo] at HT HV1
  have HOO := hid hoo
  have cA2 := cA (o.getD []) HV1.out o.isSome
  obtain ⟨mk, my, mv⟩ := m
  clear cA hD1 hR1 hx hP h hoo
  simp only at W1 cP HT HV1 HDL HOO cA2 ⊢
  go_enter Tryz.func50, Tryz.ntmps50
  go_wp2_with fail
  refine (cP _ (by
    intro j hj
    rw [World.size_alloc]
    rcases hj with hj | hj
    · have := HPP.out j hj
      omega
    · omega) (W1 _).out).mono ?_
  rintro e w2 ⟨rfl, d2, s2⟩
  have D2 := hid d2
  have S2 := hid s2
  have T2 := hid ((s2.block w.heap.size (by rw [World.size_alloc]; omega) (fun x => x.2 (.inr rfl))).trans (trip_new w 37 ⟨mk, my, mv⟩))
  clear s2 d2
  obtain ⟨q0, q1, q2, _, _, _⟩ := TripAt.all (m := ⟨mk, my, mv⟩) T2.out
  have cL := lift_any b _ D1 R1 HL1.out my w2 D2.out
  rw [HOO.out] at cL
  go_wp2_with fail
  refine cL.mono ?_
  rintro e w3 ⟨rfl, d3, s3⟩
  have D3 := hid d3
  have z2 : w.heap.size < w2.heap.size := by have := S2.out.size; rw [World.size_alloc] at this; omega
  have T3 := hid ((s3.block w.heap.size z2 (fun x => x.2 (.inr rfl))).trans T2.out)
  have S3 := hid (S2.out.trans s3)
  clear s3 d3 cL q0 q1 q2 T2
  obtain ⟨q0, q1, q2, _, _, _⟩ := TripAt.all (m := ⟨mk, my, mv⟩) T3.out
  go_wp2_with fail
  refine (cA2 w3).mono ?_
  rintro e w4 ⟨rfl, s4⟩
  have S4 := hid s4
  have T4 := hid (TripAt.step (m := ⟨mk, my, mv⟩) T3.out s4)
  have D4 := hid (D3.out.stepNo s4)
  clear s4 q0 q1 q2 T3 D3 cA2
  obtain ⟨q0, q1, q2, _, _, _⟩ := T4.out.all
  have hsub : Hid (∀ k, P k → (P k ∨ k = w.heap.size)) := fun k h => .inl h
  have HST : Hid (Step (fun j => b ≤ j ∧ ¬ P j) w w4) := ((Step.refl (fun j => b ≤ j ∧ ¬ P j) w).alloc _).trans ((S3.out.mono (fun i hi => .inl ⟨hi.1, fun x => hi.2 (.inl x)⟩)).trans (S4.out.mono (fun i hi => hi.elim)))
  unfold Mg.appR
  obtain ⟨vv, hvv⟩ : ∃ vv, (Mg.mk mk my mv).appV (o.getD []) o.isSome = vv := ⟨_, rfl⟩
  have HAO : Hid ((Mg.mk mk my mv).appO o = if (Mg.mk mk my mv).appH o.isSome then some vv else none) := by show _ = _; unfold Mg.appO; rw [hvv]
  rw [hvv]
  clear hvv
  cases hap : (Mg.mk mk my mv).appH o.isSome
  · have HTT : Hid (takeD ⟨mk, my, mv⟩ D R = liftD my D1) := by
      show _ = _
      rw [HT.out, HAO.out, hap]
      simp
    clear hap
    go_wp2_with fail
    go_end0
    rw [HTT.out]
    exact ⟨rfl, D4.out.narrow hsub.out, HST.out⟩
  · have HTT : Hid (takeD ⟨mk, my, mv⟩ D R = liftD my D1 ++ [⟨my, vv⟩]) := by
      show _ = _
      rw [HT.out, HAO.out, hap]
      rfl
    clear hap
    obtain ⟨D', hD'⟩ : ∃ D', liftD my D1 = D' := ⟨_, rfl⟩
    have D5 := D4.out
    rw [hD'] at D5
    obtain ⟨da, dc, a, c, hb, ho, hr, hpb, hpo⟩ := D5
    obtain ⟨k0, k1, z0, z1⟩ := draft_cells hb
    have HB := hid hb
    have HO := hid ho
    have HR := hid hr
    have HPB := hid hpb
    have HPO := hid hpo
    have HLL : Hid (D'.length + [(⟨my, vv⟩ : Rg)].length ≤ 1000000000) := by
      have h1 := HDL.out
      have h2 := HL1.out
      rw [hD'] at h1
      show _ ≤ _
      simp
      omega
    have HD' := hid hD'
    have hk4 : ∀ oo, (w4.alloc oo).cell? ⟨b, 0, none⟩ = some (.slice da D'.length dc) := fun oo => cell_alloc k0 oo
    have hk5 : ∀ oo, (w4.alloc oo).cell? ⟨w.heap.size, 1, none⟩ = some (.string (str my)) := fun oo => cell_alloc q1 oo
    have hsz : Hid (b + 1 ≤ w4.heap.size ∧ w.heap.size < w4.heap.size) := ⟨lt_of_block HB.out, by have h1 := S4.out.size; have h2 := S3.out.size; rw [World.size_alloc] at h2; omega⟩
    clear hb ho hr hpb hpo hD'
    go_wp2_with fail
    go_region_law (refine step_append_it rfl (.tmp 31) (.tmp 36) rfl (b + 1) (.slice da D'.length dc) D' (by first | rfl | (simp [Act.eval]; done)) (by first | exact owns_step HO.out ((Step.refl noF w4).alloc _) (fun _ _ x => x) | exact owns_step HO.out (((Step.refl noF w4).alloc _).drew) (fun _ _ x => x)) (some ⟨w4.heap.size, 0, none⟩) 1 [⟨my, vv⟩] (by first | rfl | (simp [Act.eval]; done)) (by exact rgsAt_block (block_alloc_new w4 _) (rest := []) rfl) (by intro h; cases h) HLL.out (by have := hsz.out.1; show b + 1 ≤ (w4.alloc _).heap.size; rw [World.size_alloc]; omega) ?_; intro v' w' ho' hg' hf'; obtain ⟨hb', hs'⟩ := draft_app (P := P) (by exact (((Step.refl noF w4).alloc _).block b (lt_of_block HB.out) (fun x => x)).trans HB.out) (by first | exact owns_step HO.out ((Step.refl noF w4).alloc _) (fun _ _ x => x) | exact owns_step HO.out (((Step.refl noF w4).alloc _).drew) (fun _ _ x => x)) hg' (fun k hk hp => HPO.out k hk (.inl hp)); obtain ⟨e0, e1, e2, e3⟩ := draft_cells hb'; obtain ⟨ao, cc, rfl⟩ := owns_form ho'; have HB' := hid hb'; have HS' := hid hs'; have HO' := hid ho'; have HF' := hid hf'; clear hb' hs' ho' hg' hf')
    all_goals go_wp2_with fail
    all_goals go_end0
    all_goals
      rw [HTT.out, HD'.out]
      have st : Step (fun j => b ≤ j ∧ ¬ P j) w4 w' := (((Step.refl (fun j => b ≤ j ∧ ¬ P j) w4).alloc _).drew).trans HS'.out
      have hpb' : ¬ P b := fun x => HPB.out (.inl x)
      have hl1 : D'.length + 1 = (D' ++ [(⟨my, vv⟩ : Rg)]).length := by simp
      refine ⟨rfl, ?_, (HST.out.trans st).setCell (p := ⟨b, 0, none⟩) (.inl ⟨Nat.le_refl _, hpb'⟩) _⟩
      rw [hl1]
      refine draft_put1 HB'.out HO'.out (HR.out.step (P := P) st (Nat.le_of_lt hsz.out.1)) hpb' ?_
      refine fresh_out HF'.out (fun k hk hp => HPO.out k hk (.inl hp)) (fun j hj => ?_)
      have h1 := HPP.out j hj
      have h2 := hsz.out.2
      show j < (w4.alloc _).heap.size
      rw [World.size_alloc]
      omega
end Go.Proofs.YtnalillebemglaaGreat
namespace Go.Proofs.YtnalillebemglaaGreat
open Go.RowKit Go.Sort
set_option linter.unusedVariables false
set_option linter.unusedSimpArgs false
set_option maxRecDepth 20000

theorem take_with (m : Mg) (D R : List Rg) (hR : Rising (D ++ R)) (hD : ∀ x ∈ D, ¬ m.key < x.lo) : takeD m D R ++ R.drop (passN m.key R) = withOne m (D ++ R) ∧ ∀ x ∈ takeD m D R, ¬ m.key < x.lo := by
  obtain ⟨p1, p2⟩ := passed m.key D R hR hD
  have e : D ++ R = (D ++ R.take (passN m.key R)) ++ R.drop (passN m.key R) := by rw [List.append_assoc, List.take_append_drop]
  unfold takeD
  rw [e] at hR ⊢
  generalize D ++ R.take (passN m.key R) = D1 at *
  generalize R.drop (passN m.key R) = R1 at *
  have hself : ∀ x ∈ (match m.appO (liftO m.key D1) with | none => [] | some v => [(⟨m.key, v⟩ : Rg)]), x.lo = m.key := by
    intro x hx
    split at hx
    · simp at hx
    · simp at hx
      rw [hx]
  have hfin : (∀ x ∈ liftD m.key D1, ¬ m.key < x.lo) → ∀ x ∈ liftD m.key D1 ++ (match m.appO (liftO m.key D1) with | none => [] | some v => [(⟨m.key, v⟩ : Rg)]), ¬ m.key < x.lo := by
    intro h x hx
    rcases List.mem_append.1 hx with hx | hx
    · exact h x hx
    · rw [hself x hx]
      exact lt_irrefl'
  cases hl : D1.getLast? with
  | none =>
    obtain rfl : D1 = [] := List.getLast?_eq_none_iff.1 hl
    have e1 : liftO m.key [] = none := rfl
    have e2 : liftD m.key [] = [] := rfl
    refine ⟨?_, hfin (by rw [e2]; simp)⟩
    rw [e1, e2, withOne_new m [] R1 (by simp) p2]
    rfl
  | some z =>
    obtain ⟨E, rfl⟩ := List.getLast?_eq_some_iff.1 hl
    obtain ⟨r1, r2, r3⟩ := rising_join hR
    obtain ⟨s1, s2, s3⟩ := rising_join r1
    by_cases hz : z.lo = m.key
    · have e1 : liftO m.key (E ++ [z]) = some z.hi := by unfold liftO; rw [hl]; simp [hz]
      have e2 : liftD m.key (E ++ [z]) = E := by unfold liftD; rw [e1]; simp
      refine ⟨?_, hfin (by rw [e2]; intro x hx; exact p1 x (by simp [hx]))⟩
      have ez : z = ⟨m.key, z.hi⟩ := It.ext' hz rfl
      rw [e1, e2]
      conv => rhs; rw [ez]
      rw [withOne_old m E R1 z.hi (fun x hx => by rw [← hz]; exact s3 x hx z (by simp)) p2]
      rfl
    · have e1 : liftO m.key (E ++ [z]) = none := by unfold liftO; rw [hl]; simp [hz]
      have e2 : liftD m.key (E ++ [z]) = E ++ [z] := by unfold liftD; rw [e1]; simp
      refine ⟨?_, hfin (by rw [e2]; exact p1)⟩
      rw [e1, e2]
      have hzl : z.lo < m.key := lt_or' (p1 z (by simp)) (fun e => hz e.symm)
      rw [withOne_new m (E ++ [z]) R1 (fun x hx => by
        rcases List.mem_append.1 hx with h | h
        · exact lt_trans' (s3 x h z (by simp)) hzl
        · have : x = z := by simpa using h
          rw [this]
          exact hzl) p2]
      rfl
theorem withOne_len (m : Mg) (xs : List Rg) : (withOne m xs).length ≤ xs.length + 1 := by
  unfold withOne putO
  have : (restL m.key xs).length ≤ xs.length := List.length_filter_le _ _
  split
  · omega
  · rw [insL_length]
    omega
theorem withL_len (ms : List Mg) : ∀ xs : List Rg, (withL ms xs).length ≤ xs.length + ms.length := by
  induction ms with
  | nil => intro xs; exact Nat.le_refl _
  | cons m ms ih =>
    intro xs
    have h1 := ih (withOne m xs)
    have h2 := withOne_len m xs
    have e : withL (m :: ms) xs = withL ms (withOne m xs) := rfl
    rw [e, List.length_cons]
    omega
theorem ok_len {xs : List Rg} (h : ∀ x ∈ xs, itOk x = true) : ∀ x ∈ xs, x.lo.length ≤ 8 ∧ x.hi.length ≤ 16 := fun x hx => by
  have := h x hx
  simp [itOk, isK] at this
  omega

set_option maxHeartbeats 4000000 in
theorem each_any (b : Nat) (xs : List Rg) (hR : Rising xs) (hok : ∀ x ∈ xs, itOk x = true) (hl : xs.length ≤ 400000) (ys : List Mg) (hy : ∀ m ∈ ys, m.is = true) (hu : Up Mg.key ys) (hyl : ys.length ≤ 400000) (a : Option Addr) (c : Nat) (w : World) (hr : MsgsAt w (fun k => b ≤ k) a ys) (h : DraftAt w b (fun _ => False) [] xs) :
    Calls Tryz.prog 49 #[.slice a ys.length c, .func (.func 50) #[.pointer (some ⟨b, 0, none⟩)] #[]] w fun e w' => e = .returned (.tuple #[]) ∧ (∃ D R, D ++ R = withL ys xs ∧ DraftAt w' b (fun _ => False) D R) ∧ Step (fun j => b ≤ j ∧ ¬ False) w w' := by
  have HR := hid hr
  have HD := hid h
  have HRI := hid hR
  have HOK := hid hok
  have HY := hid hy
  have HU := hid hu
  clear hr h hR hok hy hu
  go_enter Tryz.func49, Tryz.ntmps49
  go_wp2_with fail
  go_loopw [8] (fun i wr => ∃ (j : Nat) (D R : List Rg), j ≤ ys.length ∧ i = .int .i64 j ∧ Hid (D ++ R = withL (ys.take j) xs) ∧ Hid (∀ q (h : q < ys.length), j ≤ q → ∀ x ∈ D, ¬ ys[q].key < x.lo) ∧ Hid (DraftAt wr b (fun _ => False) D R) ∧ Hid (Step (fun j => b ≤ j ∧ ¬ False) w wr)) (fun i _ => ys.length - (intOf i).toNat)
  case atStart => exact ⟨0, [], xs, Nat.zero_le _, rfl, (by show _ = _; rfl), (by intro q h _ x hx; simp at hx), HD, Step.refl _ _⟩
  case round =>
    obtain ⟨j, D, R, hj, rfl, HE, HK, HDr, HS⟩ := hrel
    by_cases hjl : j < ys.length
    · obtain ⟨g, off, rfl, c0, c1, c2⟩ := (HR.out.step HS.out (fun k hk => hk.1)).at j hjl
      have hmi := HY.out ys[j] (List.getElem_mem hjl)
      have HLn : Hid ((D ++ R).length ≤ 800000) := by
        show _ ≤ _
        rw [HE.out]
        have := withL_len (ys.take j) xs
        rw [List.length_take] at this
        omega
      have HRi : Hid (Rising (D ++ R)) := by show Rising _; rw [HE.out]; exact withL_rising _ _ HRI.out
      have HOk : Hid (∀ x ∈ D ++ R, itOk x = true) := by
        intro x hx
        rw [HE.out] at hx
        exact withL_ok (ys.take j) (fun m hm => HY.out m (List.mem_of_mem_take hm)) xs HOK.out x hx
      have HT := hid (take_with ys[j] D R HRi.out (HK.out j hjl (Nat.le_refl _)))
      have HN : Hid (withL (ys.take (j + 1)) xs = withOne ys[j] (D ++ R)) := by
        show _ = _
        rw [List.take_succ_eq_append_getElem hjl, withL_snoc, HE.out]
      have HU2 : Hid (∀ q (h : q < ys.length), j + 1 ≤ q → ¬ ys[q].key < ys[j].key) := fun q hq hjq => up_at HU.out (i := j) (j := q) hq (by omega)
      have cT := fun w1 h1 => take_any b (fun _ => False) D R (by have := HLn.out; rw [List.length_append] at this; omega) (fun x hx => by have := ok_len HOk.out x hx; omega) ys[j] (Mg.val_max hmi) w1 (fun _ hh => hh.elim) h1
      obtain ⟨⟨mk, my, mv⟩, hm⟩ : ∃ m, ys[j] = m := ⟨_, rfl⟩
      rw [hm] at c0 c1 c2 HT HN HU2 cT
      clear hm hmi
      simp only at c0 c1 c2 cT
      go_wp2_with fail
      refine (cT _ (HDr.out.stepNo ((Step.refl noF wr).alloc _))).mono ?_
      rintro e w2 ⟨rfl, d2, s2⟩
      have D2 := hid d2
      have S2 := hid (((HS.out.alloc _).trans s2))
      clear d2 s2 cT
      go_wp2_with fail
      go_roundw
      case rel =>
        refine ⟨j + 1, takeD ⟨mk, my, mv⟩ D R, R.drop (passN my R), by omega, int_eq (by omega), ?_, ?_, D2, S2⟩
        · show _ = _
          rw [HN.out]
          exact HT.out.1
        · intro q hq hjq x hx
          have h1 := HT.out.2 x hx
          have h2 := HU2.out q hq hjq
          grind
      case measure => simp [intOf]; omega
    · obtain rfl : j = ys.length := by omega
      go_wp2_with fail
      go_end0
      refine ⟨rfl, ⟨D, R, ?_, HDr.out⟩, HS.out⟩
      have := HE.out
      rw [List.take_of_length_le (Nat.le_refl _)] at this
      exact this

set_option maxHeartbeats 4000000 in
theorem draftLeaf_any (b : Nat) (D R : List Rg) (hl : D.length + R.length ≤ 1000000) (w : World) (h : DraftAt w b (fun _ => False) D R) :
    Calls Tryz.prog 51 #[.pointer (some ⟨b, 0, none⟩)] w fun e w' => ∃ p, e = .returned (.pointer (some ⟨p, 0, none⟩)) ∧ w.heap.size ≤ p ∧ LeafAt w' p (D ++ R) ∧ Step noF w w' := by
  obtain ⟨da, dc, a, c, hb, ho, hr, _, _⟩ := h
  obtain ⟨k0, k1, _, _⟩ := draft_cells hb
  have hbs : b ≤ w.heap.size := Nat.le_of_lt (lt_of_block hb)
  obtain ⟨_, _, hv, _, hnok, r1⟩ := owns_rgs ho
  injection hv with e1 _ e2
  subst e1
  subst e2
  have r2 := hr.rgs hbs
  have n2 : a = none → c = 0 := by
    rintro rfl
    rcases hr with ⟨_, h, _⟩ | ⟨_, _, h, _⟩
    · exact h
    · cases h
  have hc : ∀ n, Calls Tryz.prog 78 #[.slice (some ⟨w.heap.size, 0, none⟩) 2 2] ((w.drewN n).alloc (.cells #[.slice da D.length dc, .slice a R.length c] 40)) fun e w' => ∃ a' c', e = .returned (.slice a' (D ++ R).length c') ∧ Hid (w'.ownsRow w.heap.size 42 2 (.slice a' (D ++ R).length c') (D ++ R).length (rgs (D ++ R))) ∧ Hid (Step noF w w') := fun n => by
    have st : Step noF w ((w.drewN n).alloc (.cells #[.slice da D.length dc, .slice a R.length c] 40)) := ((Step.refl noF w).drewN n).alloc _
    obtain ⟨e0, e1⟩ := two_new (w.drewN n) (.slice da D.length dc) (.slice a R.length c) 40
    refine (concat_any _ D R hl da a dc c 2 _ e0 e1 (r1.step st) (r2.step st) hnok.1 n2).mono ?_
    rintro e w' ⟨v, rfl, o, s⟩
    obtain ⟨a', c', rfl⟩ := owns_form o
    exact ⟨a', c', rfl, owns_weak o (by simp), st.trans s⟩
  clear hb ho hr hnok r1 r2 n2
  go_enter Tryz.func51, Tryz.ntmps51
  go_wp2_with fail
  go_region_with (go_at_call 78; refine (hc _).mono ?_; rintro e w3 ⟨a3, c3, rfl, o3, s3⟩)
  all_goals go_wp2_with fail
  all_goals go_ret
  all_goals exact ⟨w3.heap.size, rfl, s3.out.size, leafAt_new (base := w.heap.size) (by rw [← List.length_append]; exact o3.out), s3.out.alloc _⟩

/-- What With answers. -/
def WithPost (w : World) (ms : List Mg) (xs : List Rg) (e : Ending) (w' : World) : Prop :=
  (ms.all Mg.is = false ∧ e = .returned (.tuple #[.pointer none, .int .i64 1])) ∨ (ms.all Mg.is = true ∧ ∃ p, e = .returned (.tuple #[.pointer (some ⟨p, 0, none⟩), .int .i64 0]) ∧ w.heap.size ≤ p ∧ LeafAt w' p (withL ms xs))
theorem with_nil (a : Option Addr) (n c : Nat) (w : World) : Calls Tryz.prog 21 #[.pointer none, .slice a n c] w fun e w' => e = .returned (.tuple #[.pointer none, .int .i64 2]) ∧ w = w' := by
  go_enter Tryz.func21, Tryz.ntmps21
  go_wp2
  go_ret2
  exact ⟨rfl, rfl⟩
theorem rowBelow_leaf {w w' : World} {a : Option Addr} {c : Nat} {xs : List Rg} (h1 : xs.length ≤ c) (h2 : NilOk w a c) (h3 : RgsAt w a xs) (hs : Step noF w w') : RowBelow w' w.heap.size a c xs := by
  cases a with
  | none =>
    obtain rfl : xs = [] := by
      rcases h3 with h | ⟨b, off, h, _⟩
      · exact h
      · cases h
    exact .inl ⟨rfl, h2.1 rfl, rfl⟩
  | some ad =>
    obtain ⟨g, off, rfl, hg⟩ := h2.2 ad rfl
    refine .inr ⟨g, off, rfl, hg, h1, fun j hj => ?_⟩
    obtain ⟨b, o, e, c0, c1⟩ := h3.at j hj
    injection e with e
    injection e with e1 e2
    subst e1
    subst e2
    exact ⟨hs.after c0, hs.after c1⟩
set_option maxHeartbeats 4000000 in
theorem with_any (p : Nat) (xs : List Rg) (hR : Rising xs) (hok : ∀ x ∈ xs, itOk x = true) (hl : xs.length ≤ 400000) (ms : List Mg) (hms : ∀ m ∈ ms, m.val.length ≤ maxLen) (hml : ms.length ≤ 400000) (a : Option Addr) (c : Nat) (hc : a = none → c = 0) (w : World) (h : LeafAt w p xs) (hr : MsgsAt w noF a ms) :
    Calls Tryz.prog 21 #[.pointer (some ⟨p, 0, none⟩), .slice a ms.length c] w fun e w' => WithPost w ms xs e w' ∧ Step noF w w' := by
  have c1 := containsMs_any ms hms (by omega) a c w hr
  have HL := hid h
  have HR := hid hr
  have HC := hid hc
  have HRI := hid hR
  have HOK := hid hok
  clear h hr hc hR hok
  cases hall : ms.all Mg.is
  · rw [hall] at c1
    have HA := hid hall
    clear hall
    go_enter Tryz.func21, Tryz.ntmps21
    go_wp2_with fail
    refine c1.mono ?_
    rintro e w2 ⟨rfl, s2⟩
    have S2 := hid s2
    clear s2
    go_wp2_with fail
    go_ret2
    exact ⟨.inl ⟨HA.out, rfl⟩, S2.out⟩
  · rw [hall] at c1
    have HA := hid hall
    have HIS : Hid (∀ m ∈ ms, m.is = true) := List.all_eq_true.1 hall
    clear hall
    go_enter Tryz.func21, Tryz.ntmps21
    go_wp2_with fail
    refine c1.mono ?_
    rintro e w2 ⟨rfl, s2⟩
    have S2 := hid s2
    clear s2
    go_wp2_with fail
    refine (cloneMs_any ms (by omega) a c w2 (HR.out.step S2.out (fun _ h => h)) HC.out).mono ?_
    rintro e w3 ⟨v, rfl, o3, s3⟩
    have O3 := hid o3
    have S3 := hid s3
    clear o3 s3
    obtain ⟨va, vc, rfl⟩ := owns_form O3.out
    go_wp2_with fail
    refine (sortMs_any ms (by omega) _ _ w3 O3.out).mono ?_
    rintro e w4 ⟨rfl, ys, hal, hup, hyl, o4, s4⟩
    have HAL := hid hal
    have HUP := hid hup
    have HYL := hid hyl
    have O4 := hid o4
    have S4 : Hid (Step noF w w4) := S2.out.trans (S3.out.then s4 (fun i hi => .inr ((O3.out.lt i hi).1)))
    clear hal hup hyl o4 s4
    obtain ⟨la, lc, k1, kc, kn, kr⟩ := (HL.out.step S4.out).cell
    have HKC := hid kc
    have HKN := hid kn
    have HKR := hid kr
    clear kc kn kr
    have hk1 : ∀ o, (w4.alloc o).cell? ⟨p, 0, none⟩ = some (.slice la xs.length lc) := fun o => cell_alloc k1 o
    go_wp2_with fail
    have HM : Hid (MsgsAt (w4.alloc (.cells #[.slice none 0 0, .slice la xs.length lc] 92)) (fun k => w4.heap.size ≤ k) va ys) := by
      obtain ⟨a1, c1, e1, _, m1⟩ := msgsAt_owns (ms := ys) (show w4.ownsRow _ 37 3 (.slice va ms.length vc) ys.length (msgs ys) by rw [HYL.out]; exact O4.out) rfl
      injection e1 with e1 _ _
      subst e1
      rcases m1 with h | ⟨g, off, rfl, _, hg, hcells⟩
      · exact .inl h
      · have st := (Step.refl noF w4).alloc (.cells #[.slice none 0 0, .slice la xs.length lc] 92)
        refine .inr ⟨g, off, rfl, by simp; omega, Nat.lt_of_lt_of_le hg st.size, fun j hj => ?_⟩
        obtain ⟨b0, b1, b2⟩ := hcells j hj
        exact ⟨st.after b0, st.after b1, st.after b2⟩
    have HDR : Hid (DraftAt (w4.alloc (.cells #[.slice none 0 0, .slice la xs.length lc] 92)) w4.heap.size (fun _ => False) [] xs) :=
      ⟨none, 0, la, lc, block_alloc_new w4 _, World.ownsRow_nil _ _ _ _, rowBelow_leaf HKC.out HKN.out HKR.out ((Step.refl noF w4).alloc _), fun h => h, fun _ _ h => h⟩
    have cE := each_any w4.heap.size xs HRI.out HOK.out hl ys (fun m hm => HIS.out m (HAL.out.mem m hm)) HUP.out (by rw [HYL.out]; exact hml) va vc _ HM.out HDR.out
    rw [HYL.out] at cE
    refine cE.mono ?_
    rintro e w5 ⟨rfl, ⟨D, R, hDR, d5⟩, s5⟩
    have D5 := hid d5
    have HDD := hid hDR
    have S5 : Hid (Step noF w w5) := (S4.out.alloc (.cells #[.slice none 0 0, .slice la xs.length lc] 92)).then s5 (fun i hi => .inr (Nat.le_trans S4.out.size hi.1))
    clear d5 s5 hDR cE
    have hDl : Hid (D.length + R.length ≤ 1000000) := by
      show _ ≤ _
      rw [← List.length_append, HDD.out]
      have := withL_len ys xs
      have := HYL.out
      omega
    go_wp2_with fail
    refine (draftLeaf_any w4.heap.size D R hDl.out w5 D5.out).mono ?_
    rintro e w6 ⟨r, rfl, hr6, l6, s6⟩
    have L6 := hid l6
    have S6 := hid (S5.out.trans s6)
    clear l6 s6
    go_wp2_with fail
    go_ret2
    refine ⟨.inr ⟨HA.out, r, rfl, Nat.le_trans S5.out.size hr6, ?_⟩, S6.out⟩
    have e : withL ys xs = withL ms xs := withL_same ys ms xs HRI.out HAL.out
    rw [← e, ← HDD.out]
    exact L6.out
end Go.Proofs.YtnalillebemglaaGreat
namespace Go.Proofs.YtnalillebemglaaGreat
open Go.RowKit Go.Sort
set_option linter.unusedVariables false
set_option linter.unusedSimpArgs false
set_option maxRecDepth 20000

def awL : List Rg := [⟨[97], [49]⟩, ⟨[98], [50]⟩]
def awM : List Rg := [⟨[98], [50]⟩, ⟨[99], [51]⟩]
theorem awL_rising : Rising awL := by
  unfold Rising awL
  simp
  decide
theorem awM_rising : Rising awM := by
  unfold Rising awM
  simp
  decide
theorem awL_ok : ∀ x ∈ awL, itOk x = true := by decide
theorem awM_ok : ∀ x ∈ awM, itOk x = true := by decide
theorem aw_of (w : World) : Calls Tryz.prog 19 #[.slice (some ⟨w.heap.size, 0, none⟩) 2 2] (w.alloc (.cells #[.string ⟨#[98]⟩, .string ⟨#[50]⟩, .string ⟨#[97]⟩, .string ⟨#[49]⟩] 42)) fun e w' => ∃ p, e = .returned (.tuple #[.pointer (some ⟨p, 0, none⟩), .int .i64 0]) ∧ Hid (LeafAt w' p awL) ∧ Hid (Step noF w w') := by
  have hr : RgsAt (w.alloc (.cells #[.string ⟨#[98]⟩, .string ⟨#[50]⟩, .string ⟨#[97]⟩, .string ⟨#[49]⟩] 42)) (some ⟨w.heap.size, 0, none⟩) [⟨[98], [50]⟩, ⟨[97], [49]⟩] := rgsAt_block (block_alloc_new w _) (rest := []) rfl
  refine (leafOf_any [⟨[98], [50]⟩, ⟨[97], [49]⟩] (by simp) _ 2 _ hr (by intro h; cases h)).mono ?_
  rintro e w' ⟨s, h⟩
  have e0 : ofE [⟨[98], [50]⟩, ⟨[97], [49]⟩] = 0 := by decide
  rcases h with ⟨h, _⟩ | ⟨_, p, rfl, _, l⟩
  · exact absurd e0 h
  · have es : sortL [⟨[98], [50]⟩, ⟨[97], [49]⟩] = awL := by rfl
    rw [es] at l
    exact ⟨p, rfl, l, ((Step.refl noF w).alloc _).trans s⟩
theorem aw_twin (w : World) : Calls Tryz.prog 19 #[.slice (some ⟨w.heap.size, 0, none⟩) 2 2] (w.alloc (.cells #[.string ⟨#[97]⟩, .string ⟨#[49]⟩, .string ⟨#[97]⟩, .string ⟨#[50]⟩] 42)) fun e w' => e = .returned (.tuple #[.pointer none, .int .i64 11]) ∧ Hid (Step noF w w') := by
  have hr : RgsAt (w.alloc (.cells #[.string ⟨#[97]⟩, .string ⟨#[49]⟩, .string ⟨#[97]⟩, .string ⟨#[50]⟩] 42)) (some ⟨w.heap.size, 0, none⟩) [⟨[97], [49]⟩, ⟨[97], [50]⟩] := rgsAt_block (block_alloc_new w _) (rest := []) rfl
  refine (leafOf_any [⟨[97], [49]⟩, ⟨[97], [50]⟩] (by simp) _ 2 _ hr (by intro h; cases h)).mono ?_
  rintro e w' ⟨s, h⟩
  have e0 : ofE [⟨[97], [49]⟩, ⟨[97], [50]⟩] = 11 := by decide
  rcases h with ⟨_, rfl⟩ | ⟨h, _⟩
  · rw [e0]
    exact ⟨rfl, ((Step.refl noF w).alloc _).trans s⟩
  · rw [e0] at h
    cases h
theorem aw_with (p : Nat) (w : World) (h : LeafAt w p awL) : Calls Tryz.prog 21 #[.pointer (some ⟨p, 0, none⟩), .slice (some ⟨w.heap.size, 0, none⟩) 2 2] (w.alloc (.cells #[.int .i64 2, .string ⟨#[97]⟩, .string ⟨#[]⟩, .int .i64 1, .string ⟨#[99]⟩, .string ⟨#[51]⟩] 37)) fun e w' => ∃ q, e = .returned (.tuple #[.pointer (some ⟨q, 0, none⟩), .int .i64 0]) ∧ Hid (LeafAt w' q awM) ∧ Hid (Step noF w w') := by
  have st := (Step.refl noF w).alloc (.cells #[.int .i64 2, .string ⟨#[97]⟩, .string ⟨#[]⟩, .int .i64 1, .string ⟨#[99]⟩, .string ⟨#[51]⟩] 37)
  have hb := block_alloc_new w (.cells #[.int .i64 2, .string ⟨#[97]⟩, .string ⟨#[]⟩, .int .i64 1, .string ⟨#[99]⟩, .string ⟨#[51]⟩] 37)
  have hr : MsgsAt (w.alloc (.cells #[.int .i64 2, .string ⟨#[97]⟩, .string ⟨#[]⟩, .int .i64 1, .string ⟨#[99]⟩, .string ⟨#[51]⟩] 37)) noF (some ⟨w.heap.size, 0, none⟩) [⟨2, [97], []⟩, ⟨1, [99], [51]⟩] := by
    refine .inr ⟨w.heap.size, 0, rfl, fun h => h, lt_of_block hb, fun j hj => ?_⟩
    have : j = 0 ∨ j = 1 := by simp at hj; omega
    rcases this with rfl | rfl
    · exact ⟨by rw [cell_of_block hb]; rfl, by rw [cell_of_block hb]; rfl, by rw [cell_of_block hb]; rfl⟩
    · exact ⟨by rw [cell_of_block hb]; rfl, by rw [cell_of_block hb]; rfl, by rw [cell_of_block hb]; rfl⟩
  refine (with_any p awL awL_rising awL_ok (by simp [awL]) [⟨2, [97], []⟩, ⟨1, [99], [51]⟩] (by intro m hm; simp at hm; rcases hm with rfl | rfl <;> exact le_max (by simp)) (by simp) _ 2 (by intro h; cases h) _ (h.step st) hr).mono ?_
  rintro e w' ⟨hp, s⟩
  rcases hp with ⟨h0, _⟩ | ⟨_, q, rfl, _, l⟩
  · exact absurd h0 (by decide)
  · have es : withL [⟨2, [97], []⟩, ⟨1, [99], [51]⟩] awL = awM := by rfl
    rw [es] at l
    exact ⟨q, rfl, l, st.trans s⟩
end Go.Proofs.YtnalillebemglaaGreat
