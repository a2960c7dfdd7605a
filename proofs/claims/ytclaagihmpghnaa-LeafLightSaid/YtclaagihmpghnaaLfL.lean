/-
  A leaf that is still made: take, each, leaf; With.
-/
import Derived.Test.YtclaagihmpghnaaLfK
namespace Go.Proofs.Ytclaagihmpghnaa
open Go.RowKit Go.Sort
set_option linter.unusedVariables false
set_option linter.unusedSimpArgs false
set_option maxRecDepth 20000

theorem DraftAt.widen {w w' : World} {b : Nat} {P : Nat → Prop} {D R : List Rg} (h : DraftAt w b P D R) (hs : Step noF w w') : DraftAt w' b (fun k => P k ∨ k = w.heap.size) D R := by
  have h' := h.stepNo hs
  obtain ⟨da, dc, a, c, hb, ho, hr, hpb, hpo⟩ := h
  obtain ⟨da', dc', a', c', hb', ho', hr', hpb', hpo'⟩ := h'
  have e := hb'.symm.trans ((hs.block b (lt_of_block hb) (fun x => x)).trans hb)
  have ev : Value.slice da' D.length dc' = Value.slice da D.length dc := by
    injection e with e
    injection e with e _ _
    have := congrArg (fun A : Array Value => A[0]?) e
    simpa using this
  have hlt := lt_of_block hb
  refine ⟨da', dc', a', c', hb', ho', hr', fun x => ?_, fun k hk x => ?_⟩
  · rcases x with x | x
    · exact hpb x
    · omega
  · rcases x with x | x
    · exact hpo' k hk x
    · rw [ev] at hk
      have := (ho.lt k hk).2
      omega
theorem DraftAt.narrow {w : World} {b : Nat} {P Q : Nat → Prop} {D R : List Rg} (h : DraftAt w b P D R) (hq : ∀ k, Q k → P k) : DraftAt w b Q D R := by
  obtain ⟨da, dc, a, c, hb, ho, hr, hpb, hpo⟩ := h
  exact ⟨da, dc, a, c, hb, ho, hr, fun x => hpb (hq _ x), fun k hk x => hpo k hk (hq _ x)⟩
/-- What is done behind a message. -/
def takeD (m : Mg) (D R : List Rg) : List Rg := liftD m.key (D ++ R.take (passN m.key R)) ++ (match m.appO (liftO m.key (D ++ R.take (passN m.key R))) with | none => [] | some v => [⟨m.key, v⟩])
theorem liftD_len (k : List UInt8) (D : List Rg) : (liftD k D).length ≤ D.length := by
  unfold liftD
  split
  · simp
  · exact Nat.le_refl _
theorem liftO_len (k : List UInt8) (D : List Rg) (h : ∀ x ∈ D, x.hi.length ≤ 1000000) : ((liftO k D).getD []).length ≤ maxLen := by
  unfold liftO
  split
  · simp
  · rename_i z hz
    have hm := h z (List.mem_of_getLast? hz)
    split
    · exact le_max (by simp; omega)
    · simp
theorem draft_put1 {w : World} {b : Nat} {P : Nat → Prop} {D R : List Rg} {da a : Option Addr} {dc c : Nat} {x : Value} (hb : w.heap[b]? = some (.cells #[x, .slice a R.length c] 82 (0, 0))) (ho : w.ownsRow (b + 1) 46 2 (.slice da D.length dc) D.length (rgs D)) (hr : RowBelow w b a c R) (hp : ¬ P b) (hq : ∀ k, (Value.slice da D.length dc).ownBlock = some k → ¬ P k) :
    DraftAt (w.setCell ⟨b, 0, none⟩ (.slice da D.length dc)) b P D R := by
  have hne : (Value.slice da D.length dc).ownBlock ≠ some b := fun e => by
    have := (ho.lt b e).1
    omega
  have h1 := block_setCell hb 0 (.slice da D.length dc)
  exact ⟨da, dc, a, c, h1, owns_setCell ho _ hne _, hr.step (P := P) (Step.setCell (p := ⟨b, 0, none⟩) (Step.refl _ w) (.inl ⟨Nat.le_refl _, hp⟩) _) (Nat.le_of_lt (lt_of_block hb)), hp, hq⟩
set_option maxHeartbeats 4000000 in
theorem take_any (b : Nat) (P : Nat → Prop) (D R : List Rg) (hl : D.length + R.length ≤ 1000000) (hx : ∀ x ∈ D ++ R, x.hi.length ≤ 1000000) (m : Mg) (hm : m.val.length ≤ maxLen) (w : World) (hP : ∀ j, P j → j < w.heap.size) (h : DraftAt w b P D R) :
    Calls Try.prog 50 #[.pointer (some ⟨b, 0, none⟩), .agg #[.int .i64 m.kind, .string (str m.key), .string (str m.val)]] w fun e w' => e = .returned (.tuple #[]) ∧ DraftAt w' b P (takeD m D R) (R.drop (passN m.key R)) ∧ Step (fun j => b ≤ j ∧ ¬ P j) w w' := by
  have hlt : b < w.heap.size := by obtain ⟨da, dc, a, c, hb, _⟩ := h; exact lt_of_block hb
  have cA := apply_any m hm
  have e0 : m.value = .agg #[.int .i64 m.kind, .string (str m.key), .string (str m.val)] := rfl
  rw [e0] at cA
  clear e0
  have W1 := fun o => hid (h.widen ((Step.refl noF w).alloc o))
  have HX := hid hx
  have HPP := hid hP
  obtain ⟨D1, hD1⟩ : ∃ D1, D ++ R.take (passN m.key R) = D1 := ⟨_, rfl⟩
  obtain ⟨R1, hR1⟩ : ∃ R1, R.drop (passN m.key R) = R1 := ⟨_, rfl⟩
  have HT : Hid (takeD m D R = liftD m.key D1 ++ (match m.appO (liftO m.key D1) with | none => [] | some v => [⟨m.key, v⟩])) := by show _ = _; unfold takeD; rw [hD1]
  have HL1 : Hid (D1.length ≤ 1000000) := by show _ ≤ _; rw [← hD1]; simp; omega
  have HV1 : Hid (((liftO m.key D1).getD []).length ≤ maxLen) := liftO_len _ _ (fun x hx => HX.out x (by
    rw [← hD1] at hx
    rcases List.mem_append.1 hx with h | h
    · simp [h]
    · simp [List.mem_of_mem_take h]))
  have cP := fun w1 hh h2 => pass_any b (fun k => P k ∨ k = w.heap.size) D R hl m.key w1 hh h2
  rw [hD1, hR1] at cP
  rw [hR1]
  have HDL := hid (liftD_len m.key D1)
  obtain ⟨o, hoo⟩ : ∃ o, liftO m.key D1 = o := ⟨_, rfl⟩
  rw [hoo] at HT HV1
  have HOO := hid hoo
  have cA2 := cA (o.getD []) HV1.out o.isSome
  obtain ⟨mk, my, mv⟩ := m
  clear cA hD1 hR1 hx hP h hoo
  simp only at W1 cP HT HV1 HDL HOO cA2 ⊢
  go_enter Try.func50, Try.ntmps50
  go_wp2_with fail
  refine (cP _ (by
    intro j hj
    rw [World.size_alloc]
    rcases hj with hj | hj
    · have := HPP.out j hj
      omega
    · omega) (W1 _).out).mono ?_
  rintro e w2 ⟨rfl, d2, s2⟩
  have D2 := hid d2
  have S2 := hid s2
  have T2 := hid ((s2.block w.heap.size (by rw [World.size_alloc]; omega) (fun x => x.2 (.inr rfl))).trans (trip_new w 58 ⟨mk, my, mv⟩))
  clear s2 d2
  obtain ⟨q0, q1, q2, _, _, _⟩ := TripAt.all (m := ⟨mk, my, mv⟩) T2.out
  have cL := lift_any b _ D1 R1 HL1.out my w2 D2.out
  rw [HOO.out] at cL
  go_wp2_with fail
  refine cL.mono ?_
  rintro e w3 ⟨rfl, d3, s3⟩
  have D3 := hid d3
  have z2 : w.heap.size < w2.heap.size := by have := S2.out.size; rw [World.size_alloc] at this; omega
  have T3 := hid ((s3.block w.heap.size z2 (fun x => x.2 (.inr rfl))).trans T2.out)
  have S3 := hid (S2.out.trans s3)
  clear s3 d3 cL q0 q1 q2 T2
  obtain ⟨q0, q1, q2, _, _, _⟩ := TripAt.all (m := ⟨mk, my, mv⟩) T3.out
  go_wp2_with fail
  refine (cA2 w3).mono ?_
  rintro e w4 ⟨rfl, s4⟩
  have S4 := hid s4
  have T4 := hid (TripAt.step (m := ⟨mk, my, mv⟩) T3.out s4)
  have D4 := hid (D3.out.stepNo s4)
  clear s4 q0 q1 q2 T3 D3 cA2
  obtain ⟨q0, q1, q2, _, _, _⟩ := T4.out.all
  have hsub : Hid (∀ k, P k → (P k ∨ k = w.heap.size)) := fun k h => .inl h
  have HST : Hid (Step (fun j => b ≤ j ∧ ¬ P j) w w4) := ((Step.refl (fun j => b ≤ j ∧ ¬ P j) w).alloc _).trans ((S3.out.mono (fun i hi => .inl ⟨hi.1, fun x => hi.2 (.inl x)⟩)).trans (S4.out.mono (fun i hi => hi.elim)))
  unfold Mg.appR
  obtain ⟨vv, hvv⟩ : ∃ vv, (Mg.mk mk my mv).appV (o.getD []) o.isSome = vv := ⟨_, rfl⟩
  have HAO : Hid ((Mg.mk mk my mv).appO o = if (Mg.mk mk my mv).appH o.isSome then some vv else none) := by show _ = _; unfold Mg.appO; rw [hvv]
  rw [hvv]
  clear hvv
  cases hap : (Mg.mk mk my mv).appH o.isSome
  · have HTT : Hid (takeD ⟨mk, my, mv⟩ D R = liftD my D1) := by
      show _ = _
      rw [HT.out, HAO.out, hap]
      simp
    clear hap
    go_wp2_with fail
    go_end0
    rw [HTT.out]
    exact ⟨rfl, D4.out.narrow hsub.out, HST.out⟩
  · have HTT : Hid (takeD ⟨mk, my, mv⟩ D R = liftD my D1 ++ [⟨my, vv⟩]) := by
      show _ = _
      rw [HT.out, HAO.out, hap]
      rfl
    clear hap
    obtain ⟨D', hD'⟩ : ∃ D', liftD my D1 = D' := ⟨_, rfl⟩
    have D5 := D4.out
    rw [hD'] at D5
    obtain ⟨da, dc, a, c, hb, ho, hr, hpb, hpo⟩ := D5
    obtain ⟨k0, k1, z0, z1⟩ := draft_cells hb
    have HB := hid hb
    have HO := hid ho
    have HR := hid hr
    have HPB := hid hpb
    have HPO := hid hpo
    have HLL : Hid (D'.length + [(⟨my, vv⟩ : Rg)].length ≤ 1000000000) := by
      have h1 := HDL.out
      have h2 := HL1.out
      rw [hD'] at h1
      show _ ≤ _
      simp
      omega
    have HD' := hid hD'
    have hk4 : ∀ oo, (w4.alloc oo).cell? ⟨b, 0, none⟩ = some (.slice da D'.length dc) := fun oo => cell_alloc k0 oo
    have hk5 : ∀ oo, (w4.alloc oo).cell? ⟨w.heap.size, 1, none⟩ = some (.string (str my)) := fun oo => cell_alloc q1 oo
    have hsz : Hid (b + 1 ≤ w4.heap.size ∧ w.heap.size < w4.heap.size) := ⟨lt_of_block HB.out, by have h1 := S4.out.size; have h2 := S3.out.size; rw [World.size_alloc] at h2; omega⟩
    clear hb ho hr hpb hpo hD'
    go_wp2_with fail
    go_region_law (refine step_append_it rfl (.tmp 31) (.tmp 36) rfl (b + 1) (.slice da D'.length dc) D' (by first | rfl | (simp [Act.eval]; done)) (by first | exact owns_step HO.out ((Step.refl noF w4).alloc _) (fun _ _ x => x) | exact owns_step HO.out (((Step.refl noF w4).alloc _).drew) (fun _ _ x => x)) (some ⟨w4.heap.size, 0, none⟩) 1 [⟨my, vv⟩] (by first | rfl | (simp [Act.eval]; done)) (by exact rgsAt_block (block_alloc_new w4 _) (rest := []) rfl) (by intro h; cases h) HLL.out (by have := hsz.out.1; show b + 1 ≤ (w4.alloc _).heap.size; rw [World.size_alloc]; omega) ?_; intro v' w' ho' hg' hf'; obtain ⟨hb', hs'⟩ := draft_app (P := P) (by exact (((Step.refl noF w4).alloc _).block b (lt_of_block HB.out) (fun x => x)).trans HB.out) (by first | exact owns_step HO.out ((Step.refl noF w4).alloc _) (fun _ _ x => x) | exact owns_step HO.out (((Step.refl noF w4).alloc _).drew) (fun _ _ x => x)) hg' (fun k hk hp => HPO.out k hk (.inl hp)); obtain ⟨e0, e1, e2, e3⟩ := draft_cells hb'; obtain ⟨ao, cc, rfl⟩ := owns_form ho'; have HB' := hid hb'; have HS' := hid hs'; have HO' := hid ho'; have HF' := hid hf'; clear hb' hs' ho' hg' hf')
    all_goals go_wp2_with fail
    all_goals go_end0
    all_goals
      rw [HTT.out, HD'.out]
      have st : Step (fun j => b ≤ j ∧ ¬ P j) w4 w' := (((Step.refl (fun j => b ≤ j ∧ ¬ P j) w4).alloc _).drew).trans HS'.out
      have hpb' : ¬ P b := fun x => HPB.out (.inl x)
      have hl1 : D'.length + 1 = (D' ++ [(⟨my, vv⟩ : Rg)]).length := by simp
      refine ⟨rfl, ?_, (HST.out.trans st).setCell (p := ⟨b, 0, none⟩) (.inl ⟨Nat.le_refl _, hpb'⟩) _⟩
      rw [hl1]
      refine draft_put1 HB'.out HO'.out (HR.out.step (P := P) st (Nat.le_of_lt hsz.out.1)) hpb' ?_
      refine fresh_out HF'.out (fun k hk hp => HPO.out k hk (.inl hp)) (fun j hj => ?_)
      have h1 := HPP.out j hj
      have h2 := hsz.out.2
      show j < (w4.alloc _).heap.size
      rw [World.size_alloc]
      omega
end Go.Proofs.Ytclaagihmpghnaa
