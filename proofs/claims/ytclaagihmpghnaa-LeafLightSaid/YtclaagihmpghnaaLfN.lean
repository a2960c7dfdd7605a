/-
  A leaf that is still made: each, leaf; With.
-/
import Derived.Test.YtclaagihmpghnaaLfL
namespace Go.Proofs.Ytclaagihmpghnaa
open Go.RowKit Go.Sort
set_option linter.unusedVariables false
set_option linter.unusedSimpArgs false
set_option maxRecDepth 20000

theorem take_with (m : Mg) (D R : List Rg) (hR : Rising (D ++ R)) (hD : ∀ x ∈ D, ¬ m.key < x.lo) : takeD m D R ++ R.drop (passN m.key R) = withOne m (D ++ R) ∧ ∀ x ∈ takeD m D R, ¬ m.key < x.lo := by
  obtain ⟨p1, p2⟩ := passed m.key D R hR hD
  have e : D ++ R = (D ++ R.take (passN m.key R)) ++ R.drop (passN m.key R) := by rw [List.append_assoc, List.take_append_drop]
  unfold takeD
  rw [e] at hR ⊢
  generalize D ++ R.take (passN m.key R) = D1 at *
  generalize R.drop (passN m.key R) = R1 at *
  have hself : ∀ x ∈ (match m.appO (liftO m.key D1) with | none => [] | some v => [(⟨m.key, v⟩ : Rg)]), x.lo = m.key := by
    intro x hx
    split at hx
    · simp at hx
    · simp at hx
      rw [hx]
  have hfin : (∀ x ∈ liftD m.key D1, ¬ m.key < x.lo) → ∀ x ∈ liftD m.key D1 ++ (match m.appO (liftO m.key D1) with | none => [] | some v => [(⟨m.key, v⟩ : Rg)]), ¬ m.key < x.lo := by
    intro h x hx
    rcases List.mem_append.1 hx with hx | hx
    · exact h x hx
    · rw [hself x hx]
      exact lt_irrefl'
  cases hl : D1.getLast? with
  | none =>
    obtain rfl : D1 = [] := List.getLast?_eq_none_iff.1 hl
    have e1 : liftO m.key [] = none := rfl
    have e2 : liftD m.key [] = [] := rfl
    refine ⟨?_, hfin (by rw [e2]; simp)⟩
    rw [e1, e2, withOne_new m [] R1 (by simp) p2]
    rfl
  | some z =>
    obtain ⟨E, rfl⟩ := List.getLast?_eq_some_iff.1 hl
    obtain ⟨r1, r2, r3⟩ := rising_join hR
    obtain ⟨s1, s2, s3⟩ := rising_join r1
    by_cases hz : z.lo = m.key
    · have e1 : liftO m.key (E ++ [z]) = some z.hi := by unfold liftO; rw [hl]; simp [hz]
      have e2 : liftD m.key (E ++ [z]) = E := by unfold liftD; rw [e1]; simp
      refine ⟨?_, hfin (by rw [e2]; intro x hx; exact p1 x (by simp [hx]))⟩
      have ez : z = ⟨m.key, z.hi⟩ := It.ext' hz rfl
      rw [e1, e2]
      conv => rhs; rw [ez]
      rw [withOne_old m E R1 z.hi (fun x hx => by rw [← hz]; exact s3 x hx z (by simp)) p2]
      rfl
    · have e1 : liftO m.key (E ++ [z]) = none := by unfold liftO; rw [hl]; simp [hz]
      have e2 : liftD m.key (E ++ [z]) = E ++ [z] := by unfold liftD; rw [e1]; simp
      refine ⟨?_, hfin (by rw [e2]; exact p1)⟩
      rw [e1, e2]
      have hzl : z.lo < m.key := lt_or' (p1 z (by simp)) (fun e => hz e.symm)
      rw [withOne_new m (E ++ [z]) R1 (fun x hx => by
        rcases List.mem_append.1 hx with h | h
        · exact lt_trans' (s3 x h z (by simp)) hzl
        · have : x = z := by simpa using h
          rw [this]
          exact hzl) p2]
      rfl
theorem withOne_len (m : Mg) (xs : List Rg) : (withOne m xs).length ≤ xs.length + 1 := by
  unfold withOne putO
  have : (restL m.key xs).length ≤ xs.length := List.length_filter_le _ _
  split
  · omega
  · rw [insL_length]
    omega
theorem withL_len (ms : List Mg) : ∀ xs : List Rg, (withL ms xs).length ≤ xs.length + ms.length := by
  induction ms with
  | nil => intro xs; exact Nat.le_refl _
  | cons m ms ih =>
    intro xs
    have h1 := ih (withOne m xs)
    have h2 := withOne_len m xs
    have e : withL (m :: ms) xs = withL ms (withOne m xs) := rfl
    rw [e, List.length_cons]
    omega
theorem ok_len {xs : List Rg} (h : ∀ x ∈ xs, itOk x = true) : ∀ x ∈ xs, x.lo.length ≤ 8 ∧ x.hi.length ≤ 16 := fun x hx => by
  have := h x hx
  simp [itOk, isK] at this
  omega

set_option maxHeartbeats 4000000 in
theorem each_any (b : Nat) (xs : List Rg) (hR : Rising xs) (hok : ∀ x ∈ xs, itOk x = true) (hl : xs.length ≤ 400000) (ys : List Mg) (hy : ∀ m ∈ ys, m.is = true) (hu : Up Mg.key ys) (hyl : ys.length ≤ 400000) (a : Option Addr) (c : Nat) (w : World) (hr : MsgsAt w (fun k => b ≤ k) a ys) (h : DraftAt w b (fun _ => False) [] xs) :
    Calls Try.prog 49 #[.slice a ys.length c, .func (.func 50) #[.pointer (some ⟨b, 0, none⟩)] #[]] w fun e w' => e = .returned (.tuple #[]) ∧ (∃ D R, D ++ R = withL ys xs ∧ DraftAt w' b (fun _ => False) D R) ∧ Step (fun j => b ≤ j ∧ ¬ False) w w' := by
  have HR := hid hr
  have HD := hid h
  have HRI := hid hR
  have HOK := hid hok
  have HY := hid hy
  have HU := hid hu
  clear hr h hR hok hy hu
  go_enter Try.func49, Try.ntmps49
  go_wp2_with fail
  go_loopw [8] (fun i wr => ∃ (j : Nat) (D R : List Rg), j ≤ ys.length ∧ i = .int .i64 j ∧ Hid (D ++ R = withL (ys.take j) xs) ∧ Hid (∀ q (h : q < ys.length), j ≤ q → ∀ x ∈ D, ¬ ys[q].key < x.lo) ∧ Hid (DraftAt wr b (fun _ => False) D R) ∧ Hid (Step (fun j => b ≤ j ∧ ¬ False) w wr)) (fun i _ => ys.length - (intOf i).toNat)
  case atStart => exact ⟨0, [], xs, Nat.zero_le _, rfl, (by show _ = _; rfl), (by intro q h _ x hx; simp at hx), HD, Step.refl _ _⟩
  case round =>
    obtain ⟨j, D, R, hj, rfl, HE, HK, HDr, HS⟩ := hrel
    by_cases hjl : j < ys.length
    · obtain ⟨g, off, rfl, c0, c1, c2⟩ := (HR.out.step HS.out (fun k hk => hk.1)).at j hjl
      have hmi := HY.out ys[j] (List.getElem_mem hjl)
      have HLn : Hid ((D ++ R).length ≤ 800000) := by
        show _ ≤ _
        rw [HE.out]
        have := withL_len (ys.take j) xs
        rw [List.length_take] at this
        omega
      have HRi : Hid (Rising (D ++ R)) := by show Rising _; rw [HE.out]; exact withL_rising _ _ HRI.out
      have HOk : Hid (∀ x ∈ D ++ R, itOk x = true) := by
        intro x hx
        rw [HE.out] at hx
        exact withL_ok (ys.take j) (fun m hm => HY.out m (List.mem_of_mem_take hm)) xs HOK.out x hx
      have HT := hid (take_with ys[j] D R HRi.out (HK.out j hjl (Nat.le_refl _)))
      have HN : Hid (withL (ys.take (j + 1)) xs = withOne ys[j] (D ++ R)) := by
        show _ = _
        rw [List.take_succ_eq_append_getElem hjl, withL_snoc, HE.out]
      have HU2 : Hid (∀ q (h : q < ys.length), j + 1 ≤ q → ¬ ys[q].key < ys[j].key) := fun q hq hjq => up_at HU.out (i := j) (j := q) hq (by omega)
      have cT := fun w1 h1 => take_any b (fun _ => False) D R (by have := HLn.out; rw [List.length_append] at this; omega) (fun x hx => by have := ok_len HOk.out x hx; omega) ys[j] (Mg.val_max hmi) w1 (fun _ hh => hh.elim) h1
      obtain ⟨⟨mk, my, mv⟩, hm⟩ : ∃ m, ys[j] = m := ⟨_, rfl⟩
      rw [hm] at c0 c1 c2 HT HN HU2 cT
      clear hm hmi
      simp only at c0 c1 c2 cT
      go_wp2_with fail
      refine (cT _ (HDr.out.stepNo ((Step.refl noF wr).alloc _))).mono ?_
      rintro e w2 ⟨rfl, d2, s2⟩
      have D2 := hid d2
      have S2 := hid (((HS.out.alloc _).trans s2))
      clear d2 s2 cT
      go_wp2_with fail
      go_roundw
      case rel =>
        refine ⟨j + 1, takeD ⟨mk, my, mv⟩ D R, R.drop (passN my R), by omega, int_eq (by omega), ?_, ?_, D2, S2⟩
        · show _ = _
          rw [HN.out]
          exact HT.out.1
        · intro q hq hjq x hx
          have h1 := HT.out.2 x hx
          have h2 := HU2.out q hq hjq
          grind
      case measure => simp [intOf]; omega
    · obtain rfl : j = ys.length := by omega
      go_wp2_with fail
      go_end0
      refine ⟨rfl, ⟨D, R, ?_, HDr.out⟩, HS.out⟩
      have := HE.out
      rw [List.take_of_length_le (Nat.le_refl _)] at this
      exact this

set_option maxHeartbeats 4000000 in
theorem draftLeaf_any (b : Nat) (D R : List Rg) (hl : D.length + R.length ≤ 1000000) (w : World) (h : DraftAt w b (fun _ => False) D R) :
    Calls Try.prog 51 #[.pointer (some ⟨b, 0, none⟩)] w fun e w' => ∃ p, e = .returned (.pointer (some ⟨p, 0, none⟩)) ∧ w.heap.size ≤ p ∧ LeafAt w' p (D ++ R) ∧ Step noF w w' := by
  obtain ⟨da, dc, a, c, hb, ho, hr, _, _⟩ := h
  obtain ⟨k0, k1, _, _⟩ := draft_cells hb
  have hbs : b ≤ w.heap.size := Nat.le_of_lt (lt_of_block hb)
  obtain ⟨_, _, hv, _, hnok, r1⟩ := owns_rgs ho
  injection hv with e1 _ e2
  subst e1
  subst e2
  have r2 := hr.rgs hbs
  have n2 : a = none → c = 0 := by
    rintro rfl
    rcases hr with ⟨_, h, _⟩ | ⟨_, _, h, _⟩
    · exact h
    · cases h
  have hc : ∀ n, Calls Try.prog 58 #[.slice (some ⟨w.heap.size, 0, none⟩) 2 2] ((w.drewN n).alloc (.cells #[.slice da D.length dc, .slice a R.length c] 22)) fun e w' => ∃ a' c', e = .returned (.slice a' (D ++ R).length c') ∧ Hid (w'.ownsRow w.heap.size 46 2 (.slice a' (D ++ R).length c') (D ++ R).length (rgs (D ++ R))) ∧ Hid (Step noF w w') := fun n => by
    have st : Step noF w ((w.drewN n).alloc (.cells #[.slice da D.length dc, .slice a R.length c] 22)) := ((Step.refl noF w).drewN n).alloc _
    obtain ⟨e0, e1⟩ := two_new (w.drewN n) (.slice da D.length dc) (.slice a R.length c) 22
    refine (concat_any _ D R hl da a dc c 2 _ e0 e1 (r1.step st) (r2.step st) hnok.1 n2).mono ?_
    rintro e w' ⟨v, rfl, o, s⟩
    obtain ⟨a', c', rfl⟩ := owns_form o
    exact ⟨a', c', rfl, owns_weak o (by simp), st.trans s⟩
  clear hb ho hr hnok r1 r2 n2
  go_enter Try.func51, Try.ntmps51
  go_wp2_with fail
  go_region_with (go_at_call 58; refine (hc _).mono ?_; rintro e w3 ⟨a3, c3, rfl, o3, s3⟩)
  all_goals go_wp2_with fail
  all_goals go_ret
  all_goals exact ⟨w3.heap.size, rfl, s3.out.size, leafAt_new (base := w.heap.size) (by rw [← List.length_append]; exact o3.out), s3.out.alloc _⟩

/-- What With answers. -/
def WithPost (w : World) (ms : List Mg) (xs : List Rg) (e : Ending) (w' : World) : Prop :=
  (ms.all Mg.is = false ∧ e = .returned (.tuple #[.pointer none, .int .i64 1])) ∨ (ms.all Mg.is = true ∧ ∃ p, e = .returned (.tuple #[.pointer (some ⟨p, 0, none⟩), .int .i64 0]) ∧ w.heap.size ≤ p ∧ LeafAt w' p (withL ms xs))
theorem with_nil (a : Option Addr) (n c : Nat) (w : World) : Calls Try.prog 20 #[.pointer none, .slice a n c] w fun e w' => e = .returned (.tuple #[.pointer none, .int .i64 2]) ∧ w = w' := by
  go_enter Try.func20, Try.ntmps20
  go_wp2
  go_ret2
  exact ⟨rfl, rfl⟩
theorem rowBelow_leaf {w w' : World} {a : Option Addr} {c : Nat} {xs : List Rg} (h1 : xs.length ≤ c) (h2 : NilOk w a c) (h3 : RgsAt w a xs) (hs : Step noF w w') : RowBelow w' w.heap.size a c xs := by
  cases a with
  | none =>
    obtain rfl : xs = [] := by
      rcases h3 with h | ⟨b, off, h, _⟩
      · exact h
      · cases h
    exact .inl ⟨rfl, h2.1 rfl, rfl⟩
  | some ad =>
    obtain ⟨g, off, rfl, hg⟩ := h2.2 ad rfl
    refine .inr ⟨g, off, rfl, hg, h1, fun j hj => ?_⟩
    obtain ⟨b, o, e, c0, c1⟩ := h3.at j hj
    injection e with e
    injection e with e1 e2
    subst e1
    subst e2
    exact ⟨hs.after c0, hs.after c1⟩
set_option maxHeartbeats 4000000 in
theorem with_any (p : Nat) (xs : List Rg) (hR : Rising xs) (hok : ∀ x ∈ xs, itOk x = true) (hl : xs.length ≤ 400000) (ms : List Mg) (hms : ∀ m ∈ ms, m.val.length ≤ maxLen) (hml : ms.length ≤ 400000) (a : Option Addr) (c : Nat) (hc : a = none → c = 0) (w : World) (h : LeafAt w p xs) (hr : MsgsAt w noF a ms) :
    Calls Try.prog 20 #[.pointer (some ⟨p, 0, none⟩), .slice a ms.length c] w fun e w' => WithPost w ms xs e w' ∧ Step noF w w' := by
  have c1 := containsMs_any ms hms (by omega) a c w hr
  have HL := hid h
  have HR := hid hr
  have HC := hid hc
  have HRI := hid hR
  have HOK := hid hok
  clear h hr hc hR hok
  cases hall : ms.all Mg.is
  · rw [hall] at c1
    have HA := hid hall
    clear hall
    go_enter Try.func20, Try.ntmps20
    go_wp2_with fail
    refine c1.mono ?_
    rintro e w2 ⟨rfl, s2⟩
    have S2 := hid s2
    clear s2
    go_wp2_with fail
    go_ret2
    exact ⟨.inl ⟨HA.out, rfl⟩, S2.out⟩
  · rw [hall] at c1
    have HA := hid hall
    have HIS : Hid (∀ m ∈ ms, m.is = true) := List.all_eq_true.1 hall
    clear hall
    go_enter Try.func20, Try.ntmps20
    go_wp2_with fail
    refine c1.mono ?_
    rintro e w2 ⟨rfl, s2⟩
    have S2 := hid s2
    clear s2
    go_wp2_with fail
    refine (cloneMs_any ms (by omega) a c w2 (HR.out.step S2.out (fun _ h => h)) HC.out).mono ?_
    rintro e w3 ⟨v, rfl, o3, s3⟩
    have O3 := hid o3
    have S3 := hid s3
    clear o3 s3
    obtain ⟨va, vc, rfl⟩ := owns_form O3.out
    go_wp2_with fail
    refine (sortMs_any ms (by omega) _ _ w3 O3.out).mono ?_
    rintro e w4 ⟨rfl, ys, hal, hup, hyl, o4, s4⟩
    have HAL := hid hal
    have HUP := hid hup
    have HYL := hid hyl
    have O4 := hid o4
    have S4 : Hid (Step noF w w4) := S2.out.trans (S3.out.then s4 (fun i hi => .inr ((O3.out.lt i hi).1)))
    clear hal hup hyl o4 s4
    obtain ⟨la, lc, k1, kc, kn, kr⟩ := (HL.out.step S4.out).cell
    have HKC := hid kc
    have HKN := hid kn
    have HKR := hid kr
    clear kc kn kr
    have hk1 : ∀ o, (w4.alloc o).cell? ⟨p, 0, none⟩ = some (.slice la xs.length lc) := fun o => cell_alloc k1 o
    go_wp2_with fail
    have HM : Hid (MsgsAt (w4.alloc (.cells #[.slice none 0 0, .slice la xs.length lc] 82)) (fun k => w4.heap.size ≤ k) va ys) := by
      obtain ⟨a1, c1, e1, _, m1⟩ := msgsAt_owns (ms := ys) (show w4.ownsRow _ 58 3 (.slice va ms.length vc) ys.length (msgs ys) by rw [HYL.out]; exact O4.out) rfl
      injection e1 with e1 _ _
      subst e1
      rcases m1 with h | ⟨g, off, rfl, _, hg, hcells⟩
      · exact .inl h
      · have st := (Step.refl noF w4).alloc (.cells #[.slice none 0 0, .slice la xs.length lc] 82)
        refine .inr ⟨g, off, rfl, by simp; omega, Nat.lt_of_lt_of_le hg st.size, fun j hj => ?_⟩
        obtain ⟨b0, b1, b2⟩ := hcells j hj
        exact ⟨st.after b0, st.after b1, st.after b2⟩
    have HDR : Hid (DraftAt (w4.alloc (.cells #[.slice none 0 0, .slice la xs.length lc] 82)) w4.heap.size (fun _ => False) [] xs) :=
      ⟨none, 0, la, lc, block_alloc_new w4 _, World.ownsRow_nil _ _ _ _, rowBelow_leaf HKC.out HKN.out HKR.out ((Step.refl noF w4).alloc _), fun h => h, fun _ _ h => h⟩
    have cE := each_any w4.heap.size xs HRI.out HOK.out hl ys (fun m hm => HIS.out m (HAL.out.mem m hm)) HUP.out (by rw [HYL.out]; exact hml) va vc _ HM.out HDR.out
    rw [HYL.out] at cE
    refine cE.mono ?_
    rintro e w5 ⟨rfl, ⟨D, R, hDR, d5⟩, s5⟩
    have D5 := hid d5
    have HDD := hid hDR
    have S5 : Hid (Step noF w w5) := (S4.out.alloc (.cells #[.slice none 0 0, .slice la xs.length lc] 82)).then s5 (fun i hi => .inr (Nat.le_trans S4.out.size hi.1))
    clear d5 s5 hDR cE
    have hDl : Hid (D.length + R.length ≤ 1000000) := by
      show _ ≤ _
      rw [← List.length_append, HDD.out]
      have := withL_len ys xs
      have := HYL.out
      omega
    go_wp2_with fail
    refine (draftLeaf_any w4.heap.size D R hDl.out w5 D5.out).mono ?_
    rintro e w6 ⟨r, rfl, hr6, l6, s6⟩
    have L6 := hid l6
    have S6 := hid (S5.out.trans s6)
    clear l6 s6
    go_wp2_with fail
    go_ret2
    refine ⟨.inr ⟨HA.out, r, rfl, Nat.le_trans S5.out.size hr6, ?_⟩, S6.out⟩
    have e : withL ys xs = withL ms xs := withL_same ys ms xs HRI.out HAL.out
    rw [← e, ← HDD.out]
    exact L6.out
end Go.Proofs.Ytclaagihmpghnaa
