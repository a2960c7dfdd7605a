/-
  Over of merge.
-/
import Derived.Test.YtnalillebemglaaGreatMgH
import Derived.Test.YtnalillebemglaaGreatLfK
namespace Go.Proofs.YtnalillebemglaaGreat
open Go.RowKit Go.Sort
set_option linter.unusedVariables false
set_option linter.unusedSimpArgs false
set_option maxRecDepth 20000

theorem ofE_zeroR {xs : List Rg} (h : ofE xs = 0) : (∀ x ∈ xs, itOk x = true) ∧ (keysL xs).Nodup := by
  unfold ofE at h
  by_cases h1 : xs.all itOk = true
  · rw [if_pos h1] at h
    by_cases h2 : (keysL xs).Nodup
    · exact ⟨List.all_eq_true.1 h1, h2⟩
    · rw [if_neg h2] at h; cases h
  · rw [if_neg h1] at h; cases h
theorem ofE_up {xs : List Rg} (h : upI xs = true) : ofE xs = 0 ∨ ofE xs = 1 := by
  unfold ofE
  by_cases h1 : xs.all itOk = true
  · rw [if_pos h1, if_pos (rising_nodup xs ((upI_iff xs).1 h))]; exact .inl rfl
  · rw [if_neg h1]; exact .inr rfl
/-- Over's error. -/
def overE (xs : List Rg) (rs : List (List Mg)) : Int := if ofE xs = 0 then (if upI xs then chkR rs else 11) else ofE xs
/-- What Over answers. -/
def OverPost (xs : List Rg) (rs : List (List Mg)) (e : Ending) (w' : World) : Prop :=
  (overE xs rs ≠ 0 ∧ e = .returned (.tuple #[.slice none 0 0, .int .i64 (overE xs rs)])) ∨
  (overE xs rs = 0 ∧ ∃ a2 c2, e = .returned (.tuple #[.slice a2 (withL (msgsR rs) xs).length c2, .int .i64 0]) ∧ (a2 = none → c2 = 0) ∧ (withL (msgsR rs) xs).length ≤ c2 ∧ RgsAt w' a2 (withL (msgsR rs) xs))
set_option maxHeartbeats 4000000 in
theorem mOver_any (xs : List Rg) (hl : xs.length ≤ 400000) (a : Option Addr) (c : Nat) (hc : a = none → c = 0) (rs : List (List Mg)) (hF : FewR rs) (hlr : leftR rs ≤ 400000) (b : Option Addr) (d : Nat) (w : World) (hx : RgsAt w a xs) (h : RunsAt w b rs) :
    Calls Tryz.prog 16 #[.slice a xs.length c, .slice b rs.length d] w fun e w' => OverPost xs rs e w' ∧ Step noF w w' := by
  have cO := leafOf_any xs (by omega) a c w hx hc
  have cR := fun W (hW : Step noF w W) => risesI_any xs (by omega) a c W (hx.step hW)
  have cM := fun W (hW : Step noF w W) => mMsgs_any rs hF b d W (h.step hW)
  have HL := hid (And.intro hl hlr)
  obtain ⟨n, hn⟩ : ∃ n, xs.length = n := ⟨_, rfl⟩
  rw [hn] at cO cR ⊢
  have HN := hid hn
  clear hx h hn hl
  go_enter Tryz.func16, Tryz.ntmps16
  go_wp2_with fail
  refine cO.mono ?_
  rintro e w2 ⟨s2, hp⟩
  have S2 := hid s2
  clear s2 cO
  rcases hp with ⟨h0, rfl⟩ | ⟨h0, p, rfl, hp1, hp2⟩
  · obtain ⟨E, hE⟩ : ∃ E, ofE xs = E := ⟨_, rfl⟩
    have HE := hid hE
    rw [hE] at h0 ⊢
    have hEb : (E == 0) = false := by rw [beq_eq_false_iff_ne]; exact h0
    have HO : Hid (overE xs rs = E) := by
      show _ = _
      unfold overE
      rw [hE, if_neg h0]
    clear hE
    go_wp2_with fail
    go_ret2
    exact ⟨.inl ⟨by rw [HO.out]; exact h0, by rw [HO.out]; rfl⟩, S2.out⟩
  · have HP := hid hp2
    have H0 := hid h0
    clear hp2 h0 hp1
    go_wp2_with fail
    refine (cR _ S2.out).mono ?_
    rintro e w3 ⟨rfl, s3⟩
    have S3 := hid (S2.out.trans s3)
    have HP3 := hid (HP.out.step s3)
    obtain ⟨U, hU⟩ : ∃ U, upI xs = U := ⟨_, rfl⟩
    have HU := hid hU
    rw [hU]
    clear s3 hU cR
    cases U
    · have HO : Hid (overE xs rs = 11) := by
        show _ = _
        unfold overE
        rw [H0.out, HU.out]
        rfl
      go_wp2_with fail
      go_ret2
      exact ⟨.inl ⟨by rw [HO.out]; decide, by rw [HO.out]; rfl⟩, S3.out⟩
    · have HO : Hid (overE xs rs = chkR rs) := by
        show _ = _
        unfold overE
        rw [H0.out, HU.out]
        rfl
      go_wp2_with fail
      refine (cM _ S3.out).mono ?_
      rintro e w4 ⟨s4, hq⟩
      have S4 := hid (S3.out.trans s4)
      have HP4 := hid (HP3.out.step s4)
      clear s4 cM
      rcases hq with ⟨k0, rfl⟩ | ⟨k0, a2, c2, rfl, q1, q2, q3⟩
      · obtain ⟨E, hE⟩ : ∃ E, chkR rs = E := ⟨_, rfl⟩
        have HE := hid hE
        rw [hE] at k0 ⊢
        have hEb : (E == 0) = false := by rw [beq_eq_false_iff_ne]; exact k0
        clear hE
        go_wp2_with fail
        go_ret2
        exact ⟨.inl ⟨by rw [HO.out, HE.out]; exact k0, by rw [HO.out, HE.out]; rfl⟩, S4.out⟩
      · have hR : Rising xs := (upI_iff xs).1 HU.out
        obtain ⟨hok, _⟩ := ofE_zeroR H0.out
        have hOK := chkR_ok k0
        have hG := (msgsR_good hOK).1
        have hP := HP4.out
        rw [sortL_of_rising xs hR] at hP
        have hml := msgsR_len rs
        have hlw := withL_len (msgsR rs) xs
        have cW := with_any p xs hR hok HL.out.1 (msgsR rs) (fun m hm => Mg.val_max (hG m hm)) (by have := HL.out.2; omega) a2 c2 q1 w4 hP q3
        have cI := fun p W (h : LeafAt W p (withL (msgsR rs) xs)) => items_any p (withL (msgsR rs) xs) (by have := HL.out; omega) W h
        have HO2 : Hid (overE xs rs = 0) := by show _ = _; rw [HO.out, k0]
        have HALL : Hid ((msgsR rs).all Mg.is = true) := List.all_eq_true.2 hG
        obtain ⟨M, hM⟩ : ∃ M, (msgsR rs).length = M := ⟨_, rfl⟩
        rw [hM] at cW ⊢
        clear hR hok hOK hG hP hml hlw q1 q2 q3 hM k0
        go_wp2_with fail
        refine cW.mono ?_
        rintro e w5 ⟨hw, s5⟩
        have S5 := hid (S4.out.trans s5)
        clear s5 cW
        rcases hw with ⟨h1, _⟩ | ⟨_, p5, rfl, hp1, hp5⟩
        · rw [HALL.out] at h1
          cases h1
        · have HP5 := hid hp5
          clear hp5 hp1
          go_wp2_with fail
          refine (cI _ _ HP5.out).mono ?_
          rintro e w6 ⟨v6, rfl, o6, s6⟩
          have S6 := hid (S5.out.trans s6)
          obtain ⟨a6, c6, rfl, k1, k2, k3⟩ := owns_rgs o6
          have HK := hid (And.intro k1 (And.intro k2 k3))
          clear s6 o6 k1 k2 k3 cI
          go_wp2_with fail
          go_ret2
          exact ⟨.inr ⟨HO2.out, a6, c6, rfl, HK.out.2.1.1, HK.out.1, HK.out.2.2⟩, S6.out⟩
end Go.Proofs.YtnalillebemglaaGreat
