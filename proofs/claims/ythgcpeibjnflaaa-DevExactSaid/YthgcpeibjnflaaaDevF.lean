/-
  What a device does, 4: Cut and Flush of every device, goesOn, Write, Fuse, At; of nil.
-/
import Derived.Test.YthgcpeibjnflaaaDevE
namespace Go.Proofs.Ythgcpeibjnflaaa
open Go.RowKit
set_option linter.unusedVariables false

set_option maxHeartbeats 400000 in
theorem cut_nil (w : World) (v : Value) : Calls Try.prog 13 #[.pointer none, v] w fun e w' => e = .returned (.tuple #[]) ∧ w = w' := by
  go_enter Try.func13, Try.ntmps13
  go_wp2
  refine bodyPost_ret (results_none rfl _ _ _) rfl ?_
  exact ⟨rfl, rfl⟩
set_option maxHeartbeats 400000 in
theorem cut_off (w : World) (R : Nat → Nat) (o p : Nat) (d : Dv) (h : IsDev w R o p d) (hon : d.on = false) (v : Value) : Calls Try.prog 13 #[.pointer (some ⟨p, 0, none⟩), v] w fun e w' => e = .returned (.tuple #[]) ∧ w = w' := by
  obtain ⟨bs, cs, bl, cl, lv, fp, h5, _⟩ := h
  obtain ⟨c0, c1, c2, c3, c4, c5, c6, c7⟩ := dev_cells h5
  clear h5
  rw [hon] at c3
  go_enter Try.func13, Try.ntmps13
  go_wp2
  refine bodyPost_ret (results_none rfl _ _ _) rfl ?_
  exact ⟨rfl, rfl⟩
theorem cut_any (w : World) (R : Nat → Nat) (o p : Nat) (d : Dv) (h : IsDev w R o p d) (hw : Wf d) (a : Option Addr) (c : Nat) (ks : List Bool) (hc : ks.length ≤ c) (hkl : ks.length ≤ 1000) (hr : RowAt w (fun k => o < R k ∧ R k ≤ o + 3) a (bools ks)) :
    Calls Try.prog 13 #[.pointer (some ⟨p, 0, none⟩), .slice a ks.length c] w fun e w' => e = .returned (.tuple #[]) ∧ Step (Rng R o) w w' ∧ IsDev w' R o p (cutD d ks) := by
  cases hon : d.on
  · refine (cut_off w R o p d h hon _).mono ?_
    rintro e w' ⟨rfl, rfl⟩
    exact ⟨rfl, Step.refl _ _, by simpa [cutD, hon] using h⟩
  · exact cut_on w R o p d h hw hon a c ks hc hkl hr

/-- Whether a write or a flush happens now, and what it leaves. -/
def goB (d : Dv) : Bool := d.on && (match d.fuse with | some (0, _) => false | _ => true)
def goD (d : Dv) : Dv := if d.on then (match d.fuse with | none => d | some (0, ks) => cutD d ks | some (n + 1, ks) => { d with fuse := some (n, ks) }) else d

set_option maxHeartbeats 1000000 in
theorem goesOn_any (w : World) (R : Nat → Nat) (o p : Nat) (d : Dv) (h : IsDev w R o p d) (hw : Wf d) :
    Calls Try.prog 29 #[.pointer (some ⟨p, 0, none⟩)] w fun e w' => e = .returned (.bool (goB d)) ∧ Step (Rng R o) w w' ∧ IsDev w' R o p (goD d) := by
  have H := hid h
  have hcut := fun a c ks => cut_any w R o p d h hw a c ks
  obtain ⟨bs, cs, bl, cl, lv, fp, h5, hP⟩ := h
  have hp := hid (lt_of_block h5)
  obtain ⟨c0, c1, c2, c3, c4, c5, c6, c7⟩ := dev_cells h5
  cases hon : d.on
  · rw [hon] at c3
    clear h5 hP hcut
    go_enter Try.func29, Try.ntmps29
    go_wp2
    go_ret
    exact ⟨ret_bool (by simp [goB, hon]), Step.refl _ _, by simpa [goD, hon] using H.out⟩
  · rw [hon] at c3
    obtain ⟨r1, r2, r3, r4, q1, q2, q3, q4, q5⟩ := hP
    cases hf : d.fuse with
    | none =>
      rw [hf] at q4
      obtain rfl : fp = none := q4
      clear h5 hcut
      go_enter Try.func29, Try.ntmps29
      go_wp2
      go_ret
      exact ⟨ret_bool (by simp [goB, hon, hf]), Step.refl _ _, by simpa [goD, hon, hf] using H.out⟩
    | some x =>
      obtain ⟨n, ks⟩ := x
      have hfu := hw.fu n ks hf
      rw [hf] at q4
      obtain ⟨f, ka, kc, rfl, rf, hfb, hkc, hkr⟩ := q4
      have y0 : w.cell? ⟨f, 0, none⟩ = some (.int .i64 n) := cell_of_block hfb 0
      have y1 : w.cell? ⟨f, 1, none⟩ = some (.slice ka ks.length kc) := cell_of_block hfb 1
      cases n with
      | zero =>
        have hc := hcut ka kc ks hkc hfu.2 (rowAt_keep hkr (fun k hk hF => ⟨rfl, fun x => by have : R k = o + 6 := Classical.not_not.1 hF; omega⟩))
        clear hcut h5 hfb
        go_enter Try.func29, Try.ntmps29
        go_wp2_with (go_at_call 13; refine hc.mono ?_; rintro e w1 ⟨rfl, s1, hd⟩)
        go_ret
        exact ⟨ret_bool (by simp [goB, hon, hf]), s1, by simpa [goD, hon, hf] using hd⟩
      | succ n =>
        have f0 := frozen_of_block hfb 0
        have H5 := hid h5
        have hne : ((n + 1 : Nat) : Int) ≠ 0 := by omega
        have hne2 : (((n + 1 : Nat) : Int) == 0) = false := by simp; omega
        have hn1 := hfu.1
        obtain ⟨m, hm⟩ : ∃ m, n + 1 = m := ⟨_, rfl⟩
        rw [hm] at hne hne2 y0
        have hsub : (m : Int) - 1 = (n : Int) := by omega
        have hsw : IntKind.i64.wrap ((m : Int) - 1) = (n : Int) := by rw [hsub]; simp [IntKind.wrap, IntKind.bits, IntKind.signed]; omega
        have hsw2 : wrap64 ((m : Int) - 1) = (n : Int) := by rw [hsub]; unfold wrap64; omega
        have hpf : ¬ p = f := fun e => by subst e; omega
        have hK := (Step.refl (oneF f) w).setOneF 0 (.int .i64 n)
        have HB := hid hfb
        have HM := hid hm
        clear hcut h5 hfb hm
        go_enter Try.func29, Try.ntmps29
        go_wp2
        go_ret
        refine ⟨ret_bool (by simp [goB, hon, hf]), (Step.refl _ _).setCell (p := ⟨f, 0, none⟩) (.inl (by show o < R f ∧ R f ≤ o + 6; omega)) _, ?_⟩
        have hgd : goD d = { d with fuse := some (n, ks) } := by simp [goD, hon, hf]
        rw [hgd]
        refine ⟨bs, cs, bl, cl, lv, _, (hK.block p hp.out hpf).trans H5.out, r1, r2, r3, r4, q1.step hK (fun e => by unfold oneF at e; subst e; omega), q2.step hK (fun e => by unfold oneF at e; subst e; omega), owns_setCell q3 ⟨f, 0, none⟩ (fun e => by have := r4 f e; omega) _, ⟨f, ka, kc, rfl, rf, ?_, hkc, ?_⟩, q5⟩
        · have := block_setCell HB.out 0 (.int .i64 n)
          simpa using this
        · exact rowAt_keep hkr (fun k hk hF => by
            have : R k = o + 6 := Classical.not_not.1 hF
            exact ⟨hK.block k hk (fun e => by unfold oneF at e; subst e; omega), fun x => x this⟩)

theorem cutD_wf (d : Dv) (ks : List Bool) (hw : Wf d) : Wf (cutD d ks) := by
  cases hon : d.on
  · have e : cutD d ks = d := by simp [cutD, hon]
    rw [e]; exact hw
  · have e : cutD d ks = { d with safe := cutN d.safe d.loose ks d.loose.length, loose := [], on := false } := by simp [cutD, hon]
    rw [e]
    exact ⟨by show 1 ≤ (cutN _ _ _ _).length; rw [cutN_length]; exact hw.n1, by show (cutN _ _ _ _).length ≤ 512; rw [cutN_length]; exact hw.n2, cutN_256 _ _ _ _ (Nat.le_refl _) hw.s hw.l, fun x hx => by simp at hx, Nat.zero_le _, hw.cr, hw.cw, hw.cf, hw.fu⟩
theorem goD_wf (d : Dv) (hw : Wf d) : Wf (goD d) := by
  cases hon : d.on
  · have e : goD d = d := by simp [goD, hon]
    rw [e]; exact hw
  · cases hf : d.fuse with
    | none =>
      have e : goD d = d := by simp [goD, hon, hf]
      rw [e]; exact hw
    | some x =>
      obtain ⟨n, ks⟩ := x
      cases n with
      | zero =>
        have e : goD d = cutD d ks := by simp [goD, hon, hf]
        rw [e]; exact cutD_wf d ks hw
      | succ n =>
        have e : goD d = { d with fuse := some (n, ks) } := by simp [goD, hon, hf]
        rw [e]
        exact ⟨hw.n1, hw.n2, hw.s, hw.l, hw.ll, hw.cr, hw.cw, hw.cf, fun n' ks' h => by injection h with h; injection h with h1 h2; subst h1 h2; have := hw.fu _ _ hf; omega⟩

/-- What a flush answers, and leaves. -/
def flE (d : Dv) : Int := if goB d then 0 else 4
def flD (d : Dv) : Dv := if goB d then flushD (goD d) else goD d
set_option maxHeartbeats 400000 in
theorem flush_any (w : World) (R : Nat → Nat) (o p : Nat) (d : Dv) (h : IsDev w R o p d) (hw : Wf d) :
    Calls Try.prog 10 #[.pointer (some ⟨p, 0, none⟩)] w fun e w' => e = .returned (.int .i64 (flE d)) ∧ Step (Rng R o) w w' ∧ IsDev w' R o p (flD d) := by
  have hg := goesOn_any w R o p d h hw
  cases hb : goB d
  · rw [hb] at hg
    go_enter Try.func10, Try.ntmps10
    go_wp2_with (go_at_call 29; refine hg.mono ?_; rintro e w1 ⟨rfl, s1, hd⟩)
    go_ret
    exact ⟨ret_int (by simp [flE, hb]), s1, by simpa [flD, hb] using hd⟩
  · rw [hb] at hg
    have := flush_go w R o p (goD d) (goD_wf d hw) hg
    simpa [flE, flD, hb] using this
set_option maxHeartbeats 400000 in
theorem flush_nil (w : World) : Calls Try.prog 10 #[.pointer none] w fun e w' => e = .returned (.int .i64 2) ∧ w = w' := by
  go_enter Try.func10, Try.ntmps10
  go_wp2
  go_ret
  exact ⟨rfl, rfl⟩

/-- What a write answers, and leaves. -/
def wrOk (d : Dv) (z : Int) (b : List UInt8) : Bool := inB d z && b.length == 256
def wrE (d : Dv) (z : Int) (b : List UInt8) : Int := if inB d z then (if b.length = 256 then (if goB d then 0 else 4) else 1) else 3
def wrD (d : Dv) (z : Int) (b : List UInt8) : Dv :=
  if inB d z && b.length == 256 then (if goB d then { goD d with loose := (goD d).loose ++ [(z.toNat, b)], writes := d.writes + 1 } else goD d) else d
theorem goD_same (d : Dv) (h : goB d = true) : (goD d).safe = d.safe ∧ (goD d).loose = d.loose ∧ (goD d).writes = d.writes ∧ (goD d).on = d.on ∧ (goD d).reads = d.reads ∧ (goD d).flushes = d.flushes := by
  cases hon : d.on
  · simp [goB, hon] at h
  · cases hf : d.fuse with
    | none => simp [goD, hon, hf]
    | some x =>
      obtain ⟨n, ks⟩ := x
      cases n with
      | zero => simp [goB, hon, hf] at h
      | succ n => simp [goD, hon, hf]

theorem info_write : (Try.prog.info? 69).map (fun i => (i.zero, i.size, i.bytes)) = some (some (.agg #[.int .i64 0, .string ⟨#[]⟩]), 2, 24) := by kernel_rfl

set_option maxHeartbeats 400000 in
theorem write_nil (z : Int) (s : ByteArray) (w : World) : Calls Try.prog 20 #[.pointer none, .int .i64 z, .string s] w fun e w' => e = .returned (.int .i64 2) ∧ w = w' := by
  go_enter Try.func20, Try.ntmps20
  go_wp2
  go_ret
  exact ⟨rfl, rfl⟩

set_option maxHeartbeats 2000000 in
theorem write_bad (w : World) (R : Nat → Nat) (o p : Nat) (d : Dv) (h : IsDev w R o p d) (hw : Wf d) (z : Int) (b : List UInt8) (hb : b.length ≤ 100000) (hbad : (wrOk d z b && goB d) = false) :
    Calls Try.prog 20 #[.pointer (some ⟨p, 0, none⟩), .int .i64 z, .string (str b)] w fun e w' => e = .returned (.int .i64 (wrE d z b)) ∧ Step (Rng R o) w w' ∧ IsDev w' R o p (wrD d z b) := by
  have hhas := has_any w R o p d h z
  have hg := goesOn_any w R o p d h hw
  have H := hid h
  obtain ⟨X, hX⟩ : ∃ X, str b = X := ⟨_, rfl⟩
  have hXs : X.size = b.length := by rw [← hX, str_size]
  rw [hX]
  clear h
  cases hin : inB d z
  · have HI := hid hin
    unfold inB at hin
    rw [hin] at hhas
    clear hin hg hbad
    go_enter Try.func20, Try.ntmps20
    go_wp2_with (go_at_call 33; refine hhas.mono ?_; rintro e w' ⟨rfl, rfl⟩)
    go_ret
    refine ⟨ret_int (by simp [wrE, HI.out]), Step.refl _ _, by simpa [wrD, HI.out] using H.out⟩
  · have HI := hid hin
    unfold inB at hin
    rw [hin] at hhas
    clear hin
    by_cases hl : b.length = 256
    · have hl2 : X.size = 256 := by omega
      have hgb : goB d = false := by simpa [wrOk, HI.out, hl] using hbad
      rw [hgb] at hg
      clear hbad
      have HL := hid hl
      have HG := hid hgb
      clear hl hgb hXs
      go_enter Try.func20, Try.ntmps20
      go_wp2_with (first | (go_at_call 33; refine hhas.mono ?_; rintro e w' ⟨rfl, rfl⟩) | (go_at_call 29; refine hg.mono ?_; rintro e w1 ⟨rfl, s1, hd⟩))
      go_ret
      refine ⟨ret_int (by simp [wrE, HI.out, HL.out, HG.out]), s1, by simpa [wrD, HI.out, HL.out, HG.out] using hd⟩
    · have hl2 : ((X.size : Int) != 256) = true := by simp; omega
      have hl3 : ¬ X.size = 256 := by omega
      clear hg hbad
      have HL := hid hl
      clear hl hXs
      go_enter Try.func20, Try.ntmps20
      go_wp2_with (go_at_call 33; refine hhas.mono ?_; rintro e w' ⟨rfl, rfl⟩)
      go_ret
      refine ⟨ret_int (by simp [wrE, HI.out, HL.out]), Step.refl _ _, by simpa [wrD, HI.out, HL.out] using H.out⟩
end Go.Proofs.Ythgcpeibjnflaaa
