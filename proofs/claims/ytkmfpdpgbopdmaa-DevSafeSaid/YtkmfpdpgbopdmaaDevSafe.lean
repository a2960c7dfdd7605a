/-
  The walk of the law DevSafe.
-/
import Derived.Test.YtkmfpdpgbopdmaaDevSafeM
namespace Go.Proofs.Ytkmfpdpgbopdmaa
open Go.RowKit
set_option linter.unusedVariables false

/-- The law's own two arrays. -/
def Mem (w : World) (R : Nat → Nat) (gs gl : Nat) (sv : List UInt8) (lt : List (List UInt8)) (vs : List Value) : Prop :=
  w.heap[gs]? = some (.cells (cellsOf sv).toArray 58 (0, 0)) ∧ w.heap[gl]? = some (.cells vs.toArray 59 (0, 0)) ∧ R gs = 21 ∧ R gl = 22 ∧ vs.length = 4 ∧ sv.length = 4 ∧ lt.length = 4 ∧
    ∀ q, q < 4 → w.ownsRow 0 5 1 (vs.getD q undef) (lt.getD q []).length (cellsOf (lt.getD q [])) ∧ ∀ k, (vs.getD q undef).ownBlock = some k → R k = 23 + q
theorem Mem.mono {w w' : World} {R R' : Nat → Nat} {gs gl : Nat} {sv : List UInt8} {lt : List (List UInt8)} {vs : List Value} {G : Nat → Prop} (h : Mem w R gs gl sv lt vs) (hs : Step G w w') (hG : ∀ k, 20 < R k → R k < 27 → ¬ G k) (hR : ∀ k, k < w.heap.size → R' k = R k) : Mem w' R' gs gl sv lt vs := by
  obtain ⟨h1, h2, h3, h4, h5, h6, h7, h8⟩ := h
  refine ⟨(hs.block gs (lt_of_block h1) (hG gs (by omega) (by omega))).trans h1, (hs.block gl (lt_of_block h2) (hG gl (by omega) (by omega))).trans h2, (hR gs (lt_of_block h1)).trans h3, (hR gl (lt_of_block h2)).trans h4, h5, h6, h7, fun q hq => ?_⟩
  obtain ⟨a, b⟩ := h8 q hq
  exact ⟨owns_keep a (fun k hk => hs.block k (a.lt k hk).2 (hG k (by have := b k hk; omega) (by have := b k hk; omega))), fun k hk => (hR k (a.lt k hk).2).trans (b k hk)⟩
/-- What is known at the head of round j. -/
def Ph (zs : List Int) (n j : Nat) (d : Dv) (sv : List UInt8) (lt : List (List UInt8)) : Prop :=
  (j ≤ n → d = wd zs j ∧ lt = List.replicate 4 [] ∧ flushL z4 (wsOf zs j) = sv.map blk) ∧ (n < j → Pw sv lt d)
/-- All that is known at the head of round j. -/
def Rd (zs : List Int) (n : Nat) (w : World) (p gs gl : Nat) (j : Nat) (wr : World) : Prop :=
  ∃ (R : Nat → Nat) (sv : List UInt8) (lt : List (List UInt8)) (vs : List Value) (d : Dv), Step noF w wr ∧ (∀ k, k < w.heap.size → R k = 0) ∧ IsDev wr R 0 p d ∧ Wf d ∧ Few d (2 * j) ∧ Mem wr R gs gl sv lt vs ∧ Ph zs n j d sv lt ∧ ∀ q, (lt.getD q []).length ≤ j

theorem info_u8b : (Try.prog.info? 5).map (fun i => (i.zero, i.size, i.bytes)) = some (some (.int .u8 0), 1, 1) := by kernel_rfl
theorem nof_mod (f : Int) (m : Nat) (hm : m ≤ 1000) : ∃ n : Nat, wrap64 ((IntKind.u64.wrap f).tmod ((m : Int) + 1)) = (n : Int) ∧ n ≤ m := by
  have h0 := wrap_u64_nonneg f
  have e : (IntKind.u64.wrap f).tmod ((m : Int) + 1) = (IntKind.u64.wrap f) % ((m : Int) + 1) := Int.tmod_eq_emod_of_nonneg h0
  have l0 := Int.emod_nonneg (IntKind.u64.wrap f) (b := (m : Int) + 1) (by omega)
  have l1 := Int.emod_lt_of_pos (IntKind.u64.wrap f) (b := (m : Int) + 1) (by omega)
  rw [e]
  generalize (IntKind.u64.wrap f) % ((m : Int) + 1) = y at *
  exact ⟨y.toNat, by unfold wrap64; omega, by omega⟩
theorem mod20 (f : Int) : ∃ n : Nat, wrap64 ((IntKind.u64.wrap f).tmod 20) = (n : Int) ∧ n < 20 := by
  obtain ⟨n, h1, h2⟩ := nof_mod f 19 (by omega)
  exact ⟨n, by simpa using h1, by omega⟩
theorem rep_len (j q : Nat) : ((List.replicate 4 ([] : List UInt8)).getD q []).length ≤ j := by
  have : (List.replicate 4 ([] : List UInt8)).getD q [] = [] := by
    rw [List.getD_eq_getElem?_getD, List.getElem?_replicate]
    split <;> rfl
  rw [this]; exact Nat.zero_le _
theorem come_on (d : Dv) : (comeD d).on = true := by
  unfold comeD
  split
  · assumption
  · rfl
theorem pw_read {sv : List UInt8} {lt : List (List UInt8)} {d : Dv} (h : Pw sv lt d) (q : Nat) (hq : q < 4) : Sec sv lt q ((flushL d.safe d.loose).getD q []) := by
  obtain ⟨h1, h2, h3⟩ := h
  generalize d.safe = s at *
  generalize d.loose = ws at *
  induction ws generalizing s with
  | nil =>
    have hl : q < s.length := by omega
    rw [show flushL s [] = s from rfl, getD_mem _ _ hl]
    exact h2 q _ (List.getElem?_eq_getElem hl)
  | cons y ws ih =>
    refine ih (s.set y.1 y.2) (by rw [List.length_set]; exact h1) (fun q x hx => ?_) (fun z hz => h3 z (List.mem_cons_of_mem _ hz))
    obtain ⟨h4, b, hb, hal⟩ := h3 y List.mem_cons_self
    by_cases e : y.1 = q
    · subst e
      rw [List.getElem?_set_self (by omega)] at hx
      injection hx with hx
      subst hx
      rw [hb]; exact sec_blk hal
    · rw [List.getElem?_set_ne e] at hx
      exact h2 q x hx
def fB (c s0 : UInt8) (L : List UInt8) (t : Nat) : Bool := ((c.toNat : Int) == (s0.toNat : Int)) || (L.take t).any (fun y => (c.toNat : Int) == (y.toNat : Int))
theorem fB_succ (c s0 : UInt8) (L : List UInt8) (t : Nat) (h : t < L.length) : fB c s0 L (t + 1) = (fB c s0 L t || ((c.toNat : Int) == (L[t].toNat : Int))) := by
  rw [fB, take_snoc _ _ h, List.any_append, fB]
  simp [Bool.or_assoc]
theorem fB_all (c s0 : UInt8) (L : List UInt8) (h : c = s0 ∨ c ∈ L) : fB c s0 L L.length = true := by
  rw [fB, List.take_of_length_le (Nat.le_refl _)]
  rcases h with rfl | h
  · simp
  · have : L.any (fun y => (c.toNat : Int) == (y.toNat : Int)) = true := List.any_eq_true.2 ⟨c, h, by simp⟩
    rw [this, Bool.or_true]
theorem pw_ok {sv : List UInt8} {lt : List (List UInt8)} {d : Dv} (h : Pw sv lt d) (a : Nat) (ha : a < 4) (c : UInt8) (hg : goB d = true) : wrE d a (blk c) = 0 := by
  have hin : inB d a = true := by simp [inB, h.1]; omega
  rw [wrE, hin, if_pos rfl, if_pos (blk_len c), hg]; rfl
theorem one_new (w : World) (t : TypeId) (x : Value) (g : Nat) (hg : g = w.heap.size) : ∀ j u, [x][j]? = some u → (w.alloc (.cells #[x] t)).cell? (Addr.add ⟨g, 0, none⟩ j) = some u := by
  intro j u hj
  subst hg
  rw [Addr.add_lit, Nat.zero_add, cell_of_block (block_alloc_new _ _), ← hj, List.getElem?_toArray]
set_option maxHeartbeats 8000000 in
set_option maxRecDepth 100000 in
theorem safe_in (zs : List Int) (hz : zs.length ≤ 20) (a : Option Addr) (cap : Nat) (f u : Int) (ks : List Bool) (hk : ks.length ≤ 100) (ka : Option Addr) (kc : Nat) (hkc : ks.length ≤ kc) (w : World) (hr : RowAt w noF a (intsOf zs)) (hkr : RowAt w noF ka (bools ks)) :
    Calls Try.prog 5 #[.slice a zs.length cap, .int .i64 f, .int .i64 u, .slice ka ks.length kc] w fun e w' => e = .returned (.bool true) ∧ Step noF w w' := by
  have k1 : ¬ (20 : Int) < (zs.length : Int) := by omega
  have k2 : ¬ (100 : Int) < (ks.length : Int) := by omega
  obtain ⟨n, hn, hnl⟩ := nof_mod f zs.length (by omega)
  obtain ⟨U, hU, hU20⟩ := mod20 u
  obtain ⟨i0, hi, hz0, hz1, hz2⟩ := info_three info_u8b
  have hl1 : IntKind.u64.wrap ((zs.length : Int) + 1) = (zs.length : Int) + 1 := by simp [IntKind.wrap, IntKind.bits, IntKind.signed]; omega
  go_enter Try.func5, Try.ntmps5
  go_wp2_with fail
  refine (awake_any _).mono ?_
  rintro e w1 ⟨rfl, s1⟩
  go_wp2_with fail
  refine (new_any 4 4 rfl (by omega) (by omega) w1 (fun _ => 0) 0).mono ?_
  rintro e w2 ⟨p, R2, hR2, rfl, s2, hp, hd⟩
  have H2 := hid (show IsDev w2 R2 0 p (wd zs 0) from hd)
  have A2 := s1.trans s2
  have zR2 : ∀ k, k < w.heap.size → R2 k = 0 := fun k hk => hR2 k (Nat.lt_of_lt_of_le hk s1.size)
  clear hd
  go_wp2_with fail
  obtain ⟨gl, hgl⟩ : ∃ gl, w2.heap.size + 1 = gl := ⟨_, rfl⟩
  obtain ⟨gs, hgs⟩ : ∃ gs, w2.heap.size = gs := ⟨_, rfl⟩
  simp only [hn, hgl]
  simp only [hgs]
  have HGS := hid hgs
  have HGL := hid hgl
  go_loopw [13, 14, 15] (fun i _ _ wr => ∃ j : Nat, j ≤ zs.length ∧ i = .int .i64 j ∧ Rd zs n w p gs gl j wr) (fun i _ _ _ => zs.length - (intOf i).toNat)
  case atStart =>
    have hsz : ∀ o : Obj, (w2.alloc o).heap.size = w2.heap.size + 1 := fun o => by simp
    refine ⟨0, Nat.zero_le _, rfl, fun k => if k < w2.heap.size then R2 k else if k = w2.heap.size then 21 else 22, List.replicate 4 0, List.replicate 4 [], List.replicate 4 (.slice none 0 0), wd zs 0, (A2.alloc _).alloc _, fun k hk => (if_pos (Nat.lt_of_lt_of_le hk A2.size)).trans (zR2 k hk), H2.out.mono (((Step.refl noF w2).alloc _).alloc _) (fun _ _ _ x => x) (fun k hk => if_pos hk), wd_wf zs 0 (by omega), ⟨Nat.le_refl _, Nat.le_refl _, Nat.le_refl _, Nat.le_refl _⟩, ?_, ?_, rep_len 0⟩
    · rw [← hgl, ← hgs]
      refine ⟨block_alloc_old (block_alloc_new w2 _) _, ?_, ?_, ?_, rfl, rfl, rfl, fun q hq => ?_⟩
      · have := block_alloc_new (w2.alloc (.cells #[.int .u8 0, .int .u8 0, .int .u8 0, .int .u8 0] 58)) (.cells #[.slice none 0 0, .slice none 0 0, .slice none 0 0, .slice none 0 0] 59)
        rw [hsz] at this
        exact this
      · exact (if_neg (by omega)).trans (if_pos rfl)
      · exact (if_neg (by omega)).trans (if_neg (by omega))
      · have e1 : (List.replicate 4 (Value.slice none 0 0)).getD q undef = .slice none 0 0 := by rw [getD_mem _ _ (by simpa using hq)]; exact List.getElem_replicate _
        have e2 : (List.replicate 4 ([] : List UInt8)).getD q [] = [] := by rw [getD_mem _ _ (by simpa using hq)]; exact List.getElem_replicate _
        rw [e1, e2]
        exact ⟨⟨rfl, .inl ⟨rfl, rfl⟩⟩, fun k hk => by simp [Value.ownBlock] at hk⟩
    · exact ⟨fun _ => ⟨rfl, rfl, z4_map⟩, fun h => absurd h (by omega)⟩
  case round =>
    clear hgs hgl
    obtain ⟨j, hj, rfl, R, sv, lt, vs, d, hst, hR0, hD, hW, hF, hM, hPh, hLen⟩ := hrel
    by_cases hjn : j < zs.length
    · have hji : (j : Int) < (zs.length : Int) := by omega
      obtain ⟨ib, off, rfl, hcell⟩ := hr.at j hjn
      have HC := hid hcell
      obtain ⟨z, hzj⟩ : ∃ z, zs[j] = z := ⟨_, rfl⟩
      rw [hzj] at hcell
      obtain ⟨at_, hat4⟩ : ∃ at_ : Nat, atOf (zs.getD j 0) = at_ := ⟨_, rfl⟩
      have hat : wrap64 ((IntKind.u64.wrap z).tmod 4) = (at_ : Int) := by rw [← hat4, getD_mem _ _ hjn, hzj]; exact (atOf_eq z).1
      have hat5 : at_ < 4 := by rw [← hat4]; exact (atOf_eq _).2
      have hat6 : (at_ : Int) < 4 := by omega
      have h8 := u8_next j (by omega)
      obtain ⟨X, hX⟩ : ∃ X, str (blk (UInt8.ofNat (j + 1))) = X := ⟨_, rfl⟩
      obtain ⟨b8, hb8⟩ : ∃ b8, (UInt8.ofNat (j + 1)).toNat = b8 := ⟨_, rfl⟩
      rw [hb8] at h8
      have B8 : Hid ((b8 : Int) = ((UInt8.ofNat (j + 1)).toNat : Int)) := by show _ = _; rw [hb8]
      have HX := hid hX
      have HD := hid hD
      have HM := hid hM
      have HW := hid hW
      have HF := hid hF
      have HP := hid hPh
      have HZ := hid hR0
      have HAT := hid hat4
      have nz : ∀ {Q : Nat → Nat} (o : Nat), (∀ q, q < w.heap.size → Q q = 0) → ∀ q, q < w.heap.size → ¬ (o < Q q ∧ Q q ≤ o + 6) := fun o h q hq x => by have := h q hq; omega
      clear hX hD hM hW hF hPh hR0 hat4 hb8 hzj
      rcases Nat.lt_trichotomy j n with hlt | heq | hgt
      · -- ahead of the flush
        have hltI : (j : Int) < (n : Int) := by omega
        have hneI : ¬ (j : Int) = (n : Int) := by omega
        have hneb : ((j : Int) == (n : Int)) = false := by simp; omega
        obtain ⟨rfl, rfl, hsv⟩ := HP.out.1 (by omega)
        have hcw := hst.after hcell
        go_wp2_with fail
        refine (block_call _ (UInt8.ofNat (j + 1)) B8.out X HX.out _).mono ?_
        rintro e w5 ⟨rfl, s5⟩
        go_wp2_with fail
        refine (write_call w5 R 0 p _ (HD.out.step s5) HW.out at_ _ (by rw [blk_len]; omega) X HX.out 0 (wd zs (j + 1)) (wd_e zs j at_ hat5 _) (by rw [← HAT.out]; exact wd_d zs j)).mono ?_
        rintro e w6 ⟨rfl, s6, R6, hR6, hd6⟩
        have M5 := HM.out.mono s5 (fun _ _ _ x => x) (fun _ _ => rfl)
        have M6 := hid (M5.mono s6 (fun k a b x => by unfold Rng at x; omega) hR6)
        have A5 := hst.trans s5
        have A6 := A5.fresh s6 (nz 0 HZ.out)
        have z6 := agree A5 HZ.out hR6
        obtain ⟨cv, hcv⟩ : ∃ cv, w6.cell? ⟨gs, at_, none⟩ = some cv := ⟨_, (cell_of_block M6.out.1 at_).trans (Array.getElem?_eq_getElem (by have := M6.out.2.2.2.2.2.1; simp [cellsOf]; omega))⟩
        have hfv := frozen_of_block M6.out.1 at_
        have HD6 := hid hd6
        clear hd6
        go_wp2_with fail
        go_roundw
        case rel =>
          have hs7 := (Step.refl (oneF gs) w6).setOneF at_ (.int .u8 b8)
          have hgl : 22 = R6 gl := M6.out.2.2.2.1.symm
          have hgs : 21 = R6 gs := M6.out.2.2.1.symm
          refine ⟨j + 1, by omega, int_eq (by omega), R6, sv.set at_ (UInt8.ofNat (j + 1)), List.replicate 4 [], vs, wd zs (j + 1), A6.setCell (p := ⟨gs, at_, none⟩) (.inr (by rw [← HGS.out]; exact A2.size)) _, z6, HD6.out.mono hs7 (fun k a b e => by unfold oneF at e; subst e; omega) (fun _ _ => rfl), wd_wf zs (j + 1) (by omega), ⟨by show (wsOf _ _).length ≤ _; rw [wsOf_len]; omega, Nat.zero_le _, by show j + 1 ≤ _; omega, Nat.zero_le _⟩, ?_, ⟨fun _ => ⟨rfl, rfl, ?_⟩, fun h => absurd h (by omega)⟩, rep_len _⟩
          · obtain ⟨m1, m2, m3, m4, m5, m6, m7, m8⟩ := M6.out
            refine ⟨?_, (hs7.block gl (lt_of_block m2) (fun e => by unfold oneF at e; subst e; omega)).trans m2, m3, m4, m5, by rw [List.length_set]; exact m6, m7, fun q hq => ?_⟩
            · have := block_setCell m1 at_ (.int .u8 b8)
              rw [this, List.setIfInBounds_toArray]
              congr 3
              rw [cellsOf, cellsOf, List.map_set, ← B8.out]
            · obtain ⟨o1, o2⟩ := m8 q hq
              exact ⟨owns_keep o1 (fun k hk => hs7.block k (o1.lt k hk).2 (fun e => by unfold oneF at e; subst e; have := o2 k hk; omega)), o2⟩
          · rw [← HAT.out]
            exact laid_now zs sv j M6.out.2.2.2.2.2.1 hsv
        case measure => simp [intOf]; omega
      · -- the flush
        subst heq
        obtain ⟨rfl, rfl, hsv⟩ := HP.out.1 (by omega)
        have hpf := pw_flushed zs sv j HM.out.2.2.2.2.2.1 hsv (U : Int) ks
        have hfe : flE (wd zs j) = 0 := rfl
        go_wp2_with fail
        refine (flush_call wr R 0 p _ HD.out HW.out 0 (flD (wd zs j)) hfe rfl).mono ?_
        rintro e w3 ⟨rfl, s3, hd3⟩
        have A3 := hst.fresh s3 (nz 0 HZ.out)
        have M3 := HM.out.mono s3 (R' := R) (fun k a b x => by unfold Rng at x; omega) (fun _ _ => rfl)
        have hwf3 := flD_wf _ HW.out (2 * j) HF.out (by omega)
        go_wp2_with fail
        refine (fuse_any w3 R 0 p _ hd3 U ka kc ks (by omega) (fun k => R k ≠ 0) (rowAt_keep hkr (fun k hk _ => ⟨A3.block k hk (fun x => x), fun x => x (HZ.out k hk)⟩)) (fun x => x (by have := hd3.role; omega))).mono ?_
        rintro e w4 ⟨rfl, s4, R4, hR4, hd4⟩
        have AX := hid (A3.fresh s4 (nz 0 HZ.out))
        have ZX := hid (agree A3 HZ.out hR4)
        have HMX := hid (M3.mono s4 (fun k a b x => by unfold Rng at x; omega) hR4)
        obtain ⟨dX, hdX⟩ : ∃ dX, fuseD (flD (wd zs j)) U ks = dX := ⟨_, rfl⟩
        have HDX := hid (show IsDev w4 R4 0 p dX from hdX ▸ hd4)
        have PX := hid (show Pw sv (List.replicate 4 []) dX from hdX ▸ hpf.1)
        have WX := hid (show Wf dX from hdX ▸ fuseD_wf _ U ks hwf3 (by omega) (by omega))
        have FX := hid (show Few dX (2 * j + 1) from hdX ▸ (flD_few _ _ HF.out))
        have hcw := AX.out.after hcell
        clear hd3 hd4 M3 hpf hfe hwf3
        go_wp2_with fail
        refine (block_call _ (UInt8.ofNat (j + 1)) B8.out X HX.out _).mono ?_
        rintro e w5 ⟨rfl, s5⟩
        have A5 := AX.out.trans s5
        have D5 := hid (HDX.out.step s5)
        have M5 := hid (HMX.out.mono s5 (fun _ _ _ x => x) (fun _ _ => rfl))
        have HGS7 : w.heap.size ≤ gs := by rw [← HGS.out]; exact A2.size
        have HGL7 : w.heap.size ≤ gl := by rw [← HGL.out]; have := A2.size; omega
        go_wp2_with fail
        cases hgo : goB dX
        · obtain ⟨x1, x2, x3⟩ := pw_burnt PX.out at_ hat5 (UInt8.ofNat (j + 1)) hgo
          refine (write_call w5 R4 0 p dX D5.out WX.out at_ _ (by rw [blk_len]; omega) X HX.out 4 (goD dX) x2 x1).mono ?_
          rintro e w6 ⟨rfl, s6, R6, hR6, hd6⟩
          have M6 := hid (M5.out.mono s6 (fun k a b x => by unfold Rng at x; omega) hR6)
          have A6 := A5.fresh s6 (nz 0 ZX.out)
          have z6 := agree A5 ZX.out hR6
          have hon := isOn_any w6 R6 0 p _ hd6
          rw [x3] at hon
          have HD6 := hid hd6
          clear hd6
          go_wp2_with fail
          refine hon.mono ?_
          rintro e w' ⟨rfl, rfl⟩
          go_wp2_with fail
          go_roundw
          case rel =>
            exact ⟨j + 1, by omega, int_eq (by omega), R6, sv, (List.replicate 4 []), vs, goD dX, A6, z6, HD6.out, goD_wf _ WX.out, (goD_few _ _ FX.out).mono (by omega), M6.out, ⟨fun h => absurd h (by omega), fun _ => pw_go PX.out⟩, fun q => Nat.le_succ_of_le (rep_len j q)⟩
          case measure => simp [intOf]; omega
        · have x2 := pw_ok PX.out at_ hat5 (UInt8.ofNat (j + 1)) hgo
          refine (write_call w5 R4 0 p dX D5.out WX.out at_ _ (by rw [blk_len]; omega) X HX.out 0 (wrD dX at_ (blk (UInt8.ofNat (j + 1)))) x2 rfl).mono ?_
          rintro e w6 ⟨rfl, s6, R6, hR6, hd6⟩
          have M6 := hid (M5.out.mono s6 (fun k a b x => by unfold Rng at x; omega) hR6)
          have A6 := A5.fresh s6 (nz 0 ZX.out)
          have z6 := agree A5 ZX.out hR6
          have HD6 := hid hd6
          obtain ⟨v, hv⟩ : ∃ v, vs.getD at_ undef = v := ⟨_, rfl⟩
          obtain ⟨L, hL⟩ : ∃ L, (List.replicate 4 []).getD at_ [] = L := ⟨_, rfl⟩
          have hvl : at_ < vs.length := by have := M6.out.2.2.2.2.1; omega
          have c0 : w6.cell? ⟨gl, at_, none⟩ = some v := by
            rw [cell_of_block M6.out.2.1, List.getElem?_toArray, List.getElem?_eq_getElem hvl, ← hv, getD_mem _ _ hvl]
          have hoo := M6.out.2.2.2.2.2.2.2 at_ hat5
          rw [hv, hL] at hoo
          have HOO := hid hoo
          have HLl : Hid (L.length ≤ 20) := by
            show _ ≤ _
            rw [← hL]
            exact Nat.le_trans (rep_len j at_) (by omega)
          have hmx : Hid (L.length + 1 ≤ maxLen) := by show _ ≤ _; have := HLl.out; unfold maxLen; omega
          have hmb : Hid ((L.length + 1) * 1 ≤ 140737488355328) := by show _ ≤ _; have := HLl.out; omega
          have hone : Hid (∀ y ∈ [Value.int .u8 (b8 : Int)], y.oneCell' = true) := by
            intro y hy
            simp at hy
            subst hy; rfl
          have HV := hid hv
          have HL := hid hL
          have HVL := hid hvl
          obtain ⟨ob, hob⟩ : ∃ ob : Obj, ob = .cells #[.int .u8 b8] 5 := ⟨_, rfl⟩
          have hafter : ∀ v' w7, w7.ownsRow 0 5 1 v' (L.length + 1) (cellsOf L ++ [.int .u8 b8]) → (w6.alloc ob).grownBy w7 v.ownBlock → Fresh (w6.alloc ob) v v' →
              ∃ ao cc, v' = .slice ao (L.length + 1) cc ∧ w7.cell? ⟨gl, at_, none⟩ = some v ∧ w7.frozen? ⟨gl, at_, none⟩ = false ∧ Hid (Step (fun k => R6 k = 23 + at_) w6 w7 ∧ (∀ k, v'.ownBlock = some k → R6 k = 23 + at_ ∧ k < w6.heap.size ∨ w6.heap.size ≤ k) ∧ w7.ownsRow 0 5 1 v' (L.length + 1) (cellsOf L ++ [.int .u8 b8])) := by
            intro v' w7 ho hg hfr
            obtain ⟨ao, cc, hv'⟩ := owns_form ho
            have s7 : Step (fun k => R6 k = 23 + at_) w6 w7 := ((Step.refl _ w6).alloc ob).grown hg (fun k hk => .inl (HOO.out.2 k hk))
            have hb7 := (s7.block gl (lt_of_block M6.out.2.1) (fun x => by have := M6.out.2.2.2.1; omega)).trans M6.out.2.1
            refine ⟨ao, cc, hv', ?_, frozen_of_block hb7 at_, s7, fun k hk => ?_, ho⟩
            · rw [cell_of_block hb7, List.getElem?_toArray, List.getElem?_eq_getElem HVL.out, ← HV.out, getD_mem _ _ HVL.out]
            · rcases hfr with e | e
              · exact .inl ⟨HOO.out.2 k (by rw [← e]; exact hk), (HOO.out.1.lt k (by rw [← e]; exact hk)).2⟩
              · exact .inr (by have := e k hk; simp at this; omega)
          have HAF := hid hafter
          subst hob
          clear hd6 hafter hoo hv hL hvl
          go_wp2_with (at_builtin; refine wpList_append_fresh rfl (.tmp 93) (.tmp 97) 56 rfl 5 i0 (.int .u8 0) 1 1 Try.underlying56 hi hz0 hz1 hz2 rfl (by decide) v _ _ (by simp [Act.eval]) (by exact HOO.out.1.alloc _) ⟨w6.heap.size, 0, none⟩ 1 1 [.int .u8 b8] (by simp [Act.eval]) rfl (one_new _ _ _ _ rfl) hone.out hmx.out hmb.out ?_; intro v' w7 ho9 hg9 hfr9; obtain ⟨ao, cc, rfl, c7, f7, H7⟩ := HAF.out v' w7 ho9 hg9 hfr9; clear ho9 hg9 hfr9)
          go_roundw
          case rel =>
            obtain ⟨t1, t2, t3⟩ := H7.out
            obtain ⟨m1, m2, m3, m4, m5, m6, m7, m8⟩ := M6.out
            have s8 : Step (fun k => R6 k = 23 + at_ ∨ k = gl) w6 (w7.setCell ⟨gl, at_, none⟩ (.slice ao (L.length + 1) cc)) := (t1.mono (fun k hk => .inl (.inl hk))).setCell (p := ⟨gl, at_, none⟩) (.inl (.inr rfl)) _
            have hgl6 := lt_of_block m2
            refine ⟨j + 1, by omega, int_eq (by omega), fun k => if k < w6.heap.size then R6 k else 23 + at_, sv, (List.replicate 4 []).set at_ ((List.replicate 4 []).getD at_ [] ++ [UInt8.ofNat (j + 1)]), vs.set at_ (.slice ao (L.length + 1) cc), wrD dX at_ (blk (UInt8.ofNat (j + 1))), A6.then s8 (fun k hk => ?_), fun k hk => (if_pos (Nat.lt_of_lt_of_le hk A6.size)).trans (z6 k hk), HD6.out.mono s8 (fun k a b x => by rcases x with x | rfl <;> omega) (fun k hk => if_pos hk), wrD_wf _ _ _ WX.out _ FX.out (by omega), (wrD_few _ _ _ _ FX.out).mono (by omega), ⟨?_, ?_, (if_pos (lt_of_block m1)).trans m3, (if_pos hgl6).trans m4, by rw [List.length_set]; exact m5, m6, by rw [List.length_set]; exact m7, fun q hq => ?_⟩, ⟨fun h => absurd h (by omega), fun _ => pw_write PX.out at_ hat5 _ m7 hgo PX.out.1⟩, fun q => ?_⟩
            · rcases Nat.lt_or_ge k w.heap.size with h | h
              · have := z6 k h
                rcases hk with hk | rfl
                · omega
                · omega
              · exact .inr h
            · exact (s8.block gs (lt_of_block m1) (fun x => by rcases x with x | rfl <;> omega)).trans m1
            · have h7 := (t1.block gl hgl6 (fun x => by omega)).trans m2
              have := block_setCell h7 at_ (.slice ao (L.length + 1) cc)
              rw [this, List.setIfInBounds_toArray]
            · by_cases e : at_ = q
              · subst e
                rw [getD_mem _ _ (by rw [List.length_set]; exact HVL.out), List.getElem_set_self, getD_mem _ _ (by rw [List.length_set]; omega), List.getElem_set_self, HL.out, List.length_append]
                refine ⟨?_, fun k hk => ?_⟩
                · have e2 : cellsOf (L ++ [UInt8.ofNat (j + 1)]) = cellsOf L ++ [.int .u8 b8] := by rw [cellsOf_append, B8.out]; rfl
                  rw [e2]
                  refine owns_keep t3 (fun k hk => Below.heap_setCell _ _ _ _ (fun e => ?_))
                  rcases t2 k hk with ⟨h1, _⟩ | h1
                  · rw [show k = gl from e] at h1; omega
                  · rw [show k = gl from e] at h1; omega
                · rcases t2 k hk with ⟨h1, h2⟩ | h1
                  · exact (if_pos h2).trans h1
                  · exact if_neg (by omega)
              · obtain ⟨o1, o2⟩ := m8 q hq
                have e1 : (vs.set at_ (.slice ao (L.length + 1) cc)).getD q undef = vs.getD q undef := by rw [List.getD_eq_getElem?_getD, List.getElem?_set_ne e, ← List.getD_eq_getElem?_getD]
                have e2 : ((List.replicate 4 []).set at_ ((List.replicate 4 []).getD at_ [] ++ [UInt8.ofNat (j + 1)])).getD q [] = (List.replicate 4 []).getD q [] := by rw [List.getD_eq_getElem?_getD, List.getElem?_set_ne e, ← List.getD_eq_getElem?_getD]
                rw [e1, e2]
                exact ⟨owns_keep o1 (fun k hk => s8.block k (o1.lt k hk).2 (fun x => by have := o2 k hk; rcases x with x | rfl <;> omega)), fun k hk => (if_pos (o1.lt k hk).2).trans (o2 k hk)⟩
            · by_cases e : at_ = q
              · subst e
                rw [getD_mem _ _ (by rw [List.length_set]; omega), List.getElem_set_self, List.length_append]
                exact Nat.succ_le_succ (rep_len j at_)
              · rw [List.getD_eq_getElem?_getD, List.getElem?_set_ne e, ← List.getD_eq_getElem?_getD]
                exact Nat.le_succ_of_le (rep_len j q)
          case measure => simp [intOf]; omega
      · -- behind the flush
        have hneb : ((j : Int) == (n : Int)) = false := by simp; omega
        have hneI : ¬ (j : Int) = (n : Int) := by omega
        have hPw := HP.out.2 hgt
        obtain ⟨dX, hdX⟩ : ∃ dX, d = dX := ⟨_, rfl⟩
        have AX := hid hst
        have ZX := HZ
        have HMX := HM
        have HDX := hid (show IsDev wr R 0 p dX from hdX ▸ HD.out)
        have PX := hid (show Pw sv lt dX from hdX ▸ hPw)
        have WX := hid (show Wf dX from hdX ▸ HW.out)
        have FX := hid (show Few dX (2 * j + 1) from hdX ▸ HF.out.mono (by omega))
        have hcw := hst.after hcell
        clear hPw
        have hnltI : ¬ (j : Int) < (n : Int) := by omega
        go_wp2_with fail
        refine (block_call _ (UInt8.ofNat (j + 1)) B8.out X HX.out _).mono ?_
        rintro e w5 ⟨rfl, s5⟩
        have A5 := AX.out.trans s5
        have D5 := hid (HDX.out.step s5)
        have M5 := hid (HMX.out.mono s5 (fun _ _ _ x => x) (fun _ _ => rfl))
        have HGS7 : w.heap.size ≤ gs := by rw [← HGS.out]; exact A2.size
        have HGL7 : w.heap.size ≤ gl := by rw [← HGL.out]; have := A2.size; omega
        go_wp2_with fail
        cases hgo : goB dX
        · obtain ⟨x1, x2, x3⟩ := pw_burnt PX.out at_ hat5 (UInt8.ofNat (j + 1)) hgo
          refine (write_call w5 R 0 p dX D5.out WX.out at_ _ (by rw [blk_len]; omega) X HX.out 4 (goD dX) x2 x1).mono ?_
          rintro e w6 ⟨rfl, s6, R6, hR6, hd6⟩
          have M6 := hid (M5.out.mono s6 (fun k a b x => by unfold Rng at x; omega) hR6)
          have A6 := A5.fresh s6 (nz 0 ZX.out)
          have z6 := agree A5 ZX.out hR6
          have hon := isOn_any w6 R6 0 p _ hd6
          rw [x3] at hon
          have HD6 := hid hd6
          clear hd6
          go_wp2_with fail
          refine hon.mono ?_
          rintro e w' ⟨rfl, rfl⟩
          go_wp2_with fail
          go_roundw
          case rel =>
            exact ⟨j + 1, by omega, int_eq (by omega), R6, sv, lt, vs, goD dX, A6, z6, HD6.out, goD_wf _ WX.out, (goD_few _ _ FX.out).mono (by omega), M6.out, ⟨fun h => absurd h (by omega), fun _ => pw_go PX.out⟩, fun q => Nat.le_succ_of_le (hLen q)⟩
          case measure => simp [intOf]; omega
        · have x2 := pw_ok PX.out at_ hat5 (UInt8.ofNat (j + 1)) hgo
          refine (write_call w5 R 0 p dX D5.out WX.out at_ _ (by rw [blk_len]; omega) X HX.out 0 (wrD dX at_ (blk (UInt8.ofNat (j + 1)))) x2 rfl).mono ?_
          rintro e w6 ⟨rfl, s6, R6, hR6, hd6⟩
          have M6 := hid (M5.out.mono s6 (fun k a b x => by unfold Rng at x; omega) hR6)
          have A6 := A5.fresh s6 (nz 0 ZX.out)
          have z6 := agree A5 ZX.out hR6
          have HD6 := hid hd6
          obtain ⟨v, hv⟩ : ∃ v, vs.getD at_ undef = v := ⟨_, rfl⟩
          obtain ⟨L, hL⟩ : ∃ L, lt.getD at_ [] = L := ⟨_, rfl⟩
          have hvl : at_ < vs.length := by have := M6.out.2.2.2.2.1; omega
          have c0 : w6.cell? ⟨gl, at_, none⟩ = some v := by
            rw [cell_of_block M6.out.2.1, List.getElem?_toArray, List.getElem?_eq_getElem hvl, ← hv, getD_mem _ _ hvl]
          have hoo := M6.out.2.2.2.2.2.2.2 at_ hat5
          rw [hv, hL] at hoo
          have HOO := hid hoo
          have HLl : Hid (L.length ≤ 20) := by
            show _ ≤ _
            rw [← hL]
            exact Nat.le_trans (hLen at_) (by omega)
          have hmx : Hid (L.length + 1 ≤ maxLen) := by show _ ≤ _; have := HLl.out; unfold maxLen; omega
          have hmb : Hid ((L.length + 1) * 1 ≤ 140737488355328) := by show _ ≤ _; have := HLl.out; omega
          have hone : Hid (∀ y ∈ [Value.int .u8 (b8 : Int)], y.oneCell' = true) := by
            intro y hy
            simp at hy
            subst hy; rfl
          have HV := hid hv
          have HL := hid hL
          have HVL := hid hvl
          obtain ⟨ob, hob⟩ : ∃ ob : Obj, ob = .cells #[.int .u8 b8] 5 := ⟨_, rfl⟩
          have hafter : ∀ v' w7, w7.ownsRow 0 5 1 v' (L.length + 1) (cellsOf L ++ [.int .u8 b8]) → (w6.alloc ob).grownBy w7 v.ownBlock → Fresh (w6.alloc ob) v v' →
              ∃ ao cc, v' = .slice ao (L.length + 1) cc ∧ w7.cell? ⟨gl, at_, none⟩ = some v ∧ w7.frozen? ⟨gl, at_, none⟩ = false ∧ Hid (Step (fun k => R6 k = 23 + at_) w6 w7 ∧ (∀ k, v'.ownBlock = some k → R6 k = 23 + at_ ∧ k < w6.heap.size ∨ w6.heap.size ≤ k) ∧ w7.ownsRow 0 5 1 v' (L.length + 1) (cellsOf L ++ [.int .u8 b8])) := by
            intro v' w7 ho hg hfr
            obtain ⟨ao, cc, hv'⟩ := owns_form ho
            have s7 : Step (fun k => R6 k = 23 + at_) w6 w7 := ((Step.refl _ w6).alloc ob).grown hg (fun k hk => .inl (HOO.out.2 k hk))
            have hb7 := (s7.block gl (lt_of_block M6.out.2.1) (fun x => by have := M6.out.2.2.2.1; omega)).trans M6.out.2.1
            refine ⟨ao, cc, hv', ?_, frozen_of_block hb7 at_, s7, fun k hk => ?_, ho⟩
            · rw [cell_of_block hb7, List.getElem?_toArray, List.getElem?_eq_getElem HVL.out, ← HV.out, getD_mem _ _ HVL.out]
            · rcases hfr with e | e
              · exact .inl ⟨HOO.out.2 k (by rw [← e]; exact hk), (HOO.out.1.lt k (by rw [← e]; exact hk)).2⟩
              · exact .inr (by have := e k hk; simp at this; omega)
          have HAF := hid hafter
          subst hob
          clear hd6 hafter hoo hv hL hvl
          go_wp2_with (at_builtin; refine wpList_append_fresh rfl (.tmp 93) (.tmp 97) 56 rfl 5 i0 (.int .u8 0) 1 1 Try.underlying56 hi hz0 hz1 hz2 rfl (by decide) v _ _ (by simp [Act.eval]) (by exact HOO.out.1.alloc _) ⟨w6.heap.size, 0, none⟩ 1 1 [.int .u8 b8] (by simp [Act.eval]) rfl (one_new _ _ _ _ rfl) hone.out hmx.out hmb.out ?_; intro v' w7 ho9 hg9 hfr9; obtain ⟨ao, cc, rfl, c7, f7, H7⟩ := HAF.out v' w7 ho9 hg9 hfr9; clear ho9 hg9 hfr9)
          go_roundw
          case rel =>
            obtain ⟨t1, t2, t3⟩ := H7.out
            obtain ⟨m1, m2, m3, m4, m5, m6, m7, m8⟩ := M6.out
            have s8 : Step (fun k => R6 k = 23 + at_ ∨ k = gl) w6 (w7.setCell ⟨gl, at_, none⟩ (.slice ao (L.length + 1) cc)) := (t1.mono (fun k hk => .inl (.inl hk))).setCell (p := ⟨gl, at_, none⟩) (.inl (.inr rfl)) _
            have hgl6 := lt_of_block m2
            refine ⟨j + 1, by omega, int_eq (by omega), fun k => if k < w6.heap.size then R6 k else 23 + at_, sv, lt.set at_ (lt.getD at_ [] ++ [UInt8.ofNat (j + 1)]), vs.set at_ (.slice ao (L.length + 1) cc), wrD dX at_ (blk (UInt8.ofNat (j + 1))), A6.then s8 (fun k hk => ?_), fun k hk => (if_pos (Nat.lt_of_lt_of_le hk A6.size)).trans (z6 k hk), HD6.out.mono s8 (fun k a b x => by rcases x with x | rfl <;> omega) (fun k hk => if_pos hk), wrD_wf _ _ _ WX.out _ FX.out (by omega), (wrD_few _ _ _ _ FX.out).mono (by omega), ⟨?_, ?_, (if_pos (lt_of_block m1)).trans m3, (if_pos hgl6).trans m4, by rw [List.length_set]; exact m5, m6, by rw [List.length_set]; exact m7, fun q hq => ?_⟩, ⟨fun h => absurd h (by omega), fun _ => pw_write PX.out at_ hat5 _ m7 hgo PX.out.1⟩, fun q => ?_⟩
            · rcases Nat.lt_or_ge k w.heap.size with h | h
              · have := z6 k h
                rcases hk with hk | rfl
                · omega
                · omega
              · exact .inr h
            · exact (s8.block gs (lt_of_block m1) (fun x => by rcases x with x | rfl <;> omega)).trans m1
            · have h7 := (t1.block gl hgl6 (fun x => by omega)).trans m2
              have := block_setCell h7 at_ (.slice ao (L.length + 1) cc)
              rw [this, List.setIfInBounds_toArray]
            · by_cases e : at_ = q
              · subst e
                rw [getD_mem _ _ (by rw [List.length_set]; exact HVL.out), List.getElem_set_self, getD_mem _ _ (by rw [List.length_set]; omega), List.getElem_set_self, HL.out, List.length_append]
                refine ⟨?_, fun k hk => ?_⟩
                · have e2 : cellsOf (L ++ [UInt8.ofNat (j + 1)]) = cellsOf L ++ [.int .u8 b8] := by rw [cellsOf_append, B8.out]; rfl
                  rw [e2]
                  refine owns_keep t3 (fun k hk => Below.heap_setCell _ _ _ _ (fun e => ?_))
                  rcases t2 k hk with ⟨h1, _⟩ | h1
                  · rw [show k = gl from e] at h1; omega
                  · rw [show k = gl from e] at h1; omega
                · rcases t2 k hk with ⟨h1, h2⟩ | h1
                  · exact (if_pos h2).trans h1
                  · exact if_neg (by omega)
              · obtain ⟨o1, o2⟩ := m8 q hq
                have e1 : (vs.set at_ (.slice ao (L.length + 1) cc)).getD q undef = vs.getD q undef := by rw [List.getD_eq_getElem?_getD, List.getElem?_set_ne e, ← List.getD_eq_getElem?_getD]
                have e2 : (lt.set at_ (lt.getD at_ [] ++ [UInt8.ofNat (j + 1)])).getD q [] = lt.getD q [] := by rw [List.getD_eq_getElem?_getD, List.getElem?_set_ne e, ← List.getD_eq_getElem?_getD]
                rw [e1, e2]
                exact ⟨owns_keep o1 (fun k hk => s8.block k (o1.lt k hk).2 (fun x => by have := o2 k hk; rcases x with x | rfl <;> omega)), fun k hk => (if_pos (o1.lt k hk).2).trans (o2 k hk)⟩
            · by_cases e : at_ = q
              · subst e
                rw [getD_mem _ _ (by rw [List.length_set]; omega), List.getElem_set_self, List.length_append]
                exact Nat.succ_le_succ (hLen at_)
              · rw [List.getD_eq_getElem?_getD, List.getElem?_set_ne e, ← List.getD_eq_getElem?_getD]
                exact Nat.le_succ_of_le (hLen q)
          case measure => simp [intOf]; omega
    · obtain rfl : j = zs.length := by omega
      have nz : ∀ {Q : Nat → Nat} (o : Nat), (∀ q, q < w.heap.size → Q q = 0) → ∀ q, q < w.heap.size → ¬ (o < Q q ∧ Q q ≤ o + 6) := fun o h q hq x => by have := h q hq; omega
      -- the last flush, if there was none
      obtain ⟨dY, hdY, hPwY, hWY, hFY⟩ : ∃ dY, (if n = zs.length then flD d else d) = dY ∧ Pw sv lt dY ∧ Wf dY ∧ Few dY 41 := by
        refine ⟨_, rfl, ?_, ?_, ?_⟩
        · split
          · rename_i e
            obtain ⟨rfl, rfl, hsv⟩ := hPh.1 (by omega)
            exact (pw_flushed zs sv _ hM.2.2.2.2.2.1 hsv 0 []).2
          · exact hPh.2 (by omega)
        · split
          · exact flD_wf _ hW _ hF (by omega)
          · exact hW
        · split
          · exact (flD_few _ _ hF).mono (by omega)
          · exact hF.mono (by omega)
      have HFY := hid hFY
      clear hFY
      have HZ := hid hR0
      have HM := hid hM
      have HPY := hid hPwY
      have HWY := hid hWY
      have hrk : Hid (RowAt wr (fun k => R k ≠ 0) ka (bools ks)) := rowAt_keep hkr (fun k hk _ => ⟨hst.block k hk (fun x => x), fun x => x (hR0 k hk)⟩)
      obtain ⟨wA, hwA⟩ : ∃ x, x = wr := ⟨_, rfl⟩
      subst hwA
      by_cases hnm : n = zs.length
      · subst hnm
        obtain ⟨rfl, hltE, hsv⟩ := hPh.1 (Nat.le_refl _)
        have hdY2 : flD (wd zs zs.length) = dY := by rw [← hdY, if_pos rfl]
        have hDD := hid hD
        have HW := hid hW
        clear hM hR0 hPwY hWY hD hF hPh hdY hW
        go_wp2_with fail
        refine (flush_call wA R 0 p _ hDD.out HW.out 0 dY rfl hdY2).mono ?_
        rintro e wB ⟨rfl, sB, hdB⟩
        have AB := hst.fresh sB (nz 0 HZ.out)
        have MB := hid (HM.out.mono sB (R' := R) (fun k a b x => by unfold Rng at x; omega) (fun _ _ => rfl))
        have KB := hid (rowAt_keep (w' := wB) (G := fun k => R k ≠ 0) hrk.out (fun k hk hF => ⟨sB.block k hk (fun x => by have : R k = 0 := Classical.not_not.1 hF; unfold Rng at x; omega), hF⟩))
        have DB := hid hdB
        clear hdB
        go_wp2_with fail
        obtain ⟨dC, hdCe⟩ : ∃ dC, cutD dY ks = dC := ⟨_, rfl⟩
        obtain ⟨dE, hdEe⟩ : ∃ dE, comeD dC = dE := ⟨_, rfl⟩
        have HPE := hid (show Pw sv lt dE from by rw [← hdEe, ← hdCe]; exact pw_come (pw_cut HPY.out ks))
        have HWE := hid (show Wf dE from by rw [← hdEe, ← hdCe]; exact comeD_wf _ (cutD_wf _ _ HWY.out))
        have HFE := hid (show Few dE 41 from by rw [← hdEe, ← hdCe]; exact comeD_few _ _ (cutD_few _ _ _ HFY.out))
        have HON := hid (show dE.on = true from by rw [← hdEe]; exact come_on dC)
        refine (cut_call wB R 0 p _ DB.out HWY.out ka ks.length kc ks rfl hkc (by omega) (rowAt_keep KB.out (fun k hk hF => ⟨rfl, fun x => by have : R k = 0 := Classical.not_not.1 hF; omega⟩)) dC hdCe).mono ?_
        rintro e wC ⟨rfl, sC, hdC⟩
        have AC := AB.fresh sC (nz 0 HZ.out)
        have MC := MB.out.mono sC (R' := R) (fun k a b x => by unfold Rng at x; omega) (fun _ _ => rfl)
        go_wp2_with fail
        refine (come_call wC R 0 p _ hdC dE hdEe).mono ?_
        rintro e wD ⟨rfl, sD, hdD⟩
        have AD := AC.fresh sD (nz 0 HZ.out)
        have MD := hid (MC.mono sD (R' := R) (fun k a b x => by unfold Rng at x; omega) (fun _ _ => rfl))
        have DD := hid hdD
        clear hdD hdC MC hdCe hdEe
        go_wp2_with fail
        go_loopw [16, 17, 18, 19, 20, 21, 22, 23] (fun i _ _ _ _ _ _ _ wr => ∃ q : Nat, q ≤ 4 ∧ i = .int .i64 q ∧ Step noF w wr ∧ IsDev wr R 0 p { dE with reads := dE.reads + q } ∧ Mem wr R gs gl sv lt vs) (fun i _ _ _ _ _ _ _ _ => 4 - (intOf i).toNat)
        case atStart => exact ⟨0, Nat.zero_le _, rfl, AD, DD.out, MD.out⟩
        case round =>
          obtain ⟨q, hq, rfl, hst2, hdQ, hMQ⟩ := hrel
          by_cases hq4 : q < 4
          · have hqI : (q : Int) < 4 := by omega
            obtain ⟨x, hx, hsec⟩ : ∃ x, (flushL dE.safe dE.loose).getD q [] = x ∧ Sec sv lt q x := ⟨_, rfl, pw_read HPE.out q hq4⟩
            obtain ⟨S, hS⟩ : ∃ S, str x = S := ⟨_, rfl⟩
            have hSs : S.size = 256 := by rw [← hS, str_size, hsec.1]
            have hwq : Wf { dE with reads := dE.reads + q } := ⟨HWE.out.n1, HWE.out.n2, HWE.out.s, HWE.out.l, HWE.out.ll, by have := HFE.out.2.1; show dE.reads + q ≤ 1000; omega, HWE.out.cw, HWE.out.cf, HWE.out.fu⟩
            have hinq : inB { dE with reads := dE.reads + q } q = true := by have := HPE.out.1; simp [inB, this]; omega
            have hrd := read_call wr R 0 p { dE with reads := dE.reads + q } hdQ hwq q S 0 { dE with reads := dE.reads + (q + 1) } (by rw [readV, hinq]; simp only [HON.out, Bool.and_true, if_true]; rw [Int.toNat_natCast, hx]; exact hS) (by rw [readE, hinq, if_pos rfl]; simp only [HON.out, if_true]) (by rw [readD, hinq]; simp only [HON.out, Bool.and_true, if_true]; rfl)
            have HSEC := hid hsec
            have HMQ := hid hMQ
            have HS := hid hS
            clear hsec hMQ hS hx hwq hinq hdQ
            go_wp2_with fail
            refine hrd.mono ?_
            rintro e wE ⟨rfl, sE, hdE⟩
            have AE := hst2.fresh sE (nz 0 HZ.out)
            have ME := HMQ.out.mono sE (R' := R) (fun k a b x => by unfold Rng at x; omega) (fun _ _ => rfl)
            have HDE := hid hdE
            obtain ⟨s0, hs0⟩ : ∃ s0, sv.getD q 0 = s0 := ⟨_, rfl⟩
            obtain ⟨L, hL⟩ : ∃ L, lt.getD q [] = L := ⟨_, rfl⟩
            have hql : q < sv.length := by have := ME.2.2.2.2.2.1; omega
            have hqv : q < vs.length := by have := ME.2.2.2.2.1; omega
            have hqt : q < lt.length := by have := ME.2.2.2.2.2.2.1; omega
            have cs : wE.cell? ⟨gs, q, none⟩ = some (.int .u8 s0.toNat) := by
              rw [cell_of_block ME.1, List.getElem?_toArray, cellsOf, List.getElem?_map, List.getElem?_eq_getElem hql, ← hs0, getD_mem _ _ hql]; rfl
            obtain ⟨ow1, ow2⟩ := ME.2.2.2.2.2.2.2 q hq4
            obtain ⟨va, vc, hvf⟩ := owns_form ow1
            have cv : wE.cell? ⟨gl, q, none⟩ = some (.slice va L.length vc) := by
              rw [cell_of_block ME.2.1, List.getElem?_toArray, List.getElem?_eq_getElem hqv, ← getD_mem _ _ hqv undef, hvf, hL]
            rw [hvf, hL] at ow1
            have cL : Hid (∀ t (ht : t < L.length), ∃ g, va = some ⟨g, 0, none⟩ ∧ wE.cell? ⟨g, t, none⟩ = some (.int .u8 L[t].toNat)) := fun t ht => by
              obtain ⟨g, c', hv, _, hrow, _⟩ := rowIn_owns ow1 (by omega)
              injection hv with hv1 _ _
              refine ⟨g, hv1, ?_⟩
              rw [hrow.cell t (by rw [cellsOf_length]; exact ht)]
              simp [cellsOf]
            have hal : ∀ c, Al sv lt q c → c = s0 ∨ c ∈ L := fun c hc => by
              rcases hc with hc | ⟨l, h1, h2⟩
              · left
                rw [← hs0, List.getD_eq_getElem?_getD, hc]; rfl
              · right
                rw [← hL, List.getD_eq_getElem?_getD, h1]; exact h2
            have HAL := hid hal
            have HME := hid ME
            have hLl : L.length ≤ 1000 := by rw [← hL]; exact Nat.le_trans (hLen q) (by omega)
            clear hal ME hdE hrd ow1 ow2 hvf hs0 hL
            go_wp2_with fail
            go_loopw [19, 20, 21, 22, 23] (fun i _ _ _ _ wr => ∃ k : Nat, k ≤ 4 ∧ i = .int .i64 k ∧ wE = wr) (fun i _ _ _ _ _ => 4 - (intOf i).toNat)
            case atStart => exact ⟨0, Nat.zero_le _, rfl, rfl⟩
            case round =>
              obtain ⟨k, hk4, rfl, rfl⟩ := hrel
              by_cases hkk : k < 4
              · have hkI : (k : Int) < 4 := by omega
                obtain ⟨c, hc, hcs⟩ := HSEC.out.2 k hkk
                obtain ⟨F, hF⟩ : ∃ F, k * 64 = F := ⟨_, rfl⟩
                have hF1 : (k : Int) * 64 = (F : Int) := by omega
                have hF2 : F + 64 ≤ 256 := by omega
                have hF3 : (F : Int) < 256 := by omega
                have byS : ∀ t, t < 64 → ∀ (h : F + t < S.size), S[F + t] = c := fun t ht h => by
                  subst hF
                  have hS := HS.out
                  subst hS
                  refine str_at _ _ h c ?_
                  have : ((x.drop (64 * k)).take 64)[t]? = some c := by rw [hcs, List.getElem?_replicate, if_pos ht]
                  rw [List.getElem?_take_of_lt ht, List.getElem?_drop, Nat.mul_comm] at this
                  exact this
                have hFS : F < S.size := by omega
                have b0 : S[F]'hFS = c := by simpa using byS 0 (by omega) (by omega)
                have hal := HAL.out c hc
                have HBY := hid byS
                clear byS hF hcs hc
                have hF4 : IntKind.i64.wrap ((k : Int) * 64) = (F : Int) := iw hF1 (by omega) (by omega)
                have hF6 : IntKind.i64.wrap (F : Int) = (F : Int) := iw rfl (by omega) (by omega)
                go_wp2_with fail
                go_loopw [21, 22] (fun fo i wr => ∃ t : Nat, t ≤ L.length ∧ i = .int .i64 t ∧ fo = .bool (fB c s0 L t) ∧ wE = wr) (fun _ i _ => L.length - (intOf i).toNat)
                case atStart => exact ⟨0, Nat.zero_le _, rfl, by simp [fB], rfl⟩
                case round =>
                  obtain ⟨t, ht, rfl, rfl, rfl⟩ := hrel
                  by_cases htl : t < L.length
                  · have htI : (t : Int) < (L.length : Int) := by omega
                    obtain ⟨g, hva, hct⟩ := cL.out t htl
                    rw [hva] at cv
                    cases hB : fB c s0 L t
                    · have hnx : Hid (fB c s0 L (t + 1) = ((c.toNat : Int) == (L[t].toNat : Int))) := by
                        show _ = _
                        rw [fB_succ c s0 L t htl, hB, Bool.false_or]
                      generalize L[t] = y at *
                      go_wp2_with fail
                      go_roundw
                      case rel => exact ⟨t + 1, by omega, int_eq (by omega), by rw [hnx.out], trivial⟩
                      case measure => simp [intOf]; omega
                    · have hnx : Hid (fB c s0 L (t + 1) = true) := by
                        show _ = _
                        rw [fB_succ c s0 L t htl, hB, Bool.true_or]
                      go_wp2_with fail
                      go_roundw
                      case rel => exact ⟨t + 1, by omega, int_eq (by omega), by rw [hnx.out], trivial⟩
                      case measure => simp [intOf]; omega
                  · obtain rfl : t = L.length := by omega
                    have hfb : fB c s0 L L.length = true := fB_all c s0 L hal
                    rw [hfb]
                    go_wp2_with fail
                    go_loopw [23] (fun i wr => ∃ t : Nat, t ≤ 64 ∧ i = .int .i64 t ∧ wE = wr) (fun i _ => 64 - (intOf i).toNat)
                    case atStart => exact ⟨0, Nat.zero_le _, rfl, rfl⟩
                    case round =>
                      obtain ⟨t, ht6, rfl, rfl⟩ := hrel
                      by_cases htl2 : t < 64
                      · have htI : (t : Int) < 64 := by omega
                        obtain ⟨G, hG⟩ : ∃ G, F + t = G := ⟨_, rfl⟩
                        have hGS : G < S.size := by omega
                        have bG : S[G]'hGS = c := by subst hG; exact HBY.out t htl2 hGS
                        have hG1 : (F : Int) + (t : Int) = (G : Int) := by omega
                        have hG2 : (G : Int) < 256 := by omega
                        have hG3 : IntKind.i64.wrap ((F : Int) + (t : Int)) = (G : Int) := iw hG1 (by omega) (by omega)
                        clear hG
                        go_wp2_with fail
                        go_roundw
                        case rel => exact ⟨t + 1, by omega, int_eq (by omega), trivial⟩
                        case measure => simp [intOf]; omega
                      · have htI : ¬ (t : Int) < 64 := by omega
                        go_wp2_with fail
                        go_roundw
                        case rel => exact ⟨k + 1, by omega, int_eq (by omega), trivial⟩
                        case measure => simp [intOf]; omega
              · have hkI : ¬ (k : Int) < 4 := by omega
                go_wp2_with fail
                go_roundw
                case rel => exact ⟨q + 1, by omega, int_eq (by omega), AE, HDE.out, HME.out⟩
                case measure => simp [intOf]; omega
          · have hqI : ¬ (q : Int) < 4 := by omega
            go_wp2_with fail
            go_ret
            exact ⟨rfl, hst2⟩
      · have hneb : ((n : Int) == (zs.length : Int)) = false := by simp; omega
        have hneI : ¬ (n : Int) = (zs.length : Int) := by omega
        obtain rfl : d = dY := by rw [← hdY, if_neg hnm]
        have AB := hst
        have MB := HM
        have KB := hrk
        have DB := hid hD
        obtain ⟨wB, hwB⟩ : ∃ x, x = wA := ⟨_, rfl⟩
        subst hwB
        clear hM hR0 hPwY hWY hD hF hPh hdY hW
        go_wp2_with fail
        obtain ⟨dC, hdCe⟩ : ∃ dC, cutD d ks = dC := ⟨_, rfl⟩
        obtain ⟨dE, hdEe⟩ : ∃ dE, comeD dC = dE := ⟨_, rfl⟩
        have HPE := hid (show Pw sv lt dE from by rw [← hdEe, ← hdCe]; exact pw_come (pw_cut HPY.out ks))
        have HWE := hid (show Wf dE from by rw [← hdEe, ← hdCe]; exact comeD_wf _ (cutD_wf _ _ HWY.out))
        have HFE := hid (show Few dE 41 from by rw [← hdEe, ← hdCe]; exact comeD_few _ _ (cutD_few _ _ _ HFY.out))
        have HON := hid (show dE.on = true from by rw [← hdEe]; exact come_on dC)
        refine (cut_call wB R 0 p _ DB.out HWY.out ka ks.length kc ks rfl hkc (by omega) (rowAt_keep KB.out (fun k hk hF => ⟨rfl, fun x => by have : R k = 0 := Classical.not_not.1 hF; omega⟩)) dC hdCe).mono ?_
        rintro e wC ⟨rfl, sC, hdC⟩
        have AC := AB.fresh sC (nz 0 HZ.out)
        have MC := MB.out.mono sC (R' := R) (fun k a b x => by unfold Rng at x; omega) (fun _ _ => rfl)
        go_wp2_with fail
        refine (come_call wC R 0 p _ hdC dE hdEe).mono ?_
        rintro e wD ⟨rfl, sD, hdD⟩
        have AD := AC.fresh sD (nz 0 HZ.out)
        have MD := hid (MC.mono sD (R' := R) (fun k a b x => by unfold Rng at x; omega) (fun _ _ => rfl))
        have DD := hid hdD
        clear hdD hdC MC hdCe hdEe
        go_wp2_with fail
        go_loopw [16, 17, 18, 19, 20, 21, 22, 23] (fun i _ _ _ _ _ _ _ wr => ∃ q : Nat, q ≤ 4 ∧ i = .int .i64 q ∧ Step noF w wr ∧ IsDev wr R 0 p { dE with reads := dE.reads + q } ∧ Mem wr R gs gl sv lt vs) (fun i _ _ _ _ _ _ _ _ => 4 - (intOf i).toNat)
        case atStart => exact ⟨0, Nat.zero_le _, rfl, AD, DD.out, MD.out⟩
        case round =>
          obtain ⟨q, hq, rfl, hst2, hdQ, hMQ⟩ := hrel
          by_cases hq4 : q < 4
          · have hqI : (q : Int) < 4 := by omega
            obtain ⟨x, hx, hsec⟩ : ∃ x, (flushL dE.safe dE.loose).getD q [] = x ∧ Sec sv lt q x := ⟨_, rfl, pw_read HPE.out q hq4⟩
            obtain ⟨S, hS⟩ : ∃ S, str x = S := ⟨_, rfl⟩
            have hSs : S.size = 256 := by rw [← hS, str_size, hsec.1]
            have hwq : Wf { dE with reads := dE.reads + q } := ⟨HWE.out.n1, HWE.out.n2, HWE.out.s, HWE.out.l, HWE.out.ll, by have := HFE.out.2.1; show dE.reads + q ≤ 1000; omega, HWE.out.cw, HWE.out.cf, HWE.out.fu⟩
            have hinq : inB { dE with reads := dE.reads + q } q = true := by have := HPE.out.1; simp [inB, this]; omega
            have hrd := read_call wr R 0 p { dE with reads := dE.reads + q } hdQ hwq q S 0 { dE with reads := dE.reads + (q + 1) } (by rw [readV, hinq]; simp only [HON.out, Bool.and_true, if_true]; rw [Int.toNat_natCast, hx]; exact hS) (by rw [readE, hinq, if_pos rfl]; simp only [HON.out, if_true]) (by rw [readD, hinq]; simp only [HON.out, Bool.and_true, if_true]; rfl)
            have HSEC := hid hsec
            have HMQ := hid hMQ
            have HS := hid hS
            clear hsec hMQ hS hx hwq hinq hdQ
            go_wp2_with fail
            refine hrd.mono ?_
            rintro e wE ⟨rfl, sE, hdE⟩
            have AE := hst2.fresh sE (nz 0 HZ.out)
            have ME := HMQ.out.mono sE (R' := R) (fun k a b x => by unfold Rng at x; omega) (fun _ _ => rfl)
            have HDE := hid hdE
            obtain ⟨s0, hs0⟩ : ∃ s0, sv.getD q 0 = s0 := ⟨_, rfl⟩
            obtain ⟨L, hL⟩ : ∃ L, lt.getD q [] = L := ⟨_, rfl⟩
            have hql : q < sv.length := by have := ME.2.2.2.2.2.1; omega
            have hqv : q < vs.length := by have := ME.2.2.2.2.1; omega
            have hqt : q < lt.length := by have := ME.2.2.2.2.2.2.1; omega
            have cs : wE.cell? ⟨gs, q, none⟩ = some (.int .u8 s0.toNat) := by
              rw [cell_of_block ME.1, List.getElem?_toArray, cellsOf, List.getElem?_map, List.getElem?_eq_getElem hql, ← hs0, getD_mem _ _ hql]; rfl
            obtain ⟨ow1, ow2⟩ := ME.2.2.2.2.2.2.2 q hq4
            obtain ⟨va, vc, hvf⟩ := owns_form ow1
            have cv : wE.cell? ⟨gl, q, none⟩ = some (.slice va L.length vc) := by
              rw [cell_of_block ME.2.1, List.getElem?_toArray, List.getElem?_eq_getElem hqv, ← getD_mem _ _ hqv undef, hvf, hL]
            rw [hvf, hL] at ow1
            have cL : Hid (∀ t (ht : t < L.length), ∃ g, va = some ⟨g, 0, none⟩ ∧ wE.cell? ⟨g, t, none⟩ = some (.int .u8 L[t].toNat)) := fun t ht => by
              obtain ⟨g, c', hv, _, hrow, _⟩ := rowIn_owns ow1 (by omega)
              injection hv with hv1 _ _
              refine ⟨g, hv1, ?_⟩
              rw [hrow.cell t (by rw [cellsOf_length]; exact ht)]
              simp [cellsOf]
            have hal : ∀ c, Al sv lt q c → c = s0 ∨ c ∈ L := fun c hc => by
              rcases hc with hc | ⟨l, h1, h2⟩
              · left
                rw [← hs0, List.getD_eq_getElem?_getD, hc]; rfl
              · right
                rw [← hL, List.getD_eq_getElem?_getD, h1]; exact h2
            have HAL := hid hal
            have HME := hid ME
            have hLl : L.length ≤ 1000 := by rw [← hL]; exact Nat.le_trans (hLen q) (by omega)
            clear hal ME hdE hrd ow1 ow2 hvf hs0 hL
            go_wp2_with fail
            go_loopw [19, 20, 21, 22, 23] (fun i _ _ _ _ wr => ∃ k : Nat, k ≤ 4 ∧ i = .int .i64 k ∧ wE = wr) (fun i _ _ _ _ _ => 4 - (intOf i).toNat)
            case atStart => exact ⟨0, Nat.zero_le _, rfl, rfl⟩
            case round =>
              obtain ⟨k, hk4, rfl, rfl⟩ := hrel
              by_cases hkk : k < 4
              · have hkI : (k : Int) < 4 := by omega
                obtain ⟨c, hc, hcs⟩ := HSEC.out.2 k hkk
                obtain ⟨F, hF⟩ : ∃ F, k * 64 = F := ⟨_, rfl⟩
                have hF1 : (k : Int) * 64 = (F : Int) := by omega
                have hF2 : F + 64 ≤ 256 := by omega
                have hF3 : (F : Int) < 256 := by omega
                have byS : ∀ t, t < 64 → ∀ (h : F + t < S.size), S[F + t] = c := fun t ht h => by
                  subst hF
                  have hS := HS.out
                  subst hS
                  refine str_at _ _ h c ?_
                  have : ((x.drop (64 * k)).take 64)[t]? = some c := by rw [hcs, List.getElem?_replicate, if_pos ht]
                  rw [List.getElem?_take_of_lt ht, List.getElem?_drop, Nat.mul_comm] at this
                  exact this
                have hFS : F < S.size := by omega
                have b0 : S[F]'hFS = c := by simpa using byS 0 (by omega) (by omega)
                have hal := HAL.out c hc
                have HBY := hid byS
                clear byS hF hcs hc
                have hF4 : IntKind.i64.wrap ((k : Int) * 64) = (F : Int) := iw hF1 (by omega) (by omega)
                have hF6 : IntKind.i64.wrap (F : Int) = (F : Int) := iw rfl (by omega) (by omega)
                go_wp2_with fail
                go_loopw [21, 22] (fun fo i wr => ∃ t : Nat, t ≤ L.length ∧ i = .int .i64 t ∧ fo = .bool (fB c s0 L t) ∧ wE = wr) (fun _ i _ => L.length - (intOf i).toNat)
                case atStart => exact ⟨0, Nat.zero_le _, rfl, by simp [fB], rfl⟩
                case round =>
                  obtain ⟨t, ht, rfl, rfl, rfl⟩ := hrel
                  by_cases htl : t < L.length
                  · have htI : (t : Int) < (L.length : Int) := by omega
                    obtain ⟨g, hva, hct⟩ := cL.out t htl
                    rw [hva] at cv
                    cases hB : fB c s0 L t
                    · have hnx : Hid (fB c s0 L (t + 1) = ((c.toNat : Int) == (L[t].toNat : Int))) := by
                        show _ = _
                        rw [fB_succ c s0 L t htl, hB, Bool.false_or]
                      generalize L[t] = y at *
                      go_wp2_with fail
                      go_roundw
                      case rel => exact ⟨t + 1, by omega, int_eq (by omega), by rw [hnx.out], trivial⟩
                      case measure => simp [intOf]; omega
                    · have hnx : Hid (fB c s0 L (t + 1) = true) := by
                        show _ = _
                        rw [fB_succ c s0 L t htl, hB, Bool.true_or]
                      go_wp2_with fail
                      go_roundw
                      case rel => exact ⟨t + 1, by omega, int_eq (by omega), by rw [hnx.out], trivial⟩
                      case measure => simp [intOf]; omega
                  · obtain rfl : t = L.length := by omega
                    have hfb : fB c s0 L L.length = true := fB_all c s0 L hal
                    rw [hfb]
                    go_wp2_with fail
                    go_loopw [23] (fun i wr => ∃ t : Nat, t ≤ 64 ∧ i = .int .i64 t ∧ wE = wr) (fun i _ => 64 - (intOf i).toNat)
                    case atStart => exact ⟨0, Nat.zero_le _, rfl, rfl⟩
                    case round =>
                      obtain ⟨t, ht6, rfl, rfl⟩ := hrel
                      by_cases htl2 : t < 64
                      · have htI : (t : Int) < 64 := by omega
                        obtain ⟨G, hG⟩ : ∃ G, F + t = G := ⟨_, rfl⟩
                        have hGS : G < S.size := by omega
                        have bG : S[G]'hGS = c := by subst hG; exact HBY.out t htl2 hGS
                        have hG1 : (F : Int) + (t : Int) = (G : Int) := by omega
                        have hG2 : (G : Int) < 256 := by omega
                        have hG3 : IntKind.i64.wrap ((F : Int) + (t : Int)) = (G : Int) := iw hG1 (by omega) (by omega)
                        clear hG
                        go_wp2_with fail
                        go_roundw
                        case rel => exact ⟨t + 1, by omega, int_eq (by omega), trivial⟩
                        case measure => simp [intOf]; omega
                      · have htI : ¬ (t : Int) < 64 := by omega
                        go_wp2_with fail
                        go_roundw
                        case rel => exact ⟨k + 1, by omega, int_eq (by omega), trivial⟩
                        case measure => simp [intOf]; omega
              · have hkI : ¬ (k : Int) < 4 := by omega
                go_wp2_with fail
                go_roundw
                case rel => exact ⟨q + 1, by omega, int_eq (by omega), AE, HDE.out, HME.out⟩
                case measure => simp [intOf]; omega
          · have hqI : ¬ (q : Int) < 4 := by omega
            go_wp2_with fail
            go_ret
            exact ⟨rfl, hst2⟩

set_option maxHeartbeats 2000000 in
set_option maxRecDepth 100000 in
theorem safe_walk (zs : List Int) (hzl : zs.length ≤ 9223372036854775807) (a : Option Addr) (cap : Nat) (f u : Int) (ks : List Bool) (hkl : ks.length ≤ 9223372036854775807) (ka : Option Addr) (kc : Nat) (hkc : ks.length ≤ kc) (w : World) (hr : RowAt w noF a (intsOf zs)) (hkr : RowAt w noF ka (bools ks)) :
    Calls Try.prog 5 #[.slice a zs.length cap, .int .i64 f, .int .i64 u, .slice ka ks.length kc] w fun e w' => e = .returned (.bool true) ∧ Step noF w w' := by
  by_cases hz : zs.length ≤ 20
  · by_cases hk : ks.length ≤ 100
    · exact safe_in zs hz a cap f u ks hk ka kc hkc w hr hkr
    · have k1 : ¬ (20 : Int) < (zs.length : Int) := by omega
      have k2 : (100 : Int) < (ks.length : Int) := by omega
      go_enter Try.func5, Try.ntmps5
      go_wp2_with (go_at_call 7; refine (awake_any _).mono ?_; rintro e w1 ⟨rfl, s1⟩)
      go_ret
      exact ⟨rfl, s1⟩
  · have k1 : (20 : Int) < (zs.length : Int) := by omega
    go_enter Try.func5, Try.ntmps5
    go_wp2_with (go_at_call 7; refine (awake_any _).mono ?_; rintro e w1 ⟨rfl, s1⟩)
    go_ret
    exact ⟨rfl, s1⟩
end Go.Proofs.Ytkmfpdpgbopdmaa
