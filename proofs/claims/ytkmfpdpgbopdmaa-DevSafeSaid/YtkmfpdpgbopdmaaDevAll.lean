/-
  The walk of the law DevAll.
-/
import Derived.Test.YtkmfpdpgbopdmaaDevAwake
namespace Go.Proofs.Ytkmfpdpgbopdmaa
open Go.RowKit
set_option linter.unusedVariables false

/-- The block that the law makes of a number. -/
theorem at4 (z : Int) : ∃ j : Nat, wrap64 ((IntKind.u64.wrap z).tmod 4) = (j : Int) ∧ j < 4 := by
  have h0 := wrap_u64_nonneg z
  have e : (IntKind.u64.wrap z).tmod 4 = (IntKind.u64.wrap z) % 4 := Int.tmod_eq_emod_of_nonneg h0
  have l0 := Int.emod_nonneg (IntKind.u64.wrap z) (b := 4) (by omega)
  have l1 := Int.emod_lt_of_pos (IntKind.u64.wrap z) (b := 4) (by omega)
  refine ⟨((IntKind.u64.wrap z) % 4).toNat, ?_, by omega⟩
  rw [e]
  unfold wrap64
  omega
def atOf (z : Int) : Nat := (wrap64 ((IntKind.u64.wrap z).tmod 4)).toNat
theorem atOf_eq (z : Int) : wrap64 ((IntKind.u64.wrap z).tmod 4) = (atOf z : Int) ∧ atOf z < 4 := by
  obtain ⟨j, h1, h2⟩ := at4 z
  unfold atOf
  rw [h1]
  exact ⟨by simp, by simpa using h2⟩

/-- The writes of the first i numbers. -/
def wsOf (zs : List Int) (i : Nat) : List (Nat × List UInt8) := (List.range i).map fun j => (atOf (zs.getD j 0), blk (UInt8.ofNat (j + 1)))
theorem wsOf_succ (zs : List Int) (i : Nat) : wsOf zs (i + 1) = wsOf zs i ++ [(atOf (zs.getD i 0), blk (UInt8.ofNat (i + 1)))] := by simp [wsOf, List.range_succ]
theorem wsOf_len (zs : List Int) (i : Nat) : (wsOf zs i).length = i := by simp [wsOf]
def z4 : List (List UInt8) := List.replicate 4 zeroB
theorem z4_len : z4.length = 4 := List.length_replicate
theorem z4_256 : ∀ x ∈ z4, x.length = 256 := fun x hx => by rw [z4, List.mem_replicate] at hx; rw [hx.2]; exact zeroB_len
theorem wsOf_ok (zs : List Int) (i : Nat) : ∀ x ∈ wsOf zs i, x.1 < z4.length ∧ x.2.length = 256 := by
  intro x hx
  simp only [wsOf, List.mem_map, List.mem_range] at hx
  obtain ⟨j, hj, rfl⟩ := hx
  exact ⟨by rw [z4_len]; exact (atOf_eq _).2, blk_len _⟩
/-- A device on which i writes were done. -/
def wd (zs : List Int) (i : Nat) : Dv := { safe := z4, loose := wsOf zs i, on := true, fuse := none, reads := 0, writes := i, flushes := 0 }
theorem wd_wf (zs : List Int) (i : Nat) (hi : i ≤ 20) : Wf (wd zs i) := ⟨by show 1 ≤ z4.length; rw [z4_len]; omega, by show z4.length ≤ 512; rw [z4_len]; omega, z4_256, wsOf_ok zs i, by show (wsOf zs i).length ≤ 1000; rw [wsOf_len]; omega, Nat.zero_le _, by show i ≤ 1000; omega, Nat.zero_le _, fun n ks h => by cases h⟩
theorem wd_in (zs : List Int) (i j : Nat) (hj : j < 4) : inB (wd zs i) j = true := by
  have : (wd zs i).safe.length = 4 := z4_len
  simp [inB, this]; omega
theorem wd_e (zs : List Int) (i j : Nat) (hj : j < 4) (b : UInt8) : wrE (wd zs i) j (blk b) = 0 := by
  rw [wrE, wd_in zs i j hj, if_pos rfl, if_pos (blk_len b)]; rfl
theorem wd_d (zs : List Int) (i : Nat) : wrD (wd zs i) (atOf (zs.getD i 0)) (blk (UInt8.ofNat (i + 1))) = wd zs (i + 1) := by
  rw [wrD, wd_in zs i _ (atOf_eq _).2, blk_len]
  simp only [Bool.true_and, BEq.rfl, if_true]
  rw [if_pos (show goB (wd zs i) = true from rfl), show goD (wd zs i) = wd zs i from rfl]
  simp [wd, wsOf_succ]

/-- With all kept all is there. -/
theorem sect_all (a b : List UInt8) (ha : a.length = 256) (hb : b.length = 256) (ks : List Bool) (hk : 4 ≤ ks.length) (hall : ∀ k ∈ ks, k = true) : laidN a b ks 4 = b := by
  have hg : ∀ j, j < 4 → ks.getD j false = true := fun j hj => by
    rw [List.getD_eq_getElem?_getD, List.getElem?_eq_getElem (by omega)]
    exact hall _ (List.getElem_mem _)
  simp only [laidN, hg 0 (by omega), hg 1 (by omega), hg 2 (by omega), hg 3 (by omega), if_true]
  have h1 : ∀ (x y : List UInt8) (i : Nat), x.length = 256 → y.length = 256 → i < 4 → x.take (64 * i) = y.take (64 * i) → (sect x y i).take (64 * (i + 1)) = y.take (64 * (i + 1)) := by
    intro x y i hx hy hi ht
    rw [sect, ht, List.append_assoc, show 64 * (i + 1) = 64 * i + 64 by omega]
    rw [List.take_append, List.take_append]
    simp only [List.length_take, List.length_drop, hy]
    rw [List.take_of_length_le (by simp; omega), show min (64 * i) 256 = 64 * i by omega, show 64 * i + 64 - 64 * i = 64 by omega]
    rw [List.take_of_length_le (l := List.take 64 (List.drop (64 * i) y)) (by simp; omega), show 64 - min 64 (256 - 64 * i) = 0 by omega, List.take_zero, List.append_nil, ← List.take_add]
  have l0 := sect_len a b 0 ha hb (by omega)
  have l1 := sect_len _ b 1 l0 hb (by omega)
  have l2 := sect_len _ b 2 l1 hb (by omega)
  have l3 := sect_len _ b 3 l2 hb (by omega)
  have t1 := h1 a b 0 ha hb (by omega) (by simp)
  have t2 := h1 _ b 1 l0 hb (by omega) t1
  have t3 := h1 _ b 2 l1 hb (by omega) t2
  have t4 := h1 _ b 3 l2 hb (by omega) t3
  rw [List.take_of_length_le (by omega), List.take_of_length_le (by omega)] at t4
  exact t4
theorem cut_all (s : List (List UInt8)) (ws : List (Nat × List UInt8)) (ks : List Bool) (hs : ∀ x ∈ s, x.length = 256) (hl : ∀ x ∈ ws, x.1 < s.length ∧ x.2.length = 256) (hk : ks.length = 4 * ws.length) (hall : ∀ k ∈ ks, k = true) (j : Nat) (hj : j ≤ ws.length) : cutN s ws ks j = flushL s (ws.take j) := by
  induction j with
  | zero => rfl
  | succ j ih =>
    have ih := ih (by omega)
    rw [take_snoc _ _ (show j < ws.length by omega), flushL_snoc, cutN, getD_mem ws j (by omega), ih]
    have h1 := hl ws[j] (List.getElem_mem _)
    congr 1
    refine sect_all _ _ ?_ h1.2 _ (by rw [List.length_drop]; omega) (fun k hk2 => hall k (List.mem_of_mem_drop hk2))
    rw [getD_mem _ _ (by rw [flushL_length]; exact h1.1)]
    exact flushL_256 s _ hs (fun x hx => (hl x (List.mem_of_mem_take hx)).2) _ (List.getElem_mem _)
theorem laid_none (a b : List UInt8) (j : Nat) : laidN a b [] j = a := by
  induction j with
  | zero => rfl
  | succ j ih => rw [laidN, ih]; rfl
theorem set_self {α : Type} (l : List α) (i : Nat) (z : α) : l.set i (l.getD i z) = l := by
  by_cases h : i < l.length
  · rw [getD_mem _ _ h]; exact List.set_getElem_self h
  · rw [List.set_eq_of_length_le (by omega)]
theorem cut_none (s : List (List UInt8)) (ws : List (Nat × List UInt8)) (j : Nat) : cutN s ws [] j = s := by
  induction j with
  | zero => rfl
  | succ j ih => rw [cutN, ih, List.drop_nil, laid_none, set_self]

theorem info_bool2 : (Try.prog.info? 4).map (fun i => (i.zero, i.size, i.bytes)) = some (some (.bool false), 1, 1) := by kernel_rfl
theorem four_new (w : World) (t : TypeId) (a b c d : Value) (g : Nat) (hg : g = w.heap.size) : ∀ j u, [a, b, c, d][j]? = some u → (w.alloc (.cells #[a, b, c, d] t)).cell? (Addr.add ⟨g, 0, none⟩ j) = some u := by
  intro j u hj
  subst hg
  rw [Addr.add_lit, Nat.zero_add, cell_of_block (block_alloc_new _ _)]
  rw [← hj, List.getElem?_toArray]

theorem u8_next (j : Nat) (hj : j ≤ 20) : IntKind.u8.wrap ((j : Int) + 1) = ((UInt8.ofNat (j + 1)).toNat : Int) := by
  simp [IntKind.wrap, IntKind.bits, IntKind.signed]
/-- Three devices, and a row of one's own. -/
def Three (w : World) (R : Nat → Nat) (pa pb pc : Nat) (d : Dv) : Prop := IsDev w R 0 pa d ∧ IsDev w R 10 pb d ∧ IsDev w R 20 pc d
theorem Three.mono {w w' : World} {R R' : Nat → Nat} {pa pb pc : Nat} {d : Dv} {G : Nat → Prop} (h : Three w R pa pb pc d) (hs : Step G w w') (hG : ∀ k, R k ≤ 30 → 0 < R k → ¬ G k) (hR : ∀ k, k < w.heap.size → R' k = R k) : Three w' R' pa pb pc d :=
  ⟨h.1.mono hs (fun k a b => hG k (by omega) (by omega)) hR, h.2.1.mono hs (fun k a b => hG k (by omega) (by omega)) hR, h.2.2.mono hs (fun k a b => hG k (by omega) (by omega)) hR⟩

theorem field_1 (x y z : Int) (u : World) : (Instr.field 51 (.agg #[.int .i64 x, .int .i64 y, .int .i64 z]) 1).run Try.prog u = .ok (.int .i64 y) u := by kernel_rfl
theorem field_2 (x y z : Int) (u : World) : (Instr.field 51 (.agg #[.int .i64 x, .int .i64 y, .int .i64 z]) 2).run Try.prog u = .ok (.int .i64 z) u := by kernel_rfl
theorem image_call (w : World) (R : Nat → Nat) (o p : Nat) (d : Dv) (h : IsDev w R o p d) (hw : Wf d) (I : ByteArray) (hI : str d.safe.flatten = I) : Calls Try.prog 24 #[.pointer (some ⟨p, 0, none⟩)] w fun e w' => e = .returned (.string I) ∧ Step noF w w' := by
  subst hI
  exact image_any w R o p d h hw

set_option maxHeartbeats 8000000 in
set_option maxRecDepth 100000 in
theorem all_in (zs : List Int) (hz : zs.length ≤ 20) (a : Option Addr) (cap : Nat) (w : World) (hr : RowAt w noF a (intsOf zs)) :
    Calls Try.prog 6 #[.slice a zs.length cap] w fun e w' => e = .returned (.bool true) ∧ Step noF w w' := by
  have k1 : ¬ (20 : Int) < (zs.length : Int) := by omega
  obtain ⟨i0, hi, hz0, hz1, hz2⟩ := info_three info_bool2
  go_enter Try.func6, Try.ntmps6
  go_wp2_with fail
  refine (awake_any _).mono ?_
  rintro e w1 ⟨rfl, s1⟩
  go_wp2_with fail
  refine (new_any 4 4 rfl (by omega) (by omega) w1 (fun _ => 0) 0).mono ?_
  rintro e w2 ⟨pa, Ra, hRa, rfl, s2, hpa, hda⟩
  have HA := hid (show IsDev w2 Ra 0 pa (wd zs 0) from hda)
  clear hda
  go_wp2_with fail
  refine (new_any 4 4 rfl (by omega) (by omega) w2 Ra 10).mono ?_
  rintro e w3 ⟨pb, Rb, hRb, rfl, s3, hpb, hdb⟩
  have HA3 := hid (HA.out.mono s3 (fun _ _ _ x => x) hRb)
  have HB := hid (show IsDev w3 Rb 10 pb (wd zs 0) from hdb)
  clear hdb HA
  go_wp2_with fail
  refine (new_any 4 4 rfl (by omega) (by omega) w3 Rb 20).mono ?_
  rintro e w4 ⟨pc, Rc, hRc, rfl, s4, hpc, hdc⟩
  have H4 := hid (show Three w4 Rc pa pb pc (wd zs 0) from ⟨HA3.out.mono s4 (fun _ _ _ x => x) hRc, HB.out.mono s4 (fun _ _ _ x => x) hRc, hdc⟩)
  have A4 := ((s1.trans s2).trans s3).trans s4
  have zR : ∀ k, k < w.heap.size → Rc k = 0 := fun k hk => by
    have e1 := Nat.lt_of_lt_of_le hk s1.size
    have e2 := Nat.lt_of_lt_of_le e1 s2.size
    have e3 := Nat.lt_of_lt_of_le e2 s3.size
    rw [hRc k e3, hRb k e2, hRa k e1]
  clear hdc HA3 HB hRa hRb hRc s1 s2 s3 s4 hpa hpb hpc
  go_wp2_with fail
  go_loopw [6, 7, 8, 9] (fun v i _ _ wr => ∃ (j : Nat) (R : Nat → Nat), j ≤ zs.length ∧ i = .int .i64 j ∧ Step noF w wr ∧ (∀ k, k < w.heap.size → R k = 0) ∧ Three wr R pa pb pc (wd zs j) ∧ wr.ownsRow 0 4 1 v (4 * j) (bools (List.replicate (4 * j) true)) ∧ (∀ k, v.ownBlock = some k → R k = 40)) (fun _ i _ _ _ => zs.length - (intOf i).toNat)
  case atStart =>
    refine ⟨0, fun k => if k < w4.heap.size then Rc k else 40, Nat.zero_le _, rfl, A4.alloc _, fun k hk => (if_pos (Nat.lt_of_lt_of_le hk A4.size)).trans (zR k hk), H4.out.mono ((Step.refl noF w4).alloc _) (fun _ _ _ x => x) (fun k hk => if_pos hk), ?_, fun k hk => ?_⟩
    · exact ⟨by simp [bools], .inr ⟨_, 0, #[], rfl, Nat.zero_le _, block_alloc_new _ _, Nat.le_refl _, Nat.zero_le _, by simp, by simp [bools]⟩⟩
    · simp [Value.ownBlock] at hk
      subst hk
      exact if_neg (by omega)
  case round =>
    obtain ⟨j, R, hj, rfl, hst, hR0, hT, hown, hvR⟩ := hrel
    by_cases hjn : j < zs.length
    · have hji : (j : Int) < (zs.length : Int) := by omega
      obtain ⟨b, off, rfl, hcell⟩ := hr.at j hjn
      have hcw := hst.after hcell
      obtain ⟨z, hzj⟩ : ∃ z, zs[j] = z := ⟨_, rfl⟩
      rw [hzj] at hcw
      obtain ⟨at_, hat4⟩ : ∃ at_ : Nat, atOf (zs.getD j 0) = at_ := ⟨_, rfl⟩
      have hat : wrap64 ((IntKind.u64.wrap z).tmod 4) = (at_ : Int) := by rw [← hat4, getD_mem _ _ hjn, hzj]; exact (atOf_eq z).1
      have hat5 : at_ < 4 := by rw [← hat4]; exact (atOf_eq _).2
      have HZJ := hid hzj
      have HAT := hid hat4
      have h8 := u8_next j (by omega)
      obtain ⟨X, hX⟩ : ∃ X, str (blk (UInt8.ofNat (j + 1))) = X := ⟨_, rfl⟩
      have hE : ∀ d, d = wd zs j → wrE d at_ (blk (UInt8.ofNat (j + 1))) = 0 := fun d e => by subst e; exact wd_e zs j at_ hat5 _
      have hD : ∀ d, d = wd zs j → wrD d at_ (blk (UInt8.ofNat (j + 1))) = wd zs (j + 1) := fun d e => by subst e; rw [← hat4]; exact wd_d zs j
      have HT := hid hT
      have HO := hid hown
      have HZ := hid hR0
      have HX := hid hX
      have HW := hid (wd_wf zs j (by omega))
      obtain ⟨b8, hb8⟩ : ∃ b8, (UInt8.ofNat (j + 1)).toNat = b8 := ⟨_, rfl⟩
      rw [hb8] at h8
      have B8 : Hid ((b8 : Int) = ((UInt8.ofNat (j + 1)).toNat : Int)) := by show _ = _; rw [hb8]
      clear hT hown hcell hX hR0 hzj hat4 hb8
      go_wp2_with fail
      refine (block_call _ (UInt8.ofNat (j + 1)) B8.out X HX.out _).mono ?_
      rintro e w5 ⟨rfl, s5⟩
      have T5 := HT.out.mono s5 (fun _ _ _ x => x) (fun _ _ => rfl)
      go_wp2_with fail
      refine (write_call w5 R 0 pa _ T5.1 HW.out at_ _ (by rw [blk_len]; omega) X HX.out 0 _ (hE _ rfl) (hD _ rfl)).mono ?_
      rintro e w6 ⟨rfl, s6, R6, hR6, hd6⟩
      have b6 := T5.2.1.other s6 (.inr (by omega)) hR6
      have c6 := T5.2.2.other s6 (.inr (by omega)) hR6
      go_wp2_with fail
      refine (write_call w6 R6 10 pb _ b6 HW.out at_ _ (by rw [blk_len]; omega) X HX.out 0 _ (hE _ rfl) (hD _ rfl)).mono ?_
      rintro e w7 ⟨rfl, s7, R7, hR7, hd7⟩
      have a7 := hd6.other s7 (.inl (by omega)) hR7
      have c7 := c6.other s7 (.inr (by omega)) hR7
      go_wp2_with fail
      refine (write_call w7 R7 20 pc _ c7 HW.out at_ _ (by rw [blk_len]; omega) X HX.out 0 _ (hE _ rfl) (hD _ rfl)).mono ?_
      rintro e w8 ⟨rfl, s8, R8, hR8, hd8⟩
      have T8 : Three w8 R8 pa pb pc (wd zs (j + 1)) := ⟨a7.other s8 (.inl (by omega)) hR8, hd7.other s8 (.inl (by omega)) hR8, hd8⟩
      have A5 := hst.trans s5
      have nz : ∀ {Q : Nat → Nat} (o : Nat), (∀ q, q < w.heap.size → Q q = 0) → ∀ q, q < w.heap.size → ¬ (o < Q q ∧ Q q ≤ o + 6) := fun o h q hq x => by have := h q hq; omega
      have z6 := agree A5 HZ.out hR6
      have A6 := A5.fresh s6 (nz 0 HZ.out)
      have z7 := agree A6 z6 hR7
      have A7 := A6.fresh s7 (nz 10 z6)
      have z8 := agree A7 z7 hR8
      have A8 := A7.fresh s8 (nz 20 z7)
      have kv : ∀ k, u6.ownBlock = some k → w8.heap[k]? = wr.heap[k]? ∧ R8 k = 40 := fun k hk => by
        have k0 := (HO.out.lt k hk).2
        have q0 := hvR k hk
        have k5 := Nat.lt_of_lt_of_le k0 s5.size
        have q6 := (hR6 k k5).trans q0
        have k6 := Nat.lt_of_lt_of_le k5 s6.size
        have q7 := (hR7 k k6).trans q6
        have k7 := Nat.lt_of_lt_of_le k6 s7.size
        have q8 := (hR8 k k7).trans q7
        refine ⟨?_, q8⟩
        rw [s8.block k k7 (fun x => by unfold Rng at x; omega), s7.block k k6 (fun x => by unfold Rng at x; omega), s6.block k k5 (fun x => by unfold Rng at x; omega), s5.block k k0 (fun x => x)]
      have HV := hid (owns_keep HO.out (fun k hk => (kv k hk).1))
      have HT8 := hid T8
      have hmx : Hid (4 * j + 4 ≤ maxLen) := by show _ ≤ _; unfold maxLen; omega
      have hmb : Hid ((4 * j + 4) * 1 ≤ 140737488355328) := by show _ ≤ _; omega
      have hone : Hid (∀ u ∈ [Value.bool true, Value.bool true, Value.bool true, Value.bool true], u.oneCell' = true) := by
        intro u hu
        simp at hu
        subst hu; rfl
      clear T8 T5 hd6 hd7 hd8 b6 c6 a7 c7
      go_wp2_with (at_builtin; refine wpList_append_fresh rfl (.tmp 55) (.tmp 56) 28 rfl 4 i0 (.bool false) 1 1 Try.underlying28 hi hz0 hz1 hz2 rfl (by decide) u6 _ _ (by simp [Act.eval]) (by exact HV.out.alloc _) ⟨w8.heap.size, 0, none⟩ 4 4 [.bool true, .bool true, .bool true, .bool true] (by simp [Act.eval]) rfl (four_new _ _ _ _ _ _ _ rfl) hone.out hmx.out hmb.out ?_; intro v' w9 ho9 hg9 hfr9)
      go_roundw
      case rel =>
        have s9 : Step (fun k => R8 k = 40) w8 w9 := ((Step.refl _ w8).alloc _).grown hg9 (fun k hk => .inl (kv k hk).2)
        refine ⟨j + 1, fun k => if k < w8.heap.size then R8 k else 40, by omega, int_eq (by omega), A8.then s9 (fun k hk => ?_), fun k hk => (if_pos (Nat.lt_of_lt_of_le hk A8.size)).trans (z8 k hk), HT8.out.mono s9 (fun k h1 h2 h3 => by omega) (fun k hk => if_pos hk), ?_, fun k hk => ?_⟩
        · rcases Nat.lt_or_ge k w.heap.size with h | h
          · have := z8 k h; omega
          · exact .inr h
        · have e1 : bools (List.replicate (4 * (j + 1)) true) = bools (List.replicate (4 * j) true) ++ [.bool true, .bool true, .bool true, .bool true] := by
            rw [show 4 * (j + 1) = 4 * j + 4 by omega, ← List.replicate_append_replicate, bools, List.map_append]; rfl
          rw [e1, show 4 * (j + 1) = 4 * j + 4 by omega]
          exact ho9
        · show (if _ then _ else _) = _
          split
          · rcases hfr9 with e | e
            · exact (kv k (by rw [← e]; exact hk)).2
            · have := e k hk
              simp at this
              omega
          · rfl
      case measure => simp [intOf]; omega
    · obtain rfl : j = zs.length := by omega
      have hW := wd_wf zs zs.length hz
      have hB1 : flE (wd zs zs.length) = 0 := rfl
      obtain ⟨dB, hdB⟩ : ∃ dB, flD (wd zs zs.length) = dB := ⟨_, rfl⟩
      have hfew : Few (wd zs zs.length) 20 := ⟨by show (wsOf _ _).length ≤ 20; rw [wsOf_len]; exact hz, Nat.zero_le _, hz, Nat.zero_le _⟩
      have wB : Wf dB := by rw [← hdB]; exact flD_wf _ hW 20 hfew (by omega)
      obtain ⟨dA2, hdA2⟩ : ∃ d, cutD (wd zs zs.length) (List.replicate (4 * zs.length) true) = d := ⟨_, rfl⟩
      obtain ⟨dB2, hdB2⟩ : ∃ d, cutD dB [] = d := ⟨_, rfl⟩
      obtain ⟨dC2, hdC2⟩ : ∃ d, cutD (wd zs zs.length) [] = d := ⟨_, rfl⟩
      have wA2 : Wf dA2 := by rw [← hdA2]; exact cutD_wf _ _ hW
      have wB2 : Wf dB2 := by rw [← hdB2]; exact cutD_wf _ _ wB
      have wC2 : Wf dC2 := by rw [← hdC2]; exact cutD_wf _ _ hW
      have eA : dA2.safe = flushL z4 (wsOf zs zs.length) := by
        rw [← hdA2, show (cutD (wd zs zs.length) (List.replicate (4 * zs.length) true)).safe = cutN z4 (wsOf zs zs.length) (List.replicate (4 * zs.length) true) (wsOf zs zs.length).length from rfl]
        rw [cut_all z4 _ _ z4_256 (wsOf_ok zs _) (by rw [List.length_replicate, wsOf_len]) (fun k hk => (List.mem_replicate.1 hk).2) _ (Nat.le_refl _), List.take_of_length_le (Nat.le_refl _)]
      have eB : dB2.safe = flushL z4 (wsOf zs zs.length) := by rw [← hdB2, ← hdB]; rfl
      have eC : dC2.safe = z4 := by
        rw [← hdC2, show (cutD (wd zs zs.length) []).safe = cutN z4 (wsOf zs zs.length) [] (wsOf zs zs.length).length from rfl, cut_none]
      have cA : dA2.writes = zs.length := by rw [← hdA2]; rfl
      have cB : dB2.flushes = 1 := by rw [← hdB2, ← hdB]; rfl
      obtain ⟨I1, hI1⟩ : ∃ I1, str (flushL z4 (wsOf zs zs.length)).flatten = I1 := ⟨_, rfl⟩
      obtain ⟨I2, hI2⟩ : ∃ I2, str z4.flatten = I2 := ⟨_, rfl⟩
      have HA := hid hT.1
      have HB := hid hT.2.1
      have HC := hid hT.2.2
      have ⟨ao, cc, hao⟩ := owns_form hown
      subst hao
      have hkeep : Hid (RowAt wr (fun k => R k ≠ 40) ao (bools (List.replicate (4 * zs.length) true)) ∧ 4 * zs.length ≤ cc) := by
        rcases Nat.eq_zero_or_pos (4 * zs.length) with h0 | h0
        · exact ⟨.inl (by rw [h0]; rfl), by omega⟩
        · obtain ⟨g, c', hv, hcc, hrow, hg⟩ := rowIn_owns hown h0
          injection hv with hv1 _ hv3
          subst hv1 hv3
          refine ⟨.inr ⟨g, 0, rfl, fun x => x (hvR g hg), fun q hq => by rw [Nat.zero_add]; exact hrow.cell q hq⟩, hcc⟩
      have kk : ∀ k, Value.ownBlock (.slice ao (4 * zs.length) cc) = some k → R k = 40 := hvR
      have nz : ∀ (o : Nat), ∀ q, q < w.heap.size → ¬ (o < R q ∧ R q ≤ o + 6) := fun o q hq x => by have := hR0 q hq; omega
      have HW := hid hW
      have HWB := hid wB
      have HW2 := hid (show Wf dA2 ∧ Wf dB2 ∧ Wf dC2 from ⟨wA2, wB2, wC2⟩)
      have HD := hid (show flD (wd zs zs.length) = dB ∧ cutD (wd zs zs.length) (List.replicate (4 * zs.length) true) = dA2 ∧ cutD dB [] = dB2 ∧ cutD (wd zs zs.length) [] = dC2 from ⟨hdB, hdA2, hdB2, hdC2⟩)
      have HE := hid (show dA2.safe = flushL z4 (wsOf zs zs.length) ∧ dB2.safe = flushL z4 (wsOf zs zs.length) ∧ dC2.safe = z4 ∧ dA2.writes = zs.length ∧ dB2.flushes = 1 from ⟨eA, eB, eC, cA, cB⟩)
      have HI := hid (show str (flushL z4 (wsOf zs zs.length)).flatten = I1 ∧ str z4.flatten = I2 from ⟨hI1, hI2⟩)
      clear hT hown hW wB wA2 wB2 wC2 hdB hdA2 hdB2 hdC2 eA eB eC cA cB hI1 hI2 hfew hB1 hvR kk
      obtain ⟨m4, hm4⟩ : ∃ m4, 4 * zs.length = m4 := ⟨_, rfl⟩
      have HM4 := hid hm4
      rw [hm4]
      clear hm4
      obtain ⟨wA, hwA⟩ : ∃ x, x = wr := ⟨_, rfl⟩
      subst hwA
      go_wp2_with fail
      refine (flush_call wA R 10 pb _ HB.out HW.out 0 dB rfl HD.out.1).mono ?_
      rintro e w5 ⟨rfl, s5, hb5⟩
      have a5 := HA.out.other (R' := R) s5 (.inl (by omega)) (fun _ _ => rfl)
      have c5 := HC.out.other (R' := R) s5 (.inr (by omega)) (fun _ _ => rfl)
      have A5 := hst.fresh s5 (nz 10)
      have HK5 := hid (rowAt_keep (w' := w5) (G := fun k => 0 < R k ∧ R k ≤ 0 + 3) hkeep.out.1 (fun k hk hF => by
        have q : R k = 40 := Classical.not_not.1 hF
        exact ⟨s5.block k hk (fun x => by unfold Rng at x; omega), by omega⟩))
      go_wp2_with fail
      refine (cut_call w5 R 0 pa _ a5 HW.out ao m4 cc (List.replicate (4 * zs.length) true) (by rw [List.length_replicate]; exact HM4.out.symm) (by rw [List.length_replicate]; exact hkeep.out.2) (by rw [List.length_replicate]; omega) HK5.out dA2 HD.out.2.1).mono ?_
      rintro e w6 ⟨rfl, s6, a6⟩
      have b6 := hb5.other (R' := R) s6 (.inr (by omega)) (fun _ _ => rfl)
      have c6 := c5.other (R' := R) s6 (.inr (by omega)) (fun _ _ => rfl)
      have A6 := A5.fresh s6 (nz 0)
      go_wp2_with fail
      refine (cut_call w6 R 10 pb _ b6 HWB.out none 0 0 [] rfl (by decide) (by decide) (.inl rfl) dB2 HD.out.2.2.1).mono ?_
      rintro e w7 ⟨rfl, s7, b7⟩
      have a7 := a6.other (R' := R) s7 (.inl (by omega)) (fun _ _ => rfl)
      have c7 := c6.other (R' := R) s7 (.inr (by omega)) (fun _ _ => rfl)
      have A7 := A6.fresh s7 (nz 10)
      go_wp2_with fail
      refine (cut_call w7 R 20 pc _ c7 HW.out none 0 0 [] rfl (by decide) (by decide) (.inl rfl) dC2 HD.out.2.2.2).mono ?_
      rintro e w8 ⟨rfl, s8, c8⟩
      have a8 := a7.other (R' := R) s8 (.inl (by omega)) (fun _ _ => rfl)
      have b8 := b7.other (R' := R) s8 (.inl (by omega)) (fun _ _ => rfl)
      have A8 := A7.fresh s8 (nz 20)
      go_wp2_with fail
      refine (image_call w8 R 0 pa _ a8 HW2.out.1 I1 (by rw [HE.out.1]; exact HI.out.1)).mono ?_
      rintro e w9 ⟨rfl, s9⟩
      go_wp2_with fail
      refine (image_call w9 R 10 pb _ (b8.step s9) HW2.out.2.1 I1 (by rw [HE.out.2.1]; exact HI.out.1)).mono ?_
      rintro e w10 ⟨rfl, s10⟩
      go_wp2_with fail
      refine (image_call w10 R 20 pc _ ((c8.step s9).step s10) HW2.out.2.2 I2 (by rw [HE.out.2.2.1]; exact HI.out.2)).mono ?_
      rintro e w11 ⟨rfl, s11⟩
      go_wp2_with fail
      refine (new_any 4 4 rfl (by omega) (by omega) w11 (fun _ => 0) 30).mono ?_
      rintro e w12 ⟨pd, Rd, hRd, rfl, s12, hpd, hdd⟩
      go_wp2_with fail
      refine (image_call w12 Rd 30 pd _ hdd (newD_wf _ (by decide) (by decide) z4_256) I2 HI.out.2).mono ?_
      rintro e w13 ⟨rfl, s13⟩
      have S13 := (((s9.trans s10).trans s11).trans s12).trans s13
      have hf1 := field_1
      have hf2 := field_2
      have hca := count_any w13 R 0 pa _ (a8.step S13)
      rw [HE.out.2.2.2.1] at hca
      go_wp2_with fail
      refine hca.mono ?_
      rintro e w14 ⟨rfl, s14⟩
      have hcb := count_any w14 R 10 pb _ ((b8.step S13).step s14)
      rw [HE.out.2.2.2.2] at hcb
      go_wp2_with fail
      refine hcb.mono ?_
      rintro e w15 ⟨rfl, s15⟩
      go_wp2_with fail
      go_ret
      exact ⟨rfl, ((A8.trans S13).trans s14).trans s15⟩

set_option maxHeartbeats 2000000 in
set_option maxRecDepth 100000 in
theorem all_walk (zs : List Int) (hzl : zs.length ≤ 9223372036854775807) (a : Option Addr) (cap : Nat) (w : World) (hr : RowAt w noF a (intsOf zs)) :
    Calls Try.prog 6 #[.slice a zs.length cap] w fun e w' => e = .returned (.bool true) ∧ Step noF w w' := by
  by_cases hz : zs.length ≤ 20
  · exact all_in zs hz a cap w hr
  · have k1 : (20 : Int) < (zs.length : Int) := by omega
    go_enter Try.func6, Try.ntmps6
    go_wp2_with (go_at_call 7; refine (awake_any _).mono ?_; rintro e w1 ⟨rfl, s1⟩)
    go_ret
    exact ⟨rfl, s1⟩
end Go.Proofs.Ytkmfpdpgbopdmaa
