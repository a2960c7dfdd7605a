/-
  Loads: the weight of each part.
  Heaviest: the place of the heaviest part.
-/
import Derived.Test.YtipgbpopcamllaaGreatBfF
import Derived.Test.YtipgbpopcamllaaGreatKeyH
import Derived.Test.YtipgbpopcamllaaGreatBfG
namespace Go.Proofs.YtipgbpopcamllaaGreat
open Go.RowKit Go.Sort
set_option linter.unusedVariables false
set_option linter.unusedSimpArgs false
set_option maxRecDepth 20000

/-- The first j numbers, and nothing yet in the places behind. -/
def filled (ls : List Nat) (j : Nat) : List Int := (ls.take j).map (fun n : Nat => (n : Int)) ++ List.replicate (ls.length - j) 0
theorem filled_len (ls : List Nat) (j : Nat) (hj : j ≤ ls.length) : (filled ls j).length = ls.length := by simp [filled]; omega
theorem filled_set (ls : List Nat) (j : Nat) (hj : j < ls.length) : (filled ls j).set j (ls[j] : Int) = filled ls (j + 1) := by
  unfold filled
  rw [List.take_succ_eq_append_getElem hj, List.map_append, List.set_append_right _ _ (by simp; omega)]
  rw [show ls.length - j = (ls.length - (j + 1)) + 1 by omega, List.replicate_succ]
  simp
  rw [show j - min j ls.length = 0 by omega]
  simp
theorem filled_all (ls : List Nat) : filled ls ls.length = ls.map (fun n : Nat => (n : Int)) := by simp [filled]
theorem intsB_set (l : List Int) (j : Nat) (b : Int) : (intsOf l).set j (.int .i64 b) = intsOf (l.set j b) := by simp [intsOf, List.map_set]
theorem intsB_len (l : List Int) : (intsOf l).length = l.length := by simp [intsOf]
theorem info_intB : (Tryz.prog.info? 3).map (fun i => (i.zero, i.size, i.bytes)) = some (some (.int .i64 0), 1, 8) := by kernel_rfl
theorem loadsM_len (ps : List (List UInt8)) (xs : List Mg) : (loadsM ps xs).length = ps.length + 1 := by rw [loadsM, List.length_map, cut_length]
theorem loadsM_at (ps : List (List UInt8)) (xs : List Mg) (j : Nat) (hj : j < ((Rg.mk [] []).cut ps).length) : (loadsM ps xs)[j]'(by rw [loadsM, List.length_map]; exact hj) = wtM (takeM ((Rg.mk [] []).cut ps)[j] xs) := by simp [loadsM]
theorem loadsM_at2 (ps : List (List UInt8)) (xs : List Mg) (j : Nat) (r : Rg) (h : ((Rg.mk [] []).cut ps)[j]? = some r) : (loadsM ps xs)[j]? = some (wtM (takeM r xs)) := by simp [loadsM, h]
theorem made_zeros (n : Nat) : (madeCells (Value.int .i64 0).cells (n * 1)).toList = intsOf (List.replicate n 0) := by
  rw [Nat.mul_one]
  refine List.ext_getElem (by simp [madeCells, intsOf]) (fun i h1 h2 => ?_)
  simp [madeCells, intsOf, Value.cells]
  rw [show i % 1 = 0 by omega]
  rfl
theorem takeM_small (r : Rg) {xs : List Mg} (h : SmallM xs) : SmallM (takeM r xs) := ⟨Nat.le_trans (takeM_len r xs) h.1, fun x hx => h.2 x (List.mem_filter.1 hx).1⟩
theorem wtM_le {xs : List Mg} (h : SmallM xs) : wtM xs ≤ 2000003000000 := by
  have h1 := wtM_small xs h.2
  have h2 := h.1
  omega

theorem loadsB_nil (a : Option Addr) (n c : Nat) (w : World) : Calls Tryz.prog 11 #[.pointer none, .slice a n c] w fun e w' => e = .returned (.slice none 0 0) ∧ w = w' := by
  go_enter Tryz.func11, Tryz.ntmps11
  go_wp2
  go_ret
  exact ⟨rfl, rfl⟩
/-- What Loads answers. -/
def LoadsPost (w : World) (ps : List (List UInt8)) (xs : List Mg) (e : Ending) (w' : World) : Prop := ∃ g, e = .returned (.slice (some ⟨g, 0, none⟩) (ps.length + 1) (ps.length + 1)) ∧ w'.ownsRow w.heap.size 3 1 (.slice (some ⟨g, 0, none⟩) (ps.length + 1) (ps.length + 1)) (ps.length + 1) (intsOf ((loadsM ps xs).map (fun n : Nat => (n : Int))))
set_option maxHeartbeats 4000000 in
theorem loadsB_any (p : Nat) (xs : List Mg) (hS : SmallM xs) (hR : RisingM xs) (hG : GoodM xs) (ps : List (List UInt8)) (hp : ps.length ≤ 1000) (a : Option Addr) (cap : Nat) (w : World) (h : BuffAt w p xs) (hr : RowAt w noF a (texts ps)) :
    Calls Tryz.prog 11 #[.pointer (some ⟨p, 0, none⟩), .slice a ps.length cap] w fun e w' => LoadsPost w ps xs e w' ∧ Step noF w w' := by
  have h0 := nil_str
  have hl := hS.1
  have cC := cut_any ⟨[], []⟩ ps hp a cap w hr
  have er : (Rg.mk [] []).val = .agg #[.string (str []), .string (str [])] := rfl
  rw [er] at cC
  have HB := hid h
  have HS := hid hS
  have HRI := hid hR
  have HG := hid hG
  clear h hr hS hR hG er
  go_enter Tryz.func11, Tryz.ntmps11
  go_wp2_with fail
  refine cC.mono ?_
  rintro e w2 ⟨a2, c2, rfl, hc2, hrs, s2⟩
  have HRS := hid hrs
  have S2 := hid s2
  have HL := hid (loadsM_len ps xs)
  have HCL := hid (cut_length ⟨[], []⟩ ps)
  have HAT := hid (loadsM_at2 ps xs)
  obtain ⟨rs, hrse⟩ : ∃ rs, (Rg.mk [] []).cut ps = rs := ⟨_, rfl⟩
  rw [hrse] at HRS HCL HAT
  obtain ⟨ls, hls⟩ : ∃ ls, loadsM ps xs = ls := ⟨_, rfl⟩
  have HLS := hid hls
  rw [hls] at HL HAT
  obtain ⟨n, hn⟩ : ∃ n, ps.length + 1 = n := ⟨_, rfl⟩
  have HN := hid hn
  have enn : (ps.length : Int) + 1 = (n : Int) := by omega
  rw [hn] at hc2 HL HCL ⊢
  have hnn : n ≤ 1001 := by omega
  clear hrs s2 cC hrse hls hn
  obtain ⟨i0, hi, hz0, hz1, hz2⟩ := info_of info_intB
  obtain ⟨wm, hmk, hown0, hgr0⟩ := run_makeSlice_full (P := Tryz.prog) w2 w2.heap.size 34 3 i0 _ 1 Tryz.underlying34 hi hz0 hz1 .i64 .i64 n (by omega) (by rw [hz2]; omega) (le_max (by omega)) (Nat.le_refl _)
  have hsm : Hid (Step noF w2 wm) := (Step.refl noF w2).grown hgr0 (fun k hk => by cases hk)
  have hfill : Hid (wm.ownsRow w.heap.size 3 1 (.slice (some ⟨w2.heap.size, 0, none⟩) n n) n (intsOf (filled ls 0))) := by
    refine owns_base ?_ S2.out.size
    have e : intsOf (List.replicate n 0) = intsOf (filled ls 0) := by
      unfold filled
      rw [List.take_zero, HL.out]
      simp
    rw [← e, ← made_zeros]
    exact hown0
  clear hown0 hgr0
  have SM := hid (S2.out.trans hsm.out)
  have hmk2 : (Instr.makeSlice 34 (.int .i64 ((ps.length : Int) + 1)) (.int .i64 ((ps.length : Int) + 1))).run Tryz.prog w2 = .ok (.slice (some ⟨w2.heap.size, 0, none⟩) n n) wm := by rw [enn]; exact hmk
  have HSZ : Hid (w.heap.size ≤ w2.heap.size) := S2.out.size
  go_wp2_with fail
  go_loopw [21] (fun i wr => ∃ j : Nat, j ≤ n ∧ i = .int .i64 j ∧ Hid (Step noF w2 wr) ∧ Hid (wr.ownsRow w.heap.size 3 1 (.slice (some ⟨w2.heap.size, 0, none⟩) n n) n (intsOf (filled ls j)))) (fun i _ => n - (intOf i).toNat)
  case atStart => exact ⟨0, Nat.zero_le _, rfl, hsm.out, hfill.out⟩
  case round =>
    obtain ⟨j, hj, rfl, hst, hf⟩ := hrel
    by_cases hjn : j < n
    · have hji : (j : Int) < (n : Int) := by omega
      have hjr : j < rs.length := by rw [HCL.out]; exact hjn
      have hjl : j < ls.length := by rw [HL.out]; exact hjn
      obtain ⟨b, off, rfl, y0, y1⟩ := (HRS.out.step hst.out).at j hjr
      have HV := hid (HAT.out j rs[j] (List.getElem?_eq_getElem hjr))
      obtain ⟨R, hRe⟩ : ∃ R, rs[j] = R := ⟨_, rfl⟩
      rw [hRe] at y0 y1 HV
      have hs1 : Step noF wr (wr.alloc (.cells #[.string (str R.lo), .string (str R.hi)] 47)) := (Step.refl noF wr).alloc _
      have hB1 := HB.out.step ((S2.out.trans hst.out).trans hs1)
      have cS := span_any p xs hl HRI.out HG.out R _ hB1
      have hf1 := owns_step hf.out hs1 (fun _ _ x => x)
      have z1 := two_new wr (.string (str R.lo)) (.string (str R.hi)) 47
      obtain ⟨z0, z1⟩ := z1
      have HB1 := hid hB1
      have HF1 := hid hf1
      have HS1 := hid (hst.out.trans hs1)
      clear hB1 hf1 hs1 hRe
      go_wp2_with fail
      refine cS.mono ?_
      rintro e w3 ⟨⟨f, t, rfl, hft, htn, he1, he2⟩, s3⟩
      obtain ⟨la, lc, k0, hc, hnk, hm⟩ := (HB1.out.step s3).cell
      have S3 := hid (HS1.out.trans s3)
      have HF3 := hid (owns_step HF1.out s3 (fun _ _ x => x))
      have HM := hid hm
      have HE1 := hid he1
      have HNK := hid hnk
      have hrow := owns_rowIn2 HF3.out
      have hfl : (filled ls j).length = n := by rw [filled_len ls j (by omega), HL.out]
      have o0 := hrow.1.cell j (by rw [intsB_len, hfl]; exact hjn)
      have o1 := hrow.1.f j
      have HFL := hid hfl
      obtain ⟨ov, hov⟩ : ∃ ov, (intsOf (filled ls j))[j]'(by rw [intsB_len, hfl]; exact hjn) = ov := ⟨_, rfl⟩
      rw [hov] at o0
      have HW3 : Hid ((w3.ownsRow w.heap.size 3 1 (.slice (some ⟨w2.heap.size, 0, none⟩) n n) n (intsOf (filled ls j)))) := HF3.out
      clear z0 z1 cS hm he1 he2 hnk hrow hfl hov s3 y0 y1
      have HEND : ∀ w4 : World, Step noF w3 w4 → Hid (Step noF w2 (w4.setCell ⟨w2.heap.size, j, none⟩ (.int .i64 (wtM (takeM R xs)))) ∧ ((w4.setCell ⟨w2.heap.size, j, none⟩ (.int .i64 (wtM (takeM R xs)))).ownsRow w.heap.size 3 1 (.slice (some ⟨w2.heap.size, 0, none⟩) n n) n (intsOf (filled ls (j + 1))))) := fun w4 s4 => by
        refine ⟨(S3.out.trans s4).setCell (p := ⟨w2.heap.size, j, none⟩) (.inr (Nat.le_refl _)) _, ?_⟩
        have h1 := owns_put (owns_step HW3.out s4 (fun _ _ x => x)) j (by rw [intsB_len, HFL.out]; exact hjn) (.int .i64 (wtM (takeM R xs)))
        have h2 : ls[j] = wtM (takeM R xs) := by
          have := HV.out
          rw [List.getElem?_eq_getElem hjl] at this
          exact Option.some.inj this
        rw [intsB_set, ← h2, filled_set ls j hjl] at h1
        rw [← h2]
        exact h1
      have hfr : ∀ w4, Step noF w3 w4 → w4.frozen? ⟨w2.heap.size, j, none⟩ = false := fun w4 s4 => (s4.frozen (p := ⟨w2.heap.size, j, none⟩) (fun x => x) (World.block_lt_of_cell? w3 _ o0)).trans o1
      have HFR := hid hfr
      clear hfr
      cases la with
      | none =>
        obtain rfl := msgs_none HM.out
        obtain rfl := HNK.out.1 rfl
        obtain rfl : t = 0 := by simpa using htn
        obtain rfl : f = 0 := by omega
        have cW := weigh_any [] ⟨by simp, by simp⟩ none 0 w3 (.inl rfl)
        rw [List.length_nil] at cW k0
        have ew : wtM (takeM R []) = wtM [] := rfl
        rw [ew] at HEND
        obtain ⟨q, hq⟩ : ∃ q, wtM ([] : List Mg) = q := ⟨_, rfl⟩
        rw [hq] at cW HEND
        clear hq ew
        go_wp2_with fail
        refine cW.mono ?_
        rintro e w4 ⟨rfl, s4⟩
        have o4 := s4.after o0
        have f4 := HFR.out w4 s4
        have HE := HEND w4 s4
        clear s4
        go_wp2_with fail
        go_roundw
        case rel => exact ⟨j + 1, by omega, int_eq (by omega), HE.out.1, HE.out.2⟩
        case measure => simp [intOf]; omega
      | some ad =>
        obtain ⟨g, off, rfl⟩ := msgs_some HNK.out
        have hsub := HM.out.sub f t htn
        have hln := sub_len xs f t htn
        rw [HE1.out] at hsub hln
        have cW := fun off' c' hh => weigh_any (takeM R xs) (takeM_small R HS.out) (some ⟨g, off', none⟩) c' w3 hh
        have HLN := hid hln
        have HSUB := hid hsub
        rw [hln] at cW
        have ef : (t : Int) - (f : Int) = ((t - f : Nat) : Int) := by omega
        have ec : (lc : Int) - (f : Int) = ((lc - f : Nat) : Int) := by omega
        have q1 : (0 : Int) ≤ (f : Int) := by omega
        have q2 : (f : Int) ≤ (t : Int) := by omega
        have q3 : (t : Int) ≤ (lc : Int) := by omega
        clear hsub hln
        go_wp2_with fail
        all_goals
          refine (cW _ _ (by first | exact HSUB.out | exact .inl (List.eq_nil_of_length_eq_zero (by rw [HLN.out]; omega)))).mono ?_
          rintro e w4 ⟨rfl, s4⟩
          have o4 := s4.after o0
          have f4 := HFR.out w4 s4
          have HE := HEND w4 s4
          clear s4
          go_wp2_with fail
          go_roundw
          case rel => exact ⟨j + 1, by omega, int_eq (by omega), HE.out.1, HE.out.2⟩
          case measure => simp [intOf]; omega
    · obtain rfl : j = n := by omega
      go_wp2_with fail
      go_ret
      have hff := hf.out
      rw [← HL.out, filled_all, HL.out, ← HLS.out] at hff
      refine ⟨⟨w2.heap.size, ?_, ?_⟩, S2.out.trans hst.out⟩
      · rw [HN.out]; rfl
      · rw [HN.out]; exact hff
end Go.Proofs.YtipgbpopcamllaaGreat
namespace Go.Proofs.YtipgbpopcamllaaGreat
open Go.RowKit Go.Sort
set_option linter.unusedVariables false
set_option linter.unusedSimpArgs false
set_option maxRecDepth 20000

theorem pp_nil : PpHp [] := fun k _ h => absurd h (by simp)
theorem heaps_new {w : World} {p : Nat} {F : Nat} (h : w.heap[p]? = some (.cells #[.slice none 0 0] 75 (0, 0))) (hF : F ≤ w.heap.size) : HeapAt w F p [] :=
  ⟨.slice none 0 0, h, World.ownsRow_nil _ _ _ _, hF, fun e => by simp [Value.ownBlock] at e⟩
set_option maxHeartbeats 1000000 in
theorem heaviestB_nil (a : Option Addr) (n c : Nat) (w : World) : Calls Tryz.prog 13 #[.pointer none, .slice a n c] w fun e w' => e = .returned (.int .i64 (-1)) ∧ Step noF w w' := by
  have cL := loadsB_nil a n c (w.alloc (.cells #[.slice none 0 0] 75))
  have hb := block_alloc_new w (.cells #[.slice none 0 0] 75)
  have cF := first_any _ w.heap.size w.heap.size [] (heaps_new hb (by rw [World.size_alloc]; omega)) (by simp) (fun _ h => by simp at h)
  rw [if_pos rfl] at cF
  have S1 := hid ((Step.refl noF w).alloc (.cells #[.slice none 0 0] 75))
  clear hb
  go_enter Tryz.func13, Tryz.ntmps13
  go_wp2_with fail
  refine cL.mono ?_
  rintro e w2 ⟨rfl, rfl⟩
  go_wp2_with fail
  refine wp_loop_rounds 1 ?_
  rw [rounds_succ]
  go_wp2_with fail
  refine cF.mono ?_
  rintro e w3 ⟨rfl, s3⟩
  have S3 := hid s3
  clear s3
  go_wp2_with fail
  go_ret
  exact ⟨rfl, S1.out.then S3.out (fun i hi => by rcases hi with hi | hi <;> exact .inr (by omega))⟩
set_option maxHeartbeats 4000000 in
theorem heaviestB_any (p : Nat) (xs : List Mg) (hS : SmallM xs) (hR : RisingM xs) (hG : GoodM xs) (ps : List (List UInt8)) (hp : ps.length ≤ 1000) (a : Option Addr) (cap : Nat) (w : World) (h : BuffAt w p xs) (hr : RowAt w noF a (texts ps)) :
    Calls Tryz.prog 13 #[.pointer (some ⟨p, 0, none⟩), .slice a ps.length cap] w fun e w' => e = .returned (.int .i64 (bestZ (loadsM ps xs) (ps.length + 1))) ∧ Step noF w w' := by
  have s1 := (Step.refl noF w).alloc (.cells #[.slice none 0 0] 75)
  have cL := loadsB_any p xs hS hR hG ps hp a cap _ (h.step s1) (hr.step s1)
  have hb := block_alloc_new w (.cells #[.slice none 0 0] 75)
  have hz : (w.alloc (.cells #[.slice none 0 0] 75)).heap.size = w.heap.size + 1 := World.size_alloc _ _
  have S1 := hid s1
  have HB := hid hb
  have HZ := hid hz
  have HL := hid (loadsM_len ps xs)
  unfold LoadsPost at cL
  obtain ⟨ls, hls⟩ : ∃ ls, loadsM ps xs = ls := ⟨_, rfl⟩
  rw [hls] at cL HL ⊢
  obtain ⟨n, hn⟩ : ∃ n, ps.length + 1 = n := ⟨_, rfl⟩
  rw [hn] at cL HL ⊢
  have hnn : n ≤ 1001 := by omega
  clear h hr hS hR hG s1 hb hz hls hn
  go_enter Tryz.func13, Tryz.ntmps13
  go_wp2_with fail
  refine cL.mono ?_
  rintro e w2 ⟨⟨g, rfl, ho⟩, s2⟩
  have S2 := hid s2
  have hlen : (ls.map (fun n : Nat => (n : Int))).length = n := by rw [List.length_map]; exact HL.out
  have hrow := owns_rowIn2 ho
  have HROW := hid hrow
  have hgl : Hid (g < w2.heap.size ∧ w.heap.size < g) := ⟨hrow.1.lt, by have h1 := hrow.2.1; have h2 := HZ.out; omega⟩
  have HH0 : Hid (HeapAt w2 w2.heap.size w.heap.size []) := heaps_new ((s2.block w.heap.size (by have := HZ.out; omega) (fun x => x)).trans HB.out) (Nat.le_refl _)
  have HFEW := hid (heavP_few ls n (by omega))
  clear ho s2 hrow cL
  go_wp2_with fail
  go_loopw [12] (fun i wr => ∃ (j : Nat) (ms : List (Int × Int)), j ≤ n ∧ i = .int .i64 j ∧ Hid (Step (fun k => k = w.heap.size ∨ w2.heap.size ≤ k) w2 wr) ∧ Hid (HeapAt wr w2.heap.size w.heap.size ms) ∧ Hid (ms.Perm (heavP ls j)) ∧ Hid (PpHp ms)) (fun i _ => n - (intOf i).toNat)
  case atStart => exact ⟨0, [], Nat.zero_le _, rfl, Step.refl _ _, HH0.out, List.Perm.refl _, pp_nil⟩
  case round =>
    obtain ⟨j, ms, hj, rfl, hst, hh, hpm, hpp⟩ := hrel
    by_cases hjn : j < n
    · have hji : (j : Int) < (n : Int) := by omega
      have hjl : j < ls.length := by rw [HL.out]; exact hjn
      have c0 := HROW.out.1.cell j (by rw [intsB_len, hlen]; exact hjn)
      have e0 : (intsOf (ls.map (fun n : Nat => (n : Int))))[j]'(by rw [intsB_len, hlen]; exact hjn) = .int .i64 (ls[j] : Int) := by simp [intsOf]
      rw [e0] at c0
      have c1 := (hst.out.cell (p := ⟨g, j, none⟩) (fun x => by have := hgl.out; rcases x with x | x <;> simp at x <;> omega) hgl.out.1).trans c0
      have HPS : Hid (heavP ls (j + 1) = if 0 < ls[j] then heavP ls j ++ [((j : Int), (ls[j] : Int))] else heavP ls j) := by
        show _ = _
        rw [heavP, getD_lt _ hjl]
      have HF := hid ((heavP_few ls j (by omega)).perm hpm.out)
      have HML : Hid (ms.length ≤ 900000) := by
        show _ ≤ _
        rw [hpm.out.length_eq]
        have := heavP_len ls j
        omega
      obtain ⟨x, hx⟩ : ∃ x, ls[j] = x := ⟨_, rfl⟩
      rw [hx] at c1 HPS
      clear c0 e0 hx
      by_cases hx0 : 0 < x
      · have hxz : (0 : Int) < (x : Int) := by omega
        have cP := hppush_any wr w2.heap.size w.heap.size ms hh.out HML.out HF.out hpp.out (j : Int) (x : Int) (by omega)
        have HP2 := HPS.out
        rw [if_pos hx0] at HP2
        have HP3 := hid HP2
        clear HP2 HPS
        go_wp2_with fail
        refine cP.mono ?_
        rintro e w3 ⟨rfl, s3, ms', h3, hp3, hh3⟩
        have HE := hid (And.intro s3 (And.intro h3 (And.intro hp3 hh3)))
        clear s3 h3 hp3 hh3 cP
        go_wp2_with fail
        go_roundw
        case rel =>
          refine ⟨j + 1, ms', by omega, int_eq (by omega), hst.out.trans HE.out.1, HE.out.2.1, ?_, HE.out.2.2.2⟩
          show ms'.Perm _
          rw [HP3.out]
          exact HE.out.2.2.1.trans (hpm.out.append_right _)
        case measure => simp [intOf]; omega
      · have hxz : ¬ (0 : Int) < (x : Int) := by omega
        have HP2 := HPS.out
        rw [if_neg hx0] at HP2
        have HP3 := hid HP2
        clear HP2 HPS
        go_wp2_with fail
        go_roundw
        case rel =>
          refine ⟨j + 1, ms, by omega, int_eq (by omega), hst.out, hh.out, ?_, hpp.out⟩
          show ms.Perm _
          rw [HP3.out]
          exact hpm.out
        case measure => simp [intOf]; omega
    · obtain rfl : j = n := by omega
      have HML : ms.length ≤ 900000 := by
        rw [hpm.out.length_eq]
        have := heavP_len ls j
        omega
      have cF := first_any wr w2.heap.size w.heap.size ms hh.out HML (HFEW.out.perm hpm.out)
      have hbz : (if ms = [] then (-1 : Int) else (ms.getD 0 (0, 0)).1) = bestZ ls j := by
        by_cases hm : ms = []
        · rw [if_pos hm]
          subst hm
          exact (heavP_none ls j (hpm.out.symm.eq_nil)).symm
        · rw [if_neg hm]
          exact (heavP_best ls j (by omega) ms hpm.out hpp.out (List.length_pos_iff.2 hm)).symm
      rw [hbz] at cF
      clear hbz HML
      go_wp2_with fail
      refine cF.mono ?_
      rintro e w3 ⟨rfl, s3⟩
      have S3 := hid s3
      clear s3
      go_wp2_with fail
      go_ret
      refine ⟨rfl, (S1.out.trans S2.out).then (hst.out.trans S3.out) (fun i hi => ?_)⟩
      rcases hi with hi | hi
      · exact .inr (by omega)
      · have h1 := hgl.out
        exact .inr (by omega)
end Go.Proofs.YtipgbpopcamllaaGreat
