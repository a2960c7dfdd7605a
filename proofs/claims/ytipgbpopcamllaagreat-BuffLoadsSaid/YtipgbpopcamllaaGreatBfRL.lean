/-
  The reference of layer 10: Loads and Heaviest; rows of numbers that are the same.
-/
import Derived.Test.YtipgbpopcamllaaGreatBfRA
import Derived.Test.YtipgbpopcamllaaGreatBfK
import Derived.Test.YtipgbpopcamllaaGreatKeyI
namespace Go.Proofs.YtipgbpopcamllaaGreat
open Go.RowKit Go.Sort
set_option linter.unusedVariables false
set_option linter.unusedSimpArgs false
set_option maxRecDepth 20000

set_option maxHeartbeats 1000000 in
theorem ints_same (xs : List Int) (hl : xs.length ≤ 100000) (a1 a2 : Option Addr) (c1 c2 : Nat) (w : World) (h1 : RowAt w noF a1 (intsOf xs)) (h2 : RowAt w noF a2 (intsOf xs)) :
    Calls Tryz.prog 10 #[.slice a1 xs.length c1, .slice a2 xs.length c2] w fun e w' => e = .returned (.bool true) ∧ Step noF w w' := by
  have H1 := hid h1
  have H2 := hid h2
  clear h1 h2
  go_enter Tryz.func10, Tryz.ntmps10
  go_wp2_with fail
  go_loopw [5] (fun i wr => ∃ (j : Nat), j ≤ xs.length ∧ i = .int .i64 j ∧ Step noF w wr) (fun i _ => xs.length - (intOf i).toNat)
  case atStart => exact ⟨0, Nat.zero_le _, rfl, Step.refl _ _⟩
  case round =>
    obtain ⟨j, hj, rfl, st⟩ := hrel
    have ST := hid st
    clear st
    by_cases hjl : j < xs.length
    · have hjz : (j : Int) < (xs.length : Int) := by omega
      obtain ⟨g, off, rfl, p0⟩ := RowAt.at (f := Value.int .i64) (zs := xs) (H1.out.step ST.out) j hjl
      obtain ⟨g2, off2, rfl, r0⟩ := RowAt.at (f := Value.int .i64) (zs := xs) (H2.out.step ST.out) j hjl
      obtain ⟨x, hx⟩ : ∃ x, xs[j] = x := ⟨_, rfl⟩
      rw [hx] at p0 r0
      clear hx
      go_wp2_with fail
      go_quiet (fail)
      go_wp2_with fail
      go_roundw
      case rel => exact ⟨j + 1, by omega, int_eq (by omega), ST.out.drewN _⟩
      case measure => simp [intOf]; omega
    · obtain rfl : j = xs.length := by omega
      go_wp2_with fail
      go_ret
      exact ⟨rfl, ST.out⟩

theorem intsB_append (a b : List Int) : intsOf (a ++ b) = intsOf a ++ intsOf b := by simp [intsOf]
theorem int_new (w : World) (t : TypeId) (x : Value) (g : Nat) (hg : g = w.heap.size) : ∀ j u, [x][j]? = some u → (w.alloc (.cells #[x] t)).cell? (Addr.add ⟨g, 0, none⟩ j) = some u := by
  intro j u hj
  subst hg
  rw [Addr.add_lit, Nat.zero_add, cell_of_block (block_alloc_new _ _)]
  rw [← hj, List.getElem?_toArray]
/-- The numbers as cells. -/
def natsZ (ls : List Nat) : List Int := ls.map (fun n : Nat => (n : Int))
set_option maxHeartbeats 4000000 in
theorem refLoadsB_any (U : List Mg) (hS : SmallM U) (ps : List (List UInt8)) (hp : ps.length ≤ 1000) (a : Option Addr) (c : Nat) (b : Option Addr) (d : Nat) (w : World) (h : MsgsAt w noF a U) (hr : RowAt w noF b (texts ps)) :
    Calls Tryz.prog 12 #[.slice a U.length c, .slice b ps.length d] w fun e w' => ∃ a' c', e = .returned (.slice a' (natsZ (loadsM ps U)).length c') ∧ Hid (RowAt w' noF a' (intsOf (natsZ (loadsM ps U)))) ∧ Hid (Step noF w w') := by
  have h0 := nil_str
  obtain ⟨i0, hi, hz0, hz1, hz2⟩ := info_of info_intB
  have HR := hid h
  have HPR := hid hr
  have HS := hid hS
  have hl := hS.1
  clear h hr hS
  have s1 := ((Step.refl noF w).alloc (.cells #[] 3)).alloc (.cells #[.string (str []), .string (str [])] 70)
  have cC := refCut_any ⟨[], []⟩ ps hp b d _ (HPR.out.step s1)
  have er : (Rg.mk [] []).val = .agg #[.string (str []), .string (str [])] := rfl
  rw [er] at cC
  have S1 := hid s1
  clear er s1
  go_enter Tryz.func12, Tryz.ntmps12
  go_wp2_with fail
  refine cC.mono ?_
  rintro e w2 ⟨a2, c2, rfl, hc2, hrs, s2⟩
  have HRS := hid hrs
  have HL := hid (loadsM_len ps U)
  have HCL := hid (cut_length ⟨[], []⟩ ps)
  have HAT := hid (loadsM_at2 ps U)
  obtain ⟨rs, hrse⟩ : ∃ rs, (Rg.mk [] []).cut ps = rs := ⟨_, rfl⟩
  rw [hrse] at HRS HCL HAT
  obtain ⟨ls, hls⟩ : ∃ ls, loadsM ps U = ls := ⟨_, rfl⟩
  have HLS := hid hls
  rw [hls] at HL HAT
  obtain ⟨n, hn⟩ : ∃ n, ps.length + 1 = n := ⟨_, rfl⟩
  rw [hn] at hc2 HL HCL ⊢
  have hnn : n ≤ 1001 := by omega
  have S2 : Hid (Step noF w w2) := S1.out.trans s2
  have HZB : Hid (w2.heap[w.heap.size]? = some (.cells #[] 3 (0, 0))) := (s2.block w.heap.size (by rw [World.size_alloc, World.size_alloc]; omega) (fun x => x)).trans (block_alloc_old (block_alloc_new w (.cells #[] 3)) _)
  have HO0 : Hid (w2.ownsRow 0 3 1 (.slice (some ⟨w.heap.size, 0, none⟩) 0 0) 0 []) := by
    exact ⟨rfl, .inr ⟨w.heap.size, 0, #[], rfl, Nat.zero_le _, HZB.out, Nat.le_refl _, Nat.zero_le _, rfl, rfl⟩⟩
  clear hrs s2 cC hrse hls hn
  go_wp2_with fail
  go_loopw [5, 8] (fun v i wr => ∃ j : Nat, j ≤ n ∧ i = .int .i64 j ∧ Hid (Step noF w wr) ∧ Hid (wr.ownsRow 0 3 1 v j (intsOf (natsZ (ls.take j)))) ∧ Hid (∀ k, v.ownBlock = some k → k = w.heap.size ∨ w2.heap.size ≤ k) ∧ Hid (Step (oneF w.heap.size) w2 wr)) (fun _ i _ => n - (intOf i).toNat)
  case atStart => exact ⟨0, Nat.zero_le _, rfl, S2.out, HO0.out, (fun k hk => by simp [Value.ownBlock] at hk; omega), Step.refl _ _⟩
  case round =>
    obtain ⟨j, hj, rfl, hst, ho, hfr, hs2⟩ := hrel
    by_cases hjn : j < n
    · have hji : (j : Int) < (n : Int) := by omega
      have hjr : j < rs.length := by rw [HCL.out]; exact hjn
      have hjl : j < ls.length := by rw [HL.out]; exact hjn
      obtain ⟨g, off, rfl, e0, e1⟩ := HRS.out.at j hjr
      have hgne : g ≠ w.heap.size := fun e => by
        rw [e, cell_of_block HZB.out] at e0
        simp at e0
      have y0 := (hs2.out.cell (p := ⟨g, off + j * 2, none⟩) (fun x => hgne x) (World.block_lt_of_cell? w2 _ e0)).trans e0
      have y1 := (hs2.out.cell (p := ⟨g, off + j * 2 + 1, none⟩) (fun x => hgne x) (World.block_lt_of_cell? w2 _ e1)).trans e1
      have HV := hid (HAT.out j rs[j] (List.getElem?_eq_getElem hjr))
      obtain ⟨R, hRe⟩ : ∃ R, rs[j] = R := ⟨_, rfl⟩
      rw [hRe] at y0 y1 HV
      have cT := refTakeB_any U hl R true a c wr (HR.out.stepB hst.out)
      rw [pickM_true] at cT
      clear hRe e0 e1
      go_wp2_with fail
      refine cT.mono ?_
      rintro e w3 ⟨v3, rfl, ho3, s3⟩
      obtain ⟨ta, tc, rfl, _, htm⟩ := ho3.msv
      have HTM := hid htm
      have S3 := hid s3
      have cW := refWeightB_any (takeM R U) (takeM_small R HS.out) ta tc w3 HTM.out
      have HLE := hid (wtM_le (takeM_small R HS.out))
      obtain ⟨TL, hTL⟩ : ∃ TL, (takeM R U).length = TL := ⟨_, rfl⟩
      rw [hTL] at cW ⊢
      obtain ⟨x, hx⟩ : ∃ x, wtM (takeM R U) = x := ⟨_, rfl⟩
      rw [hx] at cW HV HLE
      have hlsj : ls[j] = x := by
        have := HV.out
        rw [List.getElem?_eq_getElem hjl] at this
        exact Option.some.inj this
      have HT : Hid (natsZ (ls.take (j + 1)) = natsZ (ls.take j) ++ [(x : Int)]) := by
        show _ = _
        unfold natsZ
        rw [List.take_succ_eq_append_getElem hjl, List.map_append, hlsj]
        rfl
      clear ho3 htm s3 cT hTL hx hlsj y0 y1
      go_wp2_with fail
      refine cW.mono ?_
      rintro e w4 ⟨rfl, s4⟩
      have S4 := hid (S3.out.trans s4)
      have HO4 := hid (owns_step ho.out (S3.out.trans s4) (fun _ _ x => x))
      have hone : Hid (∀ u ∈ [Value.int .i64 (x : Int)], u.oneCell' = true) := fun u hu => by simp at hu; rw [hu]; rfl
      have hmx : Hid (j + 1 ≤ maxLen) := le_max (by omega)
      have hmb : Hid ((j + 1) * 8 ≤ 140737488355328) := by show _ ≤ _; omega
      clear s4 cW S3
      go_wp2_with (at_builtin; refine wpList_append_fresh rfl (.tmp 20) (.tmp 28) 34 rfl 3 i0 _ 1 8 Tryz.underlying34 hi hz0 hz1 hz2 rfl (by decide) _ _ _ (by simp [Act.eval]; rfl) (by exact HO4.out.alloc _) ⟨w4.heap.size, 0, none⟩ 1 1 [Value.int .i64 (x : Int)] (by simp [Act.eval]) rfl (int_new _ _ _ _ rfl) hone.out hmx.out hmb.out ?_; intro v' w' ho' hg' hfr')
      have hsz4 : w2.heap.size ≤ w4.heap.size := Nat.le_trans hs2.out.size S4.out.size
      have HO' := hid ho'
      have HF' : Hid (∀ k, v'.ownBlock = some k → k = w.heap.size ∨ w2.heap.size ≤ k) := fun k hk => by
        rcases hfr' with e | e
        · exact hfr.out k (by rw [← e]; exact hk)
        · have := e k hk
          rw [World.size_alloc] at this
          exact .inr (by omega)
      have S5 : Hid (Step noF w w') := ((hst.out.trans S4.out).alloc _).grown hg' (fun k hk => .inr (by
        have h1 := S2.out.size
        rcases hfr.out k hk with e | e
        · omega
        · omega))
      have S6 : Hid (Step (oneF w.heap.size) w2 w') := ((hs2.out.then S4.out (fun _ x => x.elim)).alloc _).grown hg' (fun k hk => hfr.out k hk)
      clear ho' hg' hfr' hsz4
      go_wp2_with fail
      go_roundw
      case rel =>
        refine ⟨j + 1, by omega, int_eq (by omega), S5.out, ?_, HF'.out, S6.out⟩
        show World.ownsRow _ _ _ _ _ _ _
        rw [HT.out, intsB_append]
        exact HO'.out
      case measure => simp [intOf]; omega
    · obtain rfl : j = n := by omega
      have HO9 : Hid (wr.ownsRow 0 3 1 u5 (natsZ ls).length (intsOf (natsZ ls))) := by
        have h1 := ho.out
        have h2 : (natsZ ls).length = j := by unfold natsZ; rw [List.length_map]; exact HL.out
        rw [List.take_of_length_le (by rw [HL.out]; exact Nat.le_refl _)] at h1
        rw [h2]
        exact h1
      go_wp2_with fail
      go_ret
      obtain ⟨a9, c9, hv9⟩ := owns_form HO9.out
      subst hv9
      have hra : RowAt wr noF a9 (intsOf (natsZ ls)) := by
        rcases HO9.out.2 with ⟨hv, h0⟩ | ⟨g', cap, cur, hv, _, hh, _, _, _, ht⟩
        · left
          rw [List.eq_nil_of_length_eq_zero h0]
          rfl
        · injection hv with h1 _ h3
          subst h1
          have := (owns_rowIn2 HO9.out).1
          exact this.rowAt
      rw [HLS.out]
      exact ⟨a9, c9, rfl, hra, hst.out⟩

theorem bestZ_step (ls : List Nat) (j : Nat) : bestZ ls (j + 1) = if 0 < ls.getD j 0 ∧ (bestN ls j = none ∨ ∃ p, bestN ls j = some p ∧ ls.getD p 0 < ls.getD j 0) then (j : Int) else bestZ ls j := by
  unfold bestZ
  rw [bestN]
  cases hb : bestN ls j with
  | none =>
    by_cases h : 0 < ls.getD j 0
    · rw [if_pos (by show (decide _ && true) = true; rw [decide_eq_true h]; rfl), if_pos ⟨h, .inl rfl⟩]
    · rw [if_neg (by rw [decide_eq_false h]; simp), if_neg (fun x => h x.1)]
  | some p =>
    by_cases h : 0 < ls.getD j 0
    · by_cases h2 : ls.getD p 0 < ls.getD j 0
      · rw [if_pos (by show (decide _ && decide _) = true; rw [decide_eq_true h, decide_eq_true h2]; rfl), if_pos ⟨h, .inr ⟨p, rfl, h2⟩⟩]
      · rw [if_neg (by show ¬ (decide _ && decide _) = true; rw [decide_eq_false h2]; simp), if_neg]
        rintro ⟨_, e | ⟨p', e1, e2⟩⟩
        · cases e
        · injection e1 with e1
          subst e1
          exact h2 e2
    · rw [if_neg (by rw [decide_eq_false h]; simp), if_neg (fun x => h x.1)]
set_option maxHeartbeats 4000000 in
theorem refHeaviestB_any (U : List Mg) (hS : SmallM U) (ps : List (List UInt8)) (hp : ps.length ≤ 1000) (a : Option Addr) (c : Nat) (b : Option Addr) (d : Nat) (w : World) (h : MsgsAt w noF a U) (hr : RowAt w noF b (texts ps)) :
    Calls Tryz.prog 14 #[.slice a U.length c, .slice b ps.length d] w fun e w' => e = .returned (.int .i64 (bestZ (loadsM ps U) (ps.length + 1))) ∧ Step noF w w' := by
  have cL := refLoadsB_any U hS ps hp a c b d w h hr
  have HL := hid (loadsM_len ps U)
  obtain ⟨ls, hls⟩ : ∃ ls, loadsM ps U = ls := ⟨_, rfl⟩
  rw [hls] at cL HL ⊢
  obtain ⟨n, hn⟩ : ∃ n, ps.length + 1 = n := ⟨_, rfl⟩
  rw [hn] at HL ⊢
  have hnl : (natsZ ls).length = n := by unfold natsZ; rw [List.length_map]; exact HL.out
  rw [hnl] at cL
  have hnn : n ≤ 1001 := by omega
  have HNL := hid hnl
  clear h hr hS hls hn hnl
  go_enter Tryz.func14, Tryz.ntmps14
  go_wp2_with fail
  refine cL.mono ?_
  rintro e w2 ⟨a2, c2, rfl, hr2, s2⟩
  go_wp2_with fail
  go_loopw [5, 7] (fun z i wr => ∃ j : Nat, j ≤ n ∧ i = .int .i64 j ∧ z = .int .i64 (bestZ ls j) ∧ Hid (Step noF w2 wr)) (fun _ i _ => n - (intOf i).toNat)
  case atStart => exact ⟨0, Nat.zero_le _, rfl, rfl, Step.refl _ _⟩
  case round =>
    obtain ⟨j, hj, rfl, rfl, hst⟩ := hrel
    by_cases hjn : j < n
    · have hji : (j : Int) < (n : Int) := by omega
      have hjl : j < ls.length := by rw [HL.out]; exact hjn
      have hjz : j < (natsZ ls).length := by rw [HNL.out]; exact hjn
      obtain ⟨g, off, rfl, c0⟩ := RowAt.at (f := Value.int .i64) (zs := natsZ ls) (hr2.out.step hst.out) j hjz
      have e0 : (natsZ ls)[j] = (ls[j] : Int) := by simp [natsZ]
      rw [e0] at c0
      have HB := hid (bestZ_step ls j)
      have HOK := hid (bestN_ok ls j)
      have hgj : ls.getD j 0 = ls[j] := getD_lt _ hjl
      rw [hgj] at HB
      obtain ⟨x, hx⟩ : ∃ x, ls[j] = x := ⟨_, rfl⟩
      rw [hx] at c0 HB
      clear e0 hgj hx
      by_cases hx0 : 0 < x
      · have hxz : (0 : Int) < (x : Int) := by omega
        cases hb : bestN ls j with
        | none =>
          have hz : bestZ ls j = -1 := by unfold bestZ; rw [hb]
          have HB2 : Hid (bestZ ls (j + 1) = (j : Int)) := by show _ = _; rw [HB.out, if_pos ⟨hx0, .inl hb⟩]
          rw [hz]
          clear hb hz HB HOK
          go_wp2_with fail
          go_quiet (fail)
          go_wp2_with fail
          go_roundw
          case rel => exact ⟨j + 1, by omega, int_eq (by omega), int_eq (by rw [HB2.out]), hst.out.drewN _⟩
          case measure => simp [intOf]; omega
        | some p =>
          have hz : bestZ ls j = (p : Int) := by unfold bestZ; rw [hb]
          have hok : p < j ∧ 0 < ls.getD p 0 ∧ ∀ i, i < j → ls.getD i 0 ≤ ls.getD p 0 := by have := HOK.out; rw [hb] at this; exact this
          have hpl : p < ls.length := by omega
          have hpn : (p : Int) < (n : Int) := by omega
          have hp0 : ¬ (p : Int) < 0 := by omega
          have hpd : decide ((p : Int) < 0) = false := decide_eq_false hp0
          obtain ⟨g', off', he, c1⟩ := RowAt.at (f := Value.int .i64) (zs := natsZ ls) (hr2.out.step hst.out) p (by rw [HNL.out]; omega)
          injection he with he
          injection he with he1 he2
          subst he1 he2
          have e1 : (natsZ ls)[p]'(by rw [HNL.out]; omega) = (ls[p] : Int) := by simp [natsZ]
          rw [e1] at c1
          have hgp : ls.getD p 0 = ls[p] := getD_lt _ hpl
          obtain ⟨y, hy⟩ : ∃ y, ls[p] = y := ⟨_, rfl⟩
          rw [hy] at c1 hgp
          have HB2 : Hid (bestZ ls (j + 1) = if y < x then (j : Int) else (p : Int)) := by
            show _ = _
            rw [HB.out, hz]
            by_cases hyx : y < x
            · rw [if_pos hyx, if_pos ⟨hx0, .inr ⟨p, hb, by rw [hgp]; exact hyx⟩⟩]
            · rw [if_neg hyx, if_neg]
              rintro ⟨_, h | ⟨p', h1, h2⟩⟩
              · rw [hb] at h; cases h
              · rw [hb] at h1
                injection h1 with h1
                subst h1
                rw [hgp] at h2
                exact hyx h2
          rw [hz]
          clear hb hz HB HOK hok e1 hgp hy
          by_cases hyx : y < x
          · have hyz : (y : Int) < (x : Int) := by omega
            have HB3 : Hid (bestZ ls (j + 1) = (j : Int)) := by show _ = _; rw [HB2.out, if_pos hyx]
            clear HB2
            go_wp2_with fail
            go_quiet (fail)
            go_wp2_with fail
            go_roundw
            case rel => exact ⟨j + 1, by omega, int_eq (by omega), int_eq (by rw [HB3.out]), hst.out.drewN _⟩
            case measure => simp [intOf]; omega
          · have hyz : ¬ (y : Int) < (x : Int) := by omega
            have hyd : decide ((y : Int) < (x : Int)) = false := decide_eq_false hyz
            have HB3 : Hid (bestZ ls (j + 1) = (p : Int)) := by show _ = _; rw [HB2.out, if_neg hyx]
            clear HB2
            go_wp2_with fail
            go_quiet (fail)
            go_wp2_with fail
            go_roundw
            case rel => exact ⟨j + 1, by omega, int_eq (by omega), int_eq (by rw [HB3.out]), hst.out.drewN _⟩
            case measure => simp [intOf]; omega
      · have hxz : ¬ (0 : Int) < (x : Int) := by omega
        have hxd : decide ((0 : Int) < (x : Int)) = false := decide_eq_false hxz
        have HB2 : Hid (bestZ ls (j + 1) = bestZ ls j) := by show _ = _; rw [HB.out, if_neg (fun h => hx0 h.1)]
        obtain ⟨Z, hZ⟩ : ∃ Z, bestZ ls j = Z := ⟨_, rfl⟩
        rw [hZ] at HB2 ⊢
        clear hZ HB HOK
        go_wp2_with fail
        go_quiet (fail)
        go_wp2_with fail
        go_roundw
        case rel => exact ⟨j + 1, by omega, int_eq (by omega), int_eq (by rw [HB2.out]), hst.out.drewN _⟩
        case measure => simp [intOf]; omega
    · obtain rfl : j = n := by omega
      go_wp2_with fail
      go_ret
      exact ⟨rfl, s2.out.trans hst.out⟩
end Go.Proofs.YtipgbpopcamllaaGreat
