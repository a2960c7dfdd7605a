/-
  What the reference of layer 3 does: Flush, Cut, Burnt, Read.
-/
import Derived.Test.YthgcpeibjnflaaaDevRefR
import Derived.Test.YthgcpeibjnflaaaDevRefS
namespace Go.Proofs.Ythgcpeibjnflaaa
open Go.RowKit
set_option linter.unusedVariables false

theorem rloose_cells {w : World} {lv : Value} {ws : List (Nat × List UInt8)} (h : w.ownsRow 0 45 2 lv ws.length (wcells ws)) (j : Nat) (hj : j < ws.length) :
    ∃ g c, lv = .slice (some ⟨g, 0, none⟩) ws.length c ∧ w.cell? ⟨g, j * 2, none⟩ = some (.int .i64 ws[j].1) ∧ w.cell? ⟨g, j * 2 + 1, none⟩ = some (.string (str ws[j].2)) := by
  rcases h.2 with ⟨_, h0⟩ | ⟨g, cap, cur, rfl, _⟩
  · omega
  · obtain ⟨h1, h2⟩ := wcells_at ws j hj
    have e1 := h.cells (g := g) rfl _ _ h1
    have e2 := h.cells (g := g) rfl _ _ h2
    rw [Addr.add_lit, Nat.zero_add, Nat.mul_comm] at e1 e2
    exact ⟨g, cap, rfl, e1, e2⟩
theorem set_selfR {α : Type} (l : List α) (i : Nat) (z : α) : l.set i (l.getD i z) = l := by
  by_cases h : i < l.length
  · rw [getD_mem _ _ h]; exact List.set_getElem_self h
  · rw [List.set_eq_of_length_le (by omega)]
/-- Two small numbers stay. -/
def Wraps (J M : Nat) : Prop := IntKind.i64.wrap (J : Int) = (J : Int) ∧ IntKind.i64.wrap (M : Int) = (M : Int) ∧ wrap64 (J : Int) = (J : Int) ∧ wrap64 (M : Int) = (M : Int)
theorem nat_wraps (J M : Nat) (h1 : (J : Int) ≤ 1000000) (h2 : (M : Int) ≤ 1000000) : Wraps J M := ⟨iw rfl (by omega) h1, iw rfl (by omega) h2, w64 rfl (by omega) h1, w64 rfl (by omega) h2⟩
theorem RHead.set0 {w : World} {q : Nat} {s s2 : List UInt8} {lv kv : Value} {on : Bool} {fz : Int} {r wr fl : Nat} (h : RHead w q s lv on fz kv r wr fl) : RHead (w.setCell ⟨q, 0, none⟩ (.string (str s2))) q s2 lv on fz kv r wr fl := by
  have := block_setCell h 0 (.string (str s2))
  simpa [RHead] using this

set_option maxHeartbeats 4000000 in
theorem refFlush_any (w : World) (R : Nat → Nat) (o q : Nat) (d : Dv) (h : IsRef w R o q d) (hw : Wf d) :
    Calls Try.prog 12 #[.pointer (some ⟨q, 0, none⟩)] w fun e w' => e = .returned (.tuple #[]) ∧ Step (oneF q) w w' ∧ IsRef w' R o q (flushD d) := by
  obtain ⟨lv, ka, kn, kc, h1, h2, h3, h4, h5⟩ := h
  obtain ⟨la, lc, rfl⟩ := owns_form h4
  have hll := hw.ll
  have H1 := hid h1
  have H4 := hid h4
  clear h1 h4
  go_enter Try.func12, Try.ntmps12
  go_wp2_with fail
  go_loopw [2] (fun i wr => ∃ j : Nat, j ≤ d.loose.length ∧ i = .int .i64 j ∧ Step (oneF q) w wr ∧ RHead wr q (flushL d.safe (d.loose.take j)).flatten (.slice la d.loose.length lc) d.on (fuI d.fuse) (.slice ka kn kc) d.reads d.writes d.flushes) (fun i _ => d.loose.length - (intOf i).toNat)
  case atStart => exact ⟨0, Nat.zero_le _, rfl, Step.refl _ _, H1.out⟩
  case round =>
    obtain ⟨j, hj, rfl, hst, hh⟩ := hrel
    obtain ⟨c0, c1, c2, c3, c4, c5, c6, c7⟩ := ref_cells hh
    have f0 := frozen_of_block hh 0
    by_cases hjn : j < d.loose.length
    · have hji : (j : Int) < (d.loose.length : Int) := by omega
      obtain ⟨g, c', hv, x0, x1⟩ := rloose_cells H4.out j hjn
      injection hv with hv1 _ hv2
      subst hv1 hv2
      have hgR := h3 g rfl
      have hgq : ¬ g = q := fun e => by subst e; omega
      have y0 := (hst.cell (p := ⟨g, j * 2, none⟩) hgq (World.block_lt_of_cell? w _ x0)).trans x0
      have y1 := (hst.cell (p := ⟨g, j * 2 + 1, none⟩) hgq (World.block_lt_of_cell? w _ x1)).trans x1
      obtain ⟨hat, hbl⟩ := hw.l _ (List.getElem_mem hjn)
      obtain ⟨at_, hae⟩ : ∃ at_, d.loose[j].1 = at_ := ⟨_, rfl⟩
      obtain ⟨b, hbe⟩ : ∃ b, d.loose[j].2 = b := ⟨_, rfl⟩
      rw [hae] at y0 hat
      rw [hbe] at y1 hbl
      obtain ⟨sf, hsf⟩ : ∃ sf, flushL d.safe (d.loose.take j) = sf := ⟨_, rfl⟩
      have hs256 : ∀ x ∈ sf, x.length = 256 := by rw [← hsf]; exact flushL_256 _ _ hw.s (fun x hx => (hw.l x (List.mem_of_mem_take hx)).2)
      have hsl : sf.length = d.safe.length := by rw [← hsf, flushL_length]
      have hfl := flat_len sf hs256
      rw [hsf] at c0 hh
      have hn2 := hw.n2
      obtain ⟨A, hA⟩ : ∃ A, 256 * at_ = A := ⟨_, rfl⟩
      have m1 : (256 : Int) * (at_ : Int) = (A : Int) := by omega
      have n1 : IntKind.i64.wrap (A : Int) = (A : Int) := iw rfl (by omega) (by omega)
      have hset : (sf.set at_ b).flatten = layL sf.flatten A b := by rw [← hA]; exact flat_set sf hs256 at_ (by omega) b hbl
      have hlay := fun u => lay_any sf.flatten A b (by rw [hfl, hbl, hsl]; omega) (by rw [hfl, hsl]; omega) u
      rw [← hset] at hlay
      obtain ⟨SF, hSF⟩ : ∃ SF, str sf.flatten = SF := ⟨_, rfl⟩
      obtain ⟨B, hB⟩ : ∃ B, str b = B := ⟨_, rfl⟩
      obtain ⟨Y, hY⟩ : ∃ Y, str (sf.set at_ b).flatten = Y := ⟨_, rfl⟩
      rw [hSF, hB, hY] at hlay
      rw [hSF] at c0
      rw [hB] at y1
      have HH := hid hh
      have HS := hid hsf
      have HL := hid hlay
      have HY := hid hY
      clear hh hsf hlay hY hSF hB hset x0 x1 hs256 hfl
      go_wp2_with fail
      change Code.wp _ (Code.region 3 ((Try.f12.body.bind (regionOps 3)).getD #[]) true) _ _ _
      refine refs_go q g d.loose.length lc j at_ A SF B Y hji hjn m1 n1 _ wr rfl rfl rfl ?_ ?_
      · intro w2 s2
        exact ⟨s2.after c0, s2.after c1, s2.after y0, s2.after y1, HL.out w2, ⟨_, s2.after c0⟩, (s2.frozen (p := ⟨q, 0, none⟩) (fun x => x) (World.block_lt_of_cell? wr _ c0)).trans f0⟩
      intro w2 s2
      simp only [putAll, refsDl, refsVals]
      go_wp2_with fail
      go_roundw
      case rel =>
        refine ⟨j + 1, by omega, int_eq (by omega), (hst.then s2 (fun i hi => hi.elim)).setOneF 0 _, ?_⟩
        rw [take_snoc _ _ hjn, flushL_snoc, HS.out, hae, hbe, ← HY.out]
        exact RHead.set0 ((s2.block q (lt_of_block HH.out) (fun x => x)).trans HH.out)
      case measure => simp [intOf]; omega
    · obtain rfl : j = d.loose.length := by omega
      rw [List.take_of_length_le (Nat.le_refl _)] at hh
      have f1 := frozen_of_block hh 1
      have f7 := frozen_of_block hh 7
      have hcf := hw.cf
      have HH := hid hh
      clear hh
      generalize str (flushL d.safe (d.loose.take d.loose.length)).flatten = X0 at *
      go_wp2_with fail
      go_end0
      have hq := lt_of_block HH.out
      refine ⟨rfl, (hst.setOneF 1 _).setOneF 7 _, .slice none 0 0, ka, kn, kc, ?_, h2, fun k hk => by simp [Value.ownBlock] at hk, ⟨rfl, .inl ⟨rfl, rfl⟩⟩, fun n ks hf => ?_⟩
      · have := block_setCell (block_setCell HH.out 1 (.slice none 0 0)) 7 (.int .i64 ((d.flushes + 1 : Nat) : Int))
        simpa [RHead, flushD] using this
      · obtain ⟨e, hr⟩ := h5 n ks hf
        refine ⟨e, rowAt_keep hr (fun k hk hF => ?_)⟩
        have e0 : R k = 0 := Classical.not_not.1 hF
        exact ⟨((hst.setOneF 1 _).setOneF 7 _).block k hk (fun x => by unfold oneF at x; subst x; omega), hF⟩

set_option maxHeartbeats 4000000 in
set_option maxRecDepth 100000 in
theorem refCut_on (w : World) (R : Nat → Nat) (o q : Nat) (d : Dv) (h : IsRef w R o q d) (hw : Wf d) (hon : d.on = true) (a : Option Addr) (c : Nat) (ks : List Bool) (hkl : ks.length ≤ 1000) (hr : RowAt w (fun k => R k ≠ 0) a (bools ks)) :
    Calls Try.prog 14 #[.pointer (some ⟨q, 0, none⟩), .slice a ks.length c] w fun e w' => e = .returned (.tuple #[]) ∧ Step (oneF q) w w' ∧ IsRef w' R o q (cutD d ks) := by
  obtain ⟨lv, ka, kn, kc, h1, h2, h3, h4, h5⟩ := h
  obtain ⟨la, lc, rfl⟩ := owns_form h4
  have hll := hw.ll
  have hn2 := hw.n2
  have H1 := hid h1
  have H4 := hid h4
  obtain ⟨c0, c1, c2, c3, c4, c5, c6, c7⟩ := ref_cells h1
  rw [hon] at c2
  clear h1 h4 c0 c1 c3 c4 c5 c6 c7
  go_enter Try.func14, Try.ntmps14
  go_wp2_with fail
  go_loopw [4, 5] (fun i _ wr => ∃ j : Nat, j ≤ d.loose.length ∧ i = .int .i64 j ∧ Step (oneF q) w wr ∧ RHead wr q (cutN d.safe d.loose ks j).flatten (.slice la d.loose.length lc) d.on (fuI d.fuse) (.slice ka kn kc) d.reads d.writes d.flushes) (fun i _ _ => d.loose.length - (intOf i).toNat)
  case atStart => exact ⟨0, Nat.zero_le _, rfl, Step.refl _ _, H1.out⟩
  case round =>
    obtain ⟨j, hj, rfl, hst, hh⟩ := hrel
    by_cases hjn : j < d.loose.length
    · have hji : (j : Int) < (d.loose.length : Int) := by omega
      obtain ⟨g, c', hv, x0, x1⟩ := rloose_cells H4.out j hjn
      injection hv with hv1 _ hv2
      subst hv1 hv2
      have hgR := h3 g rfl
      have hgq : ¬ g = q := fun e => by subst e; omega
      obtain ⟨hat, hbl⟩ := hw.l _ (List.getElem_mem hjn)
      obtain ⟨at_, hae⟩ : ∃ at_, d.loose[j].1 = at_ := ⟨_, rfl⟩
      obtain ⟨b, hbe⟩ : ∃ b, d.loose[j].2 = b := ⟨_, rfl⟩
      rw [hae] at x0 hat
      rw [hbe] at x1 hbl
      obtain ⟨sf, hsf⟩ : ∃ sf, cutN d.safe d.loose ks j = sf := ⟨_, rfl⟩
      have hs256 : ∀ x ∈ sf, x.length = 256 := by rw [← hsf]; exact cutN_256 _ _ _ _ hj hw.s hw.l
      have hsl : sf.length = d.safe.length := by rw [← hsf, cutN_length]
      have hats : at_ < sf.length := by omega
      have hX256 := fun t ht => laidN_len (sf.getD at_ []) b (ks.drop (4 * j)) t (by rw [getD_mem _ _ hats]; exact hs256 _ (List.getElem_mem _)) hbl ht
      have hnext : Hid (cutN d.safe d.loose ks (j + 1) = sf.set at_ (laidN (sf.getD at_ []) b (ks.drop (4 * j)) 4)) := by show _ = _; rw [cutN, getD_mem _ _ hjn, hae, hbe, hsf]
      rw [hsf] at hh
      obtain ⟨c0, c1, _⟩ := ref_cells hh
      have HH := hid hh
      clear hh
      obtain ⟨wA, hwA⟩ : ∃ x, x = wr := ⟨_, rfl⟩
      subst hwA
      go_wp2_with fail
      go_loopw [5] (fun i wr => ∃ t : Nat, t ≤ 4 ∧ i = .int .i64 t ∧ Step (oneF q) w wr ∧ RHead wr q (sf.set at_ (laidN (sf.getD at_ []) b (ks.drop (4 * j)) t)).flatten (.slice (some ⟨g, 0, none⟩) d.loose.length lc) d.on (fuI d.fuse) (.slice ka kn kc) d.reads d.writes d.flushes) (fun i _ => 4 - (intOf i).toNat)
      case atStart => exact ⟨0, Nat.zero_le _, rfl, hst, by rw [laidN, set_selfR]; exact HH.out⟩
      case round =>
        obtain ⟨t, ht, rfl, hst2, hh2⟩ := hrel
        obtain ⟨e0, e1, _⟩ := ref_cells hh2
        have f0 := frozen_of_block hh2 0
        by_cases ht4 : t < 4
        · have htI : (t : Int) < 4 := by omega
          obtain ⟨M, hM⟩ : ∃ M, 4 * j + t = M := ⟨_, rfl⟩
          have hget : (ks.drop (4 * j)).getD t false = ks.getD M false := by rw [List.getD_eq_getElem?_getD, List.getElem?_drop, hM, ← List.getD_eq_getElem?_getD]
          have y0 := (hst2.cell (p := ⟨g, j * 2, none⟩) hgq (World.block_lt_of_cell? w _ x0)).trans x0
          have y1 := (hst2.cell (p := ⟨g, j * 2 + 1, none⟩) hgq (World.block_lt_of_cell? w _ x1)).trans x1
          have hX := hid (hX256 t ht)
          by_cases hMl : M < ks.length
          · have q1 : 4 * (j : Int) + (t : Int) < (ks.length : Int) := by omega
            obtain ⟨kb, koff, rfl, hkG, hkc⟩ := bools_at hr M hMl
            have hkq : ¬ kb = q := fun e => by subst e; exact hkG (by omega)
            have z0 := (hst2.cell (p := ⟨kb, koff + M, none⟩) hkq (World.block_lt_of_cell? w _ hkc)).trans hkc
            cases hkM : ks[M]
            · rw [hkM, ← hM] at z0
              have hstay : Hid (laidN (sf.getD at_ []) b (ks.drop (4 * j)) (t + 1) = laidN (sf.getD at_ []) b (ks.drop (4 * j)) t) := by
                show _ = _
                rw [laidN, hget, getD_mem _ _ hMl, hkM]; rfl
              have HH2 := hid hh2
              clear hh2 hM hget x0 x1 hX256 hkM hMl hkc y0 y1 f0
              generalize str (sf.set at_ (laidN (sf.getD at_ []) b (ks.drop (4 * j)) t)).flatten = X0 at *
              clear hs256 hats hsl hat hbl
              go_wp2_with fail
              go_roundw
              case rel => exact ⟨t + 1, by omega, int_eq (by omega), hst2, by rw [hstay.out]; exact HH2.out⟩
              case measure => simp [intOf]; omega
            · rw [hkM, ← hM] at z0
              have hstay : Hid (laidN (sf.getD at_ []) b (ks.drop (4 * j)) (t + 1) = sect (laidN (sf.getD at_ []) b (ks.drop (4 * j)) t) b t) := by
                show _ = _
                rw [laidN, hget, getD_mem _ _ hMl, hkM]; rfl
              obtain ⟨Xt, hXt⟩ : ∃ Xt, laidN (sf.getD at_ []) b (ks.drop (4 * j)) t = Xt := ⟨_, rfl⟩
              have hXl : Xt.length = 256 := by rw [← hXt]; exact hX.out
              rw [hXt] at e0 hh2
              have hfl := flat_len sf hs256
              have hl2 : (sf.set at_ Xt).flatten.length = 256 * sf.length := by
                rw [flat_len _ (fun x hx => by rcases mem_set hx with rfl | hx; exact hXl; exact hs256 x hx), List.length_set]
              have hC : ((b.drop (64 * t)).take 64).length = 64 := by rw [List.length_take, List.length_drop, hbl]; omega
              have hlay := fun u => lay_any (sf.set at_ Xt).flatten (256 * at_ + 64 * t) ((b.drop (64 * t)).take 64) (by rw [hl2, hC]; omega) (by rw [hl2]; omega) u
              have hres : layL (sf.set at_ Xt).flatten (256 * at_ + 64 * t) ((b.drop (64 * t)).take 64) = (sf.set at_ (sect Xt b t)).flatten := by
                rw [flat_set sf hs256 at_ hats Xt hXl, lay_lay _ _ _ _ _ hXl hC ht4 (by rw [hfl]; omega), flat_set sf hs256 at_ hats _ (sect_len _ _ _ hXl hbl ht4)]
                rfl
              rw [hres] at hlay
              obtain ⟨SF, hSF⟩ : ∃ SF, str (sf.set at_ Xt).flatten = SF := ⟨_, rfl⟩
              obtain ⟨B, hB⟩ : ∃ B, str b = B := ⟨_, rfl⟩
              obtain ⟨C, hC2⟩ : ∃ C, str ((b.drop (64 * t)).take 64) = C := ⟨_, rfl⟩
              obtain ⟨Y, hY⟩ : ∃ Y, str (sf.set at_ (sect Xt b t)).flatten = Y := ⟨_, rfl⟩
              rw [hSF, hC2, hY] at hlay
              rw [hSF] at e0
              rw [hB] at y1
              have hBs : B.size = 256 := by rw [← hB, str_size, hbl]
              have hBx : B.extract (64 * t) (64 * t + 64) = C := by rw [← hB, ← hC2, str_extract, List.drop_take, show 64 * t + 64 - 64 * t = 64 by omega]
              have hgo := fun (Q : Exit → Act → World → Prop) (a0 : Act) h1 h2 h3 h4 => refr_go (Q := Q) q g d.loose.length lc j t at_ (256 * at_) (64 * t) (256 * at_ + 64 * t) (64 * t + 64) SF B C Y hji hjn (by omega) (by omega) (by omega) (by omega) (iw rfl (by omega) (by omega)) (iw rfl (by omega) (by omega)) (iw rfl (by omega) (by omega)) (iw rfl (by omega) (by omega)) (by omega) (by omega) (by omega) hBx a0 wr h1 h2 h3 h4 (fun w2 s2 => ⟨s2.after e0, s2.after e1, s2.after y0, s2.after y1, hlay w2, ⟨_, s2.after e0⟩, (s2.frozen (p := ⟨q, 0, none⟩) (fun x => x) (World.block_lt_of_cell? wr _ e0)).trans f0⟩)
              have HGO := hid hgo
              have HH2 := hid hh2
              have HY := hid hY
              have HXT := hid hXt
              clear hh2 hM hget x0 x1 hX256 hkM hMl hkc hgo hlay hres hSF hB hC2 hY hBs hBx hC hl2 hfl hXl hXt
              clear hs256 hats hsl hat hbl
              go_wp2_with fail
              change Code.wp _ (Code.region 8 ((Try.f14.body.bind (regionOps 8)).getD #[]) true) _ _ _
              refine HGO.out _ _ rfl rfl rfl rfl ?_
              intro w2 s2
              simp only [putAll, refrDl, refrVals]
              go_wp2_with fail
              go_roundw
              case rel =>
                refine ⟨t + 1, by omega, int_eq (by omega), (hst2.then s2 (fun i hi => hi.elim)).setOneF 0 _, ?_⟩
                rw [hstay.out, HXT.out, ← HY.out]
                exact RHead.set0 ((s2.block q (lt_of_block HH2.out) (fun x => x)).trans HH2.out)
              case measure => simp [intOf]; omega
          · have q1 : ¬ (4 * (j : Int) + (t : Int) < (ks.length : Int)) := by omega
            have hstay : Hid (laidN (sf.getD at_ []) b (ks.drop (4 * j)) (t + 1) = laidN (sf.getD at_ []) b (ks.drop (4 * j)) t) := by
              show _ = _
              rw [laidN, hget, List.getD_eq_getElem?_getD, List.getElem?_eq_none (by omega)]; rfl
            have HH2 := hid hh2
            clear hh2 hM hget x0 x1 hX256 hMl y0 y1 f0
            generalize str (sf.set at_ (laidN (sf.getD at_ []) b (ks.drop (4 * j)) t)).flatten = X0 at *
            clear hs256 hats hsl hat hbl
            go_wp2_with fail
            go_roundw
            case rel => exact ⟨t + 1, by omega, int_eq (by omega), hst2, by rw [hstay.out]; exact HH2.out⟩
            case measure => simp [intOf]; omega
        · obtain rfl : t = 4 := by omega
          have HH2 := hid hh2
          clear hh2
          generalize str (sf.set at_ (laidN (sf.getD at_ []) b (ks.drop (4 * j)) 4)).flatten = X0 at *
          go_wp2_with fail
          go_roundw
          case rel => exact ⟨j + 1, by omega, int_eq (by omega), hst2, by rw [hnext.out]; exact HH2.out⟩
          case measure => simp [intOf]; omega
    · obtain rfl : j = d.loose.length := by omega
      obtain ⟨_, e1, e2, _⟩ := ref_cells hh
      have f1 := frozen_of_block hh 1
      have f2 := frozen_of_block hh 2
      have HH := hid hh
      clear hh
      go_wp2_with fail
      go_end0
      have hs2 := (hst.setOneF 1 (.slice none 0 0)).setOneF 2 (.bool false)
      refine ⟨rfl, hs2, .slice none 0 0, ka, kn, kc, ?_, h2, fun k hk => by simp [Value.ownBlock] at hk, ?_, fun n ks' hf => ?_⟩
      · have := block_setCell (block_setCell HH.out 1 (.slice none 0 0)) 2 (.bool false)
        simpa [RHead, cutD, hon] using this
      · have e : (cutD d ks).loose = [] := by simp [cutD, hon]
        rw [e]
        exact ⟨rfl, .inl ⟨rfl, rfl⟩⟩
      · have e : (cutD d ks).fuse = d.fuse := by simp [cutD, hon]
        rw [e] at hf
        obtain ⟨e, hr'⟩ := h5 n ks' hf
        refine ⟨e, rowAt_keep hr' (fun k hk hF => ?_)⟩
        have e0 : R k = 0 := Classical.not_not.1 hF
        exact ⟨hs2.block k hk (fun x => by unfold oneF at x; subst x; omega), hF⟩
end Go.Proofs.Ythgcpeibjnflaaa
