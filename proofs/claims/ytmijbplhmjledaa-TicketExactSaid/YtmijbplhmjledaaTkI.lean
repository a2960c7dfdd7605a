/-
  What areUsed, places, Late, Ids do.
-/
import Derived.Test.YtmijbplhmjledaaTkH
namespace Go.Proofs.Ytmijbplhmjledaa
open Go.RowKit
set_option linter.unusedVariables false
set_option linter.unusedSimpArgs false

theorem kindAt_cases (l d : List Bool) (k : Nat) : kindAt l d k = 1 ∨ kindAt l d k = 2 ∨ kindAt l d k = 3 := by
  unfold kindAt
  split
  · exact .inr (.inl rfl)
  · split
    · exact .inr (.inr rfl)
    · exact .inl rfl
theorem row_int {w : World} {F : Nat → Prop} {a : Option Addr} {zs : List Int} (h : RowAt w F a (intsOf zs)) (j : Nat) (hj : j < zs.length) : ∃ b off, a = some ⟨b, off, none⟩ ∧ w.cell? ⟨b, off + j, none⟩ = some (.int .i64 zs[j]) := RowAt.at (f := Value.int .i64) h j hj

set_option maxHeartbeats 4000000 in
/-- areUsed. -/
theorem areUsed_any (w : World) (p : Nat) (F : Nat → Prop) (t : Tk) (h : IsPool w p F t) (a : Option Addr) (c n : Nat) (zs : List Int) (hn : zs.length = n) (hz : RowAt w noF a (intsOf zs)) (hl : zs.length ≤ 1000000) (E : Int) (hE : usedE (kindsL t.l t.d) zs = E) :
    Calls Try.prog 46 #[.pointer (some ⟨p, 0, none⟩), .slice a n c] w fun e w' => e = .returned (.int .i64 E) ∧ Step noF w w' := by
  subst hn
  have HP := hid h
  have HZ := hid hz
  have HE := hid hE
  have hlt := h.1.n2
  have hl1 := h.1.n1
  clear h hz hE
  go_enter Try.func46, Try.ntmps46
  go_wp2_with fail
  go_loopw [6, 14] (fun _ i wr => ∃ j : Nat, j ≤ zs.length ∧ i = .int .i64 j ∧ Step noF w wr ∧ Hid ((zs.take j).all (inR t.l.length) = true)) (fun _ i _ => zs.length - (intOf i).toNat)
  case atStart => exact ⟨0, Nat.zero_le _, rfl, Step.refl _ _, rfl⟩
  case round =>
    obtain ⟨j, hj, rfl, hst, hall⟩ := hrel
    by_cases hjn : j < zs.length
    · have hji : (j : Int) < (zs.length : Int) := by omega
      obtain ⟨b, off, rfl, y0⟩ := row_int (HZ.out.step hst) j hjn
      have ck := kind_any wr p F t (HP.out.2.step hst) zs[j]
      have HJ := hid (show zs[j]'hjn = zs[j]'hjn from rfl)
      cases hin : inR t.l.length zs[j]
      · have hk : kindZ t zs[j] = 0 := by rw [kindZ, if_neg (fun x => by rw [inR_iff.2 x] at hin; cases hin)]
        rw [hk] at ck
        have HR : Hid (E = 3) := by
          show _ = _
          rw [← HE.out, usedE, kindsL_len, if_neg]
          rw [Bool.not_eq_true, all_not _ zs j hjn hin]
        obtain ⟨z, hzz⟩ : ∃ z, zs[j] = z := ⟨_, rfl⟩
        rw [hzz] at y0 ck
        clear hin hk hzz HJ
        go_wp2_with fail
        refine ck.mono ?_
        rintro e w1 ⟨rfl, s1⟩
        go_wp2_with fail
        go_ret
        rw [HR.out]
        exact ⟨rfl, hst.trans s1⟩
      · have hk : ¬ kindZ t zs[j] = 0 := by rw [kindZ, if_pos (inR_iff.1 hin)]; have := kindAt_cases t.l t.d zs[j].toNat; omega
        have HA := hid (all_take_succ _ zs j hjn hall.out hin)
        obtain ⟨z, hzz⟩ : ∃ z, zs[j] = z := ⟨_, rfl⟩
        rw [hzz] at y0 ck hk
        obtain ⟨K, hK⟩ : ∃ K, kindZ t z = K := ⟨_, rfl⟩
        rw [hK] at ck hk
        clear hin hzz HJ hK
        go_wp2_with fail
        refine ck.mono ?_
        rintro e w1 ⟨rfl, s1⟩
        go_wp2_with fail
        go_roundw
        case rel => exact ⟨j + 1, by omega, int_eq (by omega), hst.trans s1, HA.out⟩
        case measure => simp [intOf]; omega
    · obtain rfl : j = zs.length := by omega
      rw [List.take_length] at hall
      obtain ⟨_, q, gs, gd, cd, hv, nv, ns, _, _, _, h1, _⟩ := HP.out.2.step hst
      obtain ⟨_, c1, _⟩ := cells6 h1
      have hmk := mk_bools t.l.length (by omega) wr
      have SM : Hid (Step noF w (wr.alloc (.cells (madeCells #[.bool false] t.l.length) 4))) := hst.alloc _
      have RM := hid (made_bools wr t.l.length)
      have HW : Hid (w.heap.size ≤ wr.heap.size) := hst.size
      obtain ⟨gq, hgq⟩ : ∃ gq, wr.heap.size = gq := ⟨_, rfl⟩
      rw [hgq] at hmk RM HW
      have HE2 : Hid (E = if okT (kindsL t.l t.d) zs zs.length then 0 else 11) := by
        show _ = _
        rw [← HE.out, usedE, kindsL_len, if_pos hall.out]
      have HAL := hid (List.all_eq_true.1 hall.out)
      obtain ⟨N, hN⟩ : ∃ N, t.l.length = N := ⟨_, rfl⟩
      have HN := hid hN
      rw [hN] at hmk c1 SM RM hlt hl1 HAL
      clear h1 hjn hj hgq hall hN
      go_wp2_with fail
      go_loopw [9, 31] (fun _ i wr2 => ∃ j : Nat, j ≤ zs.length ∧ i = .int .i64 j ∧ Step noF w wr2 ∧ RowIn wr2 gq 4 (bools (markT true (List.replicate N false) zs j)) ∧ Hid (okT (kindsL t.l t.d) zs j = true)) (fun _ i _ => zs.length - (intOf i).toNat)
      case atStart => exact ⟨0, Nat.zero_le _, rfl, SM.out, RM.out, rfl⟩
      case round =>
        obtain ⟨j, hj, rfl, hst, hrow, hok⟩ := hrel
        by_cases hjn : j < zs.length
        · have hji : (j : Int) < (zs.length : Int) := by omega
          obtain ⟨b, off, rfl, y0⟩ := row_int (HZ.out.step hst) j hjn
          obtain ⟨i1, i2⟩ := inR_iff.1 (HAL.out _ (List.getElem_mem hjn))
          obtain ⟨k, hk⟩ := Int.eq_ofNat_of_zero_le i1
          have hgz : zs.getD j 0 = (k : Int) := by rw [getD_lt _ hjn, hk]
          have hkN : k < N := by omega
          have ck := kind_in wr p F t (HP.out.2.step hst) k (by rw [HN.out]; exact hkN)
          rw [hk] at y0
          have hka : (kindsL t.l t.d).getD k 0 = kindAt t.l t.d k := kindsL_at _ _ _ (by rw [HN.out]; exact hkN)
          have hrg : ∀ z ∈ zs, 0 ≤ z ∧ z < ((List.replicate N false).length : Int) := fun z hz => by rw [List.length_replicate]; exact inR_iff.1 (HAL.out z hz)
          have hoks : okT (kindsL t.l t.d) zs (j + 1) = (decide (kindAt t.l t.d k = 1) && !(zs.take j).contains (k : Int)) := by
            rw [okT, hok.out, Bool.true_and, hgz, Int.toNat_natCast, hka]
          have hml : (markT true (List.replicate N false) zs j).length = N := by rw [markT_len, List.length_replicate]
          have hcs := hrow.cell k (by rw [bools_length, hml]; exact hkN)
          rw [bools_at] at hcs
          have hsn : (markT true (List.replicate N false) zs j)[k]'(by rw [hml]; exact hkN) = (zs.take j).contains (k : Int) := by
            rw [← getD_lt false, markT_at true false _ zs hrg k j (by omega)]
            by_cases hm : (k : Int) ∈ zs.take j
            · rw [if_pos hm]; exact (List.contains_iff_mem.2 hm).symm
            · rw [if_neg hm, getD_lt _ (by rw [List.length_replicate]; exact hkN)]
              simp only [List.getElem_replicate]
              cases hcc : (zs.take j).contains (k : Int) with
              | false => rfl
              | true => exact absurd (List.contains_iff_mem.1 hcc) hm
          rw [hsn] at hcs
          have hfz := hrow.f k
          have HRW := hid hrow
          have HML := hid hml
          have HGZ := hid hgz
          have HOS := hid hoks
          obtain ⟨K, hK⟩ : ∃ K, kindAt t.l t.d k = K := ⟨_, rfl⟩
          rw [hK] at ck HOS
          clear i1 i2 hk hgz hka hrg hoks hml hsn hrow hK
          have hkb : k ≤ 1000 := by omega
          by_cases hK1 : K = 1
          · subst hK1
            cases hcc : (zs.take j).contains (k : Int)
            · rw [hcc] at hcs
              have HO2 : Hid (okT (kindsL t.l t.d) zs (j + 1) = true) := by show _ = _; rw [HOS.out, hcc]; rfl
              clear hcc
              go_wp2_with fail
              refine ck.mono ?_
              rintro e w1 ⟨rfl, s1⟩
              have hcs1 := s1.after hcs
              have hf1 := (HRW.out.step s1 (fun x => x)).f k
              go_wp2_with fail
              go_roundw
              case rel =>
                refine ⟨j + 1, by omega, int_eq (by omega), (hst.trans s1).setCell (p := ⟨gq, k, none⟩) (.inr HW.out) _, ?_, HO2.out⟩
                have := (HRW.out.step s1 (fun x => x)).set k (by rw [bools_length, HML.out]; exact hkN) (.bool true)
                rw [bools_set] at this
                rw [markT, HGZ.out, Int.toNat_natCast]
                exact this
              case measure => simp [intOf]; omega
            · rw [hcc] at hcs
              have HR : Hid (E = 11) := by
                show _ = _
                rw [HE2.out, okT_stop (by rw [HOS.out, hcc]; rfl) hjn]; rfl
              clear hcc
              go_wp2_with fail
              refine ck.mono ?_
              rintro e w1 ⟨rfl, s1⟩
              have hcs1 := s1.after hcs
              go_wp2_with fail
              go_ret
              rw [HR.out]
              exact ⟨rfl, hst.trans s1⟩
          · have HR : Hid (E = 11) := by
              show _ = _
              rw [HE2.out, okT_stop (by rw [HOS.out, decide_eq_false hK1]; rfl) hjn]; rfl
            go_wp2_with fail
            refine ck.mono ?_
            rintro e w1 ⟨rfl, s1⟩
            go_wp2_with fail
            go_ret
            rw [HR.out]
            exact ⟨rfl, hst.trans s1⟩
        · obtain rfl : j = zs.length := by omega
          have HR : Hid (E = 0) := by show _ = _; rw [HE2.out, hok.out]; rfl
          go_wp2_with fail
          go_ret
          rw [HR.out]
          exact ⟨rfl, hst⟩

/-- The late blocks, the tickets, in a row. -/
def idsT (hs : List Int) : Nat → List Int
  | 0 => []
  | j + 1 => if hs.getD j 0 = -1 then idsT hs j else idsT hs j ++ [(j : Int) + 1]
def idsL (hs : List Int) : List Int := idsT hs hs.length
theorem idsT_len (hs : List Int) : ∀ j, (idsT hs j).length ≤ j
  | 0 => Nat.le_refl _
  | j + 1 => by
    have := idsT_len hs j
    rw [idsT]
    split
    · omega
    · simp; omega
/-- A row of one's own, in new memory. -/
def NewRow (w w' : World) (v : Value) (zs : List Int) : Prop := w'.ownsRow 0 3 1 v zs.length (intsOf zs) ∧ ∀ k, v.ownBlock = some k → w.heap.size ≤ k
theorem NewRow.row {w w' : World} {v : Value} {zs : List Int} (h : NewRow w w' v zs) : ∃ a c, v = .slice a zs.length c ∧ RowAt w' noF a (intsOf zs) ∧ ∀ b off, a = some ⟨b, off, none⟩ → w.heap.size ≤ b := by
  obtain ⟨h1, h2⟩ := h
  rcases id h1.2 with ⟨rfl, h0⟩ | ⟨g, cap, cur, rfl, _, hg, hnc, _⟩
  · refine ⟨none, 0, by rw [h0], .inl ?_, fun b off e => by cases e⟩
    rw [List.eq_nil_of_length_eq_zero h0]; rfl
  · exact ⟨some ⟨g, 0, none⟩, cap, rfl, (owns_rowIn h1).rowAt, fun b off e => by injection e with e; injection e with e _ _; subst e; exact h2 g rfl⟩
set_option maxHeartbeats 2000000 in
theorem late_any (w : World) (p : Nat) (F : Nat → Prop) (t : Tk) (h : IsPool w p F t) :
    Calls Try.prog 22 #[.pointer (some ⟨p, 0, none⟩)] w fun e w' => ∃ v, e = .returned v ∧ Step noF w w' ∧ NewRow w w' v (lateL t.d) := by
  obtain ⟨_, q, gs, gd, cd, hv, nv, ns, _, _, _, h1, h2, h3, h4, h5, _⟩ := h.2
  obtain ⟨_, c1, _⟩ := cells6 h1
  have hlt := h.1.n2
  have HR := hid h5
  have HD := hid h3
  have HLD : Hid (lateL t.d = lateT t.d t.l.length) := by show _ = _; rw [lateL, h3]
  obtain ⟨i0, hi, hz0, hz1, hz2⟩ := info_three info_int
  have hone : Hid (∀ x : Int, ∀ u ∈ [Value.int .i64 x], u.oneCell' = true) := fun x u hu => by simp at hu; rw [hu]; rfl
  obtain ⟨N, hN⟩ : ∃ N, t.l.length = N := ⟨_, rfl⟩
  rw [hN] at c1 hlt h4 HD HLD
  clear h h1 h2 h3 h5 hN
  go_enter Try.func22, Try.ntmps22
  go_wp2_with fail
  go_loopw [3, 4, 5, 13] (fun v _ _ i wr => ∃ j : Nat, j ≤ N ∧ i = .int .i64 j ∧ Step noF w wr ∧ NewRow w wr v (lateT t.d j)) (fun _ _ _ i _ => N - (intOf i).toNat)
  case atStart => exact ⟨0, Nat.zero_le _, rfl, Step.refl _ _, ⟨rfl, .inl ⟨rfl, rfl⟩⟩, fun k hk => by simp [Value.ownBlock] at hk⟩
  case round =>
    obtain ⟨j, hj, rfl, hst, hown, hfr⟩ := hrel
    by_cases hjn : j < N
    · have hji : (j : Int) < (N : Int) := by omega
      have hrow := HR.out.step hst (fun x => x)
      have hjd : j < t.d.length := by rw [HD.out]; exact hjn
      have hc := hrow.cell j (by rw [bools_length]; exact hjd)
      rw [bools_at, ← getD_lt false hjd] at hc
      have hlen := (lateT_spec t.d j).2.2
      cases hb : t.d.getD j false
      · rw [hb] at hc
        have hT : Hid (lateT t.d (j + 1) = lateT t.d j) := by show _ = _; rw [lateT, hb]; rfl
        have HO := hid hown
        clear hb hrow hown
        go_wp2_with fail
        go_roundw
        case rel => exact ⟨j + 1, by omega, int_eq (by omega), hst, by rw [hT.out]; exact ⟨HO.out, hfr⟩⟩
        case measure => simp [intOf]; omega
      · rw [hb] at hc
        have hT : Hid (lateT t.d (j + 1) = lateT t.d j ++ [(j : Int)]) := by show _ = _; rw [lateT, hb]; rfl
        have hmx : Hid ((lateT t.d j).length + 1 ≤ maxLen) := le_max (by omega)
        have hmb : Hid (((lateT t.d j).length + 1) * 8 ≤ 140737488355328) := by show _ ≤ _; omega
        clear hb hrow hlen
        go_wp2_with (at_builtin; refine wpList_append_fresh rfl (.tmp 19) (.tmp 21) 30 rfl 3 i0 _ 1 8 Try.underlying30 hi hz0 hz1 hz2 rfl (by decide) _ _ _ (by simp [Act.eval]; rfl) (by exact hown.alloc _) ⟨wr.heap.size, 0, none⟩ 1 1 [.int .i64 j] (by simp [Act.eval]) rfl (cell_one_new _ _ _) (hone.out _) hmx.out hmb.out ?_; intro v' w' ho' hg' hfr')
        go_roundw
        case rel =>
          refine ⟨j + 1, by omega, int_eq (by omega), ?_, ?_, ?_⟩
          · exact (hst.alloc _).grown hg' (fun k hk => .inr (hfr k hk))
          · rw [hT.out, intsOf_append, List.length_append]
            exact ho'
          · intro k hk
            rcases hfr' with e | e
            · exact hfr k (by rw [← e]; exact hk)
            · exact Nat.le_trans (hst.alloc _).size (e k hk)
        case measure => simp [intOf]; omega
    · obtain rfl : j = N := by omega
      go_wp2_with fail
      go_ret
      refine ⟨_, rfl, hst, ?_⟩
      rw [HLD.out]; exact ⟨hown, hfr⟩
set_option maxHeartbeats 2000000 in
theorem ids_any (w : World) (p : Nat) (F : Nat → Prop) (t : Tk) (h : IsPool w p F t) (hl : t.hs.length ≤ 700000) :
    Calls Try.prog 21 #[.pointer (some ⟨p, 0, none⟩)] w fun e w' => ∃ v, e = .returned v ∧ Step noF w w' ∧ NewRow w w' v (idsL t.hs) := by
  obtain ⟨_, q, gs, gd, cd, hv, nv, ns, _, _, _, h1, h2, h3, h4, h5, h6, _⟩ := h.2
  obtain ⟨_, _, _, c3, _⟩ := cells6 h1
  have HO6 := hid h6
  obtain ⟨ha, hcap, rfl⟩ := owns_form h6
  have HLD : Hid (idsL t.hs = idsT t.hs t.hs.length) := rfl
  obtain ⟨i0, hi, hz0, hz1, hz2⟩ := info_three info_int
  have hone : Hid (∀ x : Int, ∀ u ∈ [Value.int .i64 x], u.oneCell' = true) := fun x u hu => by simp at hu; rw [hu]; rfl
  obtain ⟨N, hN⟩ : ∃ N, t.hs.length = N := ⟨_, rfl⟩
  have HN := hid hN
  rw [hN] at c3 hl HLD
  clear h h1 h2 h3 h4 h5 h6 hN
  go_enter Try.func21, Try.ntmps21
  go_wp2_with fail
  go_loopw [3, 4, 5, 13] (fun v _ _ i wr => ∃ j : Nat, j ≤ N ∧ i = .int .i64 j ∧ Step noF w wr ∧ NewRow w wr v (idsT t.hs j)) (fun _ _ _ i _ => N - (intOf i).toNat)
  case atStart => exact ⟨0, Nat.zero_le _, rfl, Step.refl _ _, ⟨rfl, .inl ⟨rfl, rfl⟩⟩, fun k hk => by simp [Value.ownBlock] at hk⟩
  case round =>
    obtain ⟨j, hj, rfl, hst, hown, hfr⟩ := hrel
    by_cases hjn : j < N
    · have hji : (j : Int) < (N : Int) := by omega
      obtain ⟨g, c', he, hcl, hc, hfz⟩ := owns_cell (owns_step HO6.out hst (fun _ _ x => x)) j (by rw [HN.out]; exact hjn)
      injection he with he1 he2 he3
      subst he1 he3
      have hlen := idsT_len t.hs j
      by_cases hb : t.hs.getD j 0 = -1
      · rw [hb] at hc
        have hT : Hid (idsT t.hs (j + 1) = idsT t.hs j) := by show _ = _; rw [idsT, if_pos hb]
        have HO := hid hown
        clear hb hown
        go_wp2_with fail
        go_roundw
        case rel => exact ⟨j + 1, by omega, int_eq (by omega), hst, by rw [hT.out]; exact ⟨HO.out, hfr⟩⟩
        case measure => simp [intOf]; omega
      · have hT : Hid (idsT t.hs (j + 1) = idsT t.hs j ++ [(j : Int) + 1]) := by show _ = _; rw [idsT, if_neg hb]
        obtain ⟨y, hy⟩ : ∃ y, t.hs.getD j 0 = y := ⟨_, rfl⟩
        rw [hy] at hc hb
        have hmx : Hid ((idsT t.hs j).length + 1 ≤ maxLen) := le_max (by omega)
        have hmb : Hid (((idsT t.hs j).length + 1) * 8 ≤ 140737488355328) := by show _ ≤ _; omega
        clear hy hlen
        go_wp2_with (at_builtin; refine wpList_append_fresh rfl (.tmp 20) (.tmp 23) 30 rfl 3 i0 _ 1 8 Try.underlying30 hi hz0 hz1 hz2 rfl (by decide) _ _ _ (by simp [Act.eval]; rfl) (by exact hown.alloc _) ⟨wr.heap.size, 0, none⟩ 1 1 [.int .i64 ((j : Int) + 1)] (by simp [Act.eval]) rfl (cell_one_new _ _ _) (hone.out _) hmx.out hmb.out ?_; intro v' w' ho' hg' hfr')
        go_roundw
        case rel =>
          refine ⟨j + 1, by omega, int_eq (by omega), ?_, ?_, ?_⟩
          · exact (hst.alloc _).grown hg' (fun k hk => .inr (hfr k hk))
          · rw [hT.out, intsOf_append, List.length_append]
            exact ho'
          · intro k hk
            rcases hfr' with e | e
            · exact hfr k (by rw [← e]; exact hk)
            · exact Nat.le_trans (hst.alloc _).size (e k hk)
        case measure => simp [intOf]; omega
    · obtain rfl : j = N := by omega
      go_wp2_with fail
      go_ret
      refine ⟨_, rfl, hst, ?_⟩
      rw [HLD.out]; exact ⟨hown, hfr⟩
end Go.Proofs.Ytmijbplhmjledaa
