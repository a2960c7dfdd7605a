/-
  The walk of TicketExact.
-/
import Derived.Test.YtmijbplhmjledaaTkDoB
import Derived.Test.YtmijbplhmjledaaTkRB
namespace Go.Proofs.Ytmijbplhmjledaa
open Go.RowKit
set_option linter.unusedVariables false
set_option linter.unusedSimpArgs false

set_option maxHeartbeats 400000 in
theorem kind_outP (w : World) (p : Nat) (F : Nat → Prop) (t : Tk) (h : PoolM w p F t) (z : Int) (hz : ¬ (0 ≤ z ∧ z < (t.l.length : Int))) : Calls Try.prog 11 #[.pointer (some ⟨p, 0, none⟩), .int .i64 z] w fun e w' => e = .returned (.int .i64 0) ∧ w = w' := by
  obtain ⟨_, q, gs, gd, c, hv, nv, ns, _, _, _, h1, _⟩ := h
  obtain ⟨_, c1, _⟩ := cells6 h1
  clear h1
  by_cases k1 : z < 0
  · clear hz
    go_enter Try.func11, Try.ntmps11
    go_wp2
    go_ret
    exact ⟨rfl, rfl⟩
  · have k2 : (t.l.length : Int) ≤ z := by omega
    clear hz
    go_enter Try.func11, Try.ntmps11
    go_wp2
    go_ret
    exact ⟨rfl, rfl⟩
set_option maxHeartbeats 800000 in
theorem kind_inP (w : World) (p : Nat) (F : Nat → Prop) (t : Tk) (h : PoolM w p F t) (k : Nat) (hk : k < t.l.length) : Calls Try.prog 11 #[.pointer (some ⟨p, 0, none⟩), .int .i64 k] w fun e w' => e = .returned (.int .i64 (kindAt t.l t.d k)) ∧ w = w' := by
  obtain ⟨q', c0', hsp⟩ := h.sp
  obtain ⟨_, q, gs, gd, c, hv, nv, ns, _, _, _, h1, h2, h3, h4, h5, _⟩ := h
  obtain ⟨c0, c1, _⟩ := cells6 h1
  have hc := h5.cell k (by rw [bools_length, h3]; exact hk)
  rw [bools_at] at hc
  have hgd : t.d[k]'(by rw [h3]; exact hk) = t.d.getD k false := (getD_lt false (by rw [h3]; exact hk)).symm
  rw [hgd] at hc
  have hK : Hid (kindAt t.l t.d k = if t.d.getD k false then 2 else if t.l.getD k false then 3 else 1) := rfl
  have hh := has_any w q t.l h2.sp k
  rw [hasL_nat] at hh
  clear hgd h1 h2 h5 hsp c0' h3
  obtain ⟨N, hN⟩ : ∃ N, t.l.length = N := ⟨_, rfl⟩
  rw [hN] at hk c1 h4
  clear hN
  have k1 : ¬ ((k : Int) < 0) := by omega
  have k2 : ¬ ((N : Int) ≤ (k : Int)) := by omega
  cases hd : t.d.getD k false
  · rw [hd] at hc hK
    cases hl : t.l.getD k false
    · rw [hl] at hh hK
      clear hd hl
      go_enter Try.func11, Try.ntmps11
      go_wp2_with fail
      refine hh.mono ?_
      rintro e w1 ⟨rfl, rfl⟩
      go_wp2_with fail
      go_ret
      exact ⟨ret_int hK.out.symm, rfl⟩
    · rw [hl] at hh hK
      clear hd hl
      go_enter Try.func11, Try.ntmps11
      go_wp2_with fail
      refine hh.mono ?_
      rintro e w1 ⟨rfl, rfl⟩
      go_wp2_with fail
      go_ret
      exact ⟨ret_int hK.out.symm, rfl⟩
  · rw [hd] at hc hK
    clear hd
    go_enter Try.func11, Try.ntmps11
    go_wp2_with fail
    go_ret
    exact ⟨ret_int hK.out.symm, rfl⟩
theorem kind_pure (w : World) (p : Nat) (F : Nat → Prop) (t : Tk) (h : PoolM w p F t) (z : Int) : Calls Try.prog 11 #[.pointer (some ⟨p, 0, none⟩), .int .i64 z] w fun e w' => e = .returned (.int .i64 (kindZ t z)) ∧ w = w' := by
  by_cases hz : 0 ≤ z ∧ z < (t.l.length : Int)
  · obtain ⟨k, rfl⟩ := Int.eq_ofNat_of_zero_le hz.1
    rw [kindZ, if_pos hz, Int.toNat_natCast]
    exact kind_inP w p F t h k (by omega)
  · rw [kindZ, if_neg hz]; exact kind_outP w p F t h z hz
set_option maxHeartbeats 1000000 in
theorem rhas_pure (w : World) (u : Nat) (G : Nat → Prop) (is sz : List Int) (r : Int) (h : IsRf w u G is sz r) (hl : sz.length ≤ 1000000) (z : Int) (b : Bool) (hb : hasB sz z = b) :
    Calls Try.prog 13 #[.pointer (some ⟨u, 0, none⟩), .int .i64 z] w fun e w' => e = .returned (.bool b) ∧ w = w' := by
  obtain ⟨ia, ic, sa, sc, h1, _, h2, _⟩ := h.len
  obtain ⟨_, c0, _⟩ := cells3 h1
  by_cases k1 : 1 ≤ z
  · by_cases k2 : z ≤ (sz.length : Int)
    · obtain ⟨i, hi⟩ := Int.eq_ofNat_of_zero_le (show 0 ≤ z - 1 by omega)
      obtain rfl : z = (i : Int) + 1 := by omega
      have hil : i < sz.length := by omega
      obtain ⟨g, c', he, hcl, hc, _⟩ := owns_cell h2 i hil
      injection he with he1 he2 he3
      subst he1 he3
      have hix : idx ((i : Int) + 1) = i := by unfold idx; omega
      have HB : Hid (b = decide (0 ≤ sz.getD i 0)) := by
        show _ = _
        rw [← hb, hasB, hix, decide_eq_true k1, decide_eq_true k2]; simp
      obtain ⟨y, hy⟩ : ∃ y, sz.getD i 0 = y := ⟨_, rfl⟩
      rw [hy] at hc HB
      have k3 : (i : Int) + 1 - 1 = (i : Int) := by omega
      have k4 : (i : Int) < (sz.length : Int) := by omega
      clear h h1 h2 hb hi hix hy
      go_enter Try.func13, Try.ntmps13
      go_wp2_with fail
      go_ret
      exact ⟨ret_bool HB.out.symm, rfl⟩
    · have HB : Hid (b = false) := by show _ = _; rw [← hb, hasB, decide_eq_false k2]; simp
      clear h h1 h2 hb
      go_enter Try.func13, Try.ntmps13
      go_wp2_with fail
      go_ret
      exact ⟨ret_bool HB.out.symm, rfl⟩
  · have HB : Hid (b = false) := by show _ = _; rw [← hb, hasB, decide_eq_false k1]; rfl
    clear h h1 h2 hb
    go_enter Try.func13, Try.ntmps13
    go_wp2_with fail
    go_ret
    exact ⟨ret_bool HB.out.symm, rfl⟩

theorem act_atE {w w' : World} {a : Option Addr} {xs : List ActT} (h : IsActsT w a xs) (s : Step noF w w') (j : Nat) (hj : j < xs.length) : ∃ b off, a = some ⟨b, off, none⟩ ∧ w'.cell? ⟨b, off + j * 5, none⟩ = some (.int .i64 xs[j].kind) ∧ w'.cell? ⟨b, off + j * 5 + 1, none⟩ = some (.int .i64 xs[j].A) ∧ w'.cell? ⟨b, off + j * 5 + 2, none⟩ = some (.int .i64 xs[j].B) ∧ w'.cell? ⟨b, off + j * 5 + 3, none⟩ = some (.slice xs[j].la xs[j].xs.length xs[j].lc) ∧ w'.cell? ⟨b, off + j * 5 + 4, none⟩ = some (.slice xs[j].na xs[j].zs.length xs[j].nc) := by
  obtain ⟨_, h | ⟨b, off, rfl, hb, hc⟩⟩ := h
  · rw [h] at hj; simp at hj
  · refine ⟨b, off, rfl, s.after (hc j hj 0 _ rfl), s.after (hc j hj 1 _ rfl), s.after (hc j hj 2 _ rfl), s.after (hc j hj 3 _ rfl), s.after (hc j hj 4 _ rfl)⟩
theorem ids_cond {hs : List Int} (hm : ∀ z ∈ hs, -1 ≤ z) {k : Nat} (hk : k < hs.length) : (0 ≤ hs.getD k 0 ∧ idsT hs (k + 1) = idsT hs k ++ [(k : Int) + 1]) ∨ (¬ 0 ≤ hs.getD k 0 ∧ idsT hs (k + 1) = idsT hs k) := by
  have h1 := hm _ (getD_mem 0 hk)
  rw [idsT]
  by_cases h : hs.getD k 0 = -1
  · right; exact ⟨by omega, if_pos h⟩
  · left; exact ⟨by omega, if_neg h⟩
theorem late_cond (l d : List Bool) (k : Nat) : (kindAt l d k = 2 ∧ lateT d (k + 1) = lateT d k ++ [(k : Int)]) ∨ (¬ kindAt l d k = 2 ∧ lateT d (k + 1) = lateT d k) := by
  rw [lateT]
  unfold kindAt
  cases d.getD k false
  · right; cases l.getD k false <;> simp
  · left; simp
theorem both_new {w w1 w2 w3 : World} {p u : Nat} {t : Tk} (s1 : Step noF w w1) (h2 : Step noF w1 w2 ∧ IsPool w2 p (Grew noF w1 w2) t) (h3 : Step noF w2 w3 ∧ Rf w3 u (Grew noF w2 w3) t) : Two w w3 p u (Grew noF w1 w2) (Grew noF w2 w3) t t := by
  refine ⟨((Pl.new h2).after s1).read h3.1, h3.2, fun k hk => ?_, fun k hk hg => ?_⟩
  · rcases hk with hk | hk
    · exact hk.elim
    · exact Nat.le_trans (s1.trans h2.1).size hk.1
  · rcases hg with hg | hg
    · exact hg.elim
    · have := h2.2.lt k hk; omega
/-- An empty row of one's own. -/
theorem newRow_nil (w : World) : NewRow w (w.alloc (.cells #[] 3)) (.slice (some ⟨w.heap.size, 0, none⟩) 0 0) [] :=
  ⟨⟨rfl, .inr ⟨w.heap.size, 0, #[], rfl, Nat.zero_le _, block_alloc_new _ _, Nat.le_refl _, Nat.zero_le _, rfl, rfl⟩⟩, fun k hk => Nat.le_of_eq (Option.some.inj hk)⟩
theorem NewRow.keep {w w1 w2 : World} {v : Value} {zs : List Int} (h : NewRow w w1 v zs) (s : Step noF w1 w2) : NewRow w w2 v zs := ⟨owns_step h.1 s (fun _ _ x => x), h.2⟩
theorem NewRow.app {w W w' : World} {v v' : Value} {zs : List Int} {z : Int} (h : NewRow w W v zs) (s : Step noF w W) (o : Obj) (ho : w'.ownsRow 0 3 1 v' (zs.length + 1) (intsOf zs ++ [.int .i64 z])) (hg : (W.alloc o).grownBy w' v.ownBlock) (hf : Fresh (W.alloc o) v v') : Step noF w w' ∧ NewRow w w' v' (zs ++ [z]) := by
  refine ⟨(s.alloc o).grown hg (fun k hk => .inr (h.2 k hk)), ?_, fun k hk => ?_⟩
  · rw [intsOf_append, List.length_append]; exact ho
  · rcases hf with e | e
    · rw [e] at hk; exact h.2 k hk
    · exact Nat.le_trans (s.alloc o).size (e k hk)

theorem wrap_i (i : Nat) (h : i ≤ 1000000) : wrap64 (i : Int) = i ∧ IntKind.i64.wrap (i : Int) = i := ⟨by unfold wrap64; omega, by simp [IntKind.wrap, IntKind.bits, IntKind.signed]; omega⟩
/-- Each deed does the same to both. -/
def DoesAll : Prop := ∀ (W w : World) (p u : Nat) (F G : Nat → Prop) (t : Tk), Two W w p u F G t t → t.hs.length ≤ 600000 → ∀ x : ActT, x.ok W → x.xs.length ≤ 10 → x.zs.length ≤ 10 →
    Calls Try.prog 10 #[.pointer (some ⟨p, 0, none⟩), .pointer (some ⟨u, 0, none⟩), .agg #[.int .i64 x.kind, .int .i64 x.A, .int .i64 x.B, .slice x.la x.xs.length x.lc, .slice x.na x.zs.length x.nc]] w fun e w' => e = .returned (.bool true) ∧ ∃ t' F' G', Two W w' p u F' G' t' t' ∧ Near t t' ∧ KpB w F G w'

set_option maxHeartbeats 20000000 in
set_option maxRecDepth 100000 in
theorem exact_core (hdoes : DoesAll) (n f r : Int) (xs : List ActT) (hxl : xs.length ≤ 9223372036854775807) (a : Option Addr) (c : Nat) (w : World) (hx : IsActsT w a xs) :
    Calls Try.prog 3 #[.int .i64 n, .int .i64 f, .int .i64 r, .slice a xs.length c] w fun e w' => e = .returned (.bool true) ∧ Step noF w w' := by
  have HX := hid hx
  have HDO := hid hdoes
  clear hx hdoes
  by_cases hcan : canNew n f r
  · obtain ⟨c1, c2, c3, c4, c5, c6⟩ := hcan
    obtain ⟨N, rfl⟩ := Int.eq_ofNat_of_zero_le (show 0 ≤ n by omega)
    obtain ⟨f', rfl⟩ := Int.eq_ofNat_of_zero_le c3
    obtain ⟨i0, hi, hz0, hz1, hz2⟩ := info_three info_int
    have hone : Hid (∀ x : Int, ∀ u ∈ [Value.int .i64 x], u.oneCell' = true) := fun x u hu => by simp at hu; rw [hu]; rfl
    have hN5 : N ≤ 512 := by omega
    go_enter Try.func3, Try.ntmps3
    go_wp2_with fail
    refine (awake_any _).mono ?_
    rintro e w1 ⟨rfl, s1⟩
    go_wp2_with fail
    refine (pnew_any w1 _ _ _ N f' rfl rfl (by omega) (by omega) (by omega) c5 c6).mono ?_
    rintro e w2 ⟨p, rfl, hp, h2⟩
    go_wp2_with fail
    refine (rnew_any w2 _ _ _ N f' rfl rfl (by omega) (by omega) (by omega) c5 c6).mono ?_
    rintro e w3 ⟨u, rfl, h3⟩
    have T3 := hid (both_new s1 h2 h3)
    have HT0 : Hid ((startL N f').length = N) := startL_len (by omega)
    clear h2 h3 s1 hp c1 c2 c3 c4 c5 c6
    go_wp2_with fail
    go_loopw [12] (fun i wr => ∃ (j : Nat) (t : Tk) (F G : Nat → Prop), j ≤ 50 ∧ i = .int .i64 j ∧ Hid (t.hs.length ≤ j ∧ t.l.length = N) ∧ Two w wr p u F G t t) (fun i _ => 50 - (intOf i).toNat)
    case atStart => exact ⟨0, _, _, _, by omega, rfl, ⟨Nat.le_refl _, HT0.out⟩, T3.out⟩
    case round =>
      obtain ⟨j, t, F, G, hj, rfl, hkk, hT⟩ := hrel
      by_cases hjn : j < xs.length ∧ j < 50
      · obtain ⟨hj1, hj5⟩ := hjn
        have hji : (j : Int) < (xs.length : Int) := by omega
        have hji5 : (j : Int) < 50 := by omega
        obtain ⟨b, off, rfl, y0, y1, y2, y3, y4⟩ := act_atE HX.out hT.1.1 j hj1
        have hok := HX.out.1 _ (List.getElem_mem hj1)
        obtain ⟨x, hxx⟩ : ∃ x, xs[j] = x := ⟨_, rfl⟩
        rw [hxx] at y0 y1 y2 y3 y4 hok
        have HOK := hid hok
        have o1 := hok.1
        have o4 := hok.2.2.2.1
        unfold maxLen at o1 o4
        clear hxx hok
        by_cases hL : x.xs.length ≤ 10
        · have g1 : ¬ ((10 : Int) < (x.xs.length : Int)) := by omega
          by_cases hN : x.zs.length ≤ 10
          · have g2 : ¬ ((10 : Int) < (x.zs.length : Int)) := by omega
            have sA : Step noF wr (wr.alloc (.cells #[.int .i64 x.kind, .int .i64 x.A, .int .i64 x.B, .slice x.la x.xs.length x.lc, .slice x.na x.zs.length x.nc] 32)) := (Step.refl _ _).alloc _
            have cd := HDO.out w _ p u F G t (hT.read sA) (by have := hkk.out.1; omega) x HOK.out hL hN
            have HXB : Hid (∀ V, KpB (wr.alloc (.cells #[.int .i64 x.kind, .int .i64 x.A, .int .i64 x.B, .slice x.la x.xs.length x.lc, .slice x.na x.zs.length x.nc] 32)) F G V → V.cell? ⟨wr.heap.size, 1, none⟩ = some (.int .i64 x.A)) := fun V hV => by
              have e := hV.2 wr.heap.size (by simp) (fun e => by have := hT.1.2.1.lt _ e; omega) (fun e => by have := hT.2.1.1 _ e; omega)
              exact cell_of_block (e.trans (block_alloc_new _ _)) 1
            have HKK := hid hkk.out
            clear hT sA
            go_wp2_with fail
            refine cd.mono ?_
            rintro e w4 ⟨rfl, t', F', G', hT', hnear, hkp⟩
            have HX1 := hid (HXB.out w4 hkp)
            have HT := hid hT'
            have hsl : t'.hs.length ≤ 50 := by have := hnear.1; have := HKK.out.1; omega
            have HLN := hid (And.intro hnear.1 (hnear.2.trans HKK.out.2))
            have HWf := hid hT'.1.2.1.1
            obtain ⟨ia, ic, sa, sc, hb, ho, hs, _⟩ := IsRf.len hT'.2.1
            have HKL := hid (show (kindsL t'.l t'.d).length = N by rw [kindsL_len, hnear.2, HKK.out.2])
            rw [HKL.out] at hb
            have HB := hid hb
            have HO := hid ho
            have HS := hid hs
            clear hT' hkp hnear cd hb ho hs HXB y0 y1 y2 y3 y4
            obtain ⟨c0, c1, _⟩ := cells3 HB.out
            have hnn := newRow_nil w4
            have HR0 := hid hnn
            have S0 : Hid (Step noF w4 (w4.alloc (.cells #[] 3))) := (Step.refl _ _).alloc _
            clear hnn
            go_wp2_with fail
            go_loopw [14, 15] (fun v i wr => ∃ k : Nat, k ≤ t'.hs.length ∧ i = .int .i64 k ∧ Step noF w4 wr ∧ NewRow w4 wr v (idsT t'.hs k)) (fun _ i _ => t'.hs.length - (intOf i).toNat)
            case atStart => exact ⟨0, Nat.zero_le _, rfl, S0.out, HR0.out⟩
            case round =>
              obtain ⟨k, hk, rfl, hst, hnr⟩ := hrel
              have c1' := hst.after c1
              by_cases hkn : k < t'.hs.length
              · have hki : (k : Int) < (t'.hs.length : Int) := by omega
                obtain ⟨g, c', he, hcl, hc, _⟩ := owns_cell (owns_step HS.out hst (fun _ _ x => x)) k hkn
                injection he with he1 he2 he3
                subst he1 he3
                have hlen := idsT_len t'.hs k
                have hcond := ids_cond HWf.out.hm hkn
                obtain ⟨y, hy⟩ : ∃ y, t'.hs.getD k 0 = y := ⟨_, rfl⟩
                rw [hy] at hc hcond
                clear hy
                rcases hcond with ⟨q0, hT1⟩ | ⟨q0, hT1⟩
                · have HT1 := hid hT1
                  have hmx : Hid ((idsT t'.hs k).length + 1 ≤ maxLen) := le_max (by omega)
                  have hmb : Hid (((idsT t'.hs k).length + 1) * 8 ≤ 140737488355328) := by show _ ≤ _; omega
                  have HNR := hid hnr
                  have HST := hid hst
                  clear hT1 hnr hst
                  go_wp2_with (at_builtin; refine wpList_append_fresh rfl (.tmp 86) (.tmp 89) 30 rfl 3 i0 _ 1 8 Try.underlying30 hi hz0 hz1 hz2 rfl (by decide) _ _ _ (by simp [Act.eval]; rfl) (by exact HNR.out.1.alloc _) ⟨wr.heap.size, 0, none⟩ 1 1 [.int .i64 ((k : Int) + 1)] (by simp [Act.eval]) rfl (cell_one_new _ _ _) (hone.out _) hmx.out hmb.out ?_; intro v' w' ho' hg' hfr')
                  go_roundw
                  case rel =>
                    have x := HNR.out.app HST.out _ ho' hg' hfr'
                    exact ⟨k + 1, by omega, int_eq (by omega), x.1, by rw [HT1.out]; exact x.2⟩
                  case measure => simp [intOf]; omega
                · have HT1 := hid hT1
                  have HNR := hid hnr
                  clear hT1 hnr
                  go_wp2_with fail
                  go_roundw
                  case rel => exact ⟨k + 1, by omega, int_eq (by omega), hst, by rw [HT1.out]; exact HNR.out⟩
                  case measure => simp [intOf]; omega
              · obtain rfl : k = t'.hs.length := by omega
                obtain ⟨ida, idc, rfl, hrI, _⟩ := hnr.row
                have HRI := hid hrI
                have hlI := idsT_len t'.hs t'.hs.length
                have HST := hid hst
                have HR1 := hid (newRow_nil wr)
                have S1 : Hid (Step noF wr (wr.alloc (.cells #[] 3))) := (Step.refl _ _).alloc _
                obtain ⟨wI, hwI⟩ : ∃ wI, wr = wI := ⟨_, rfl⟩
                subst hwI
                clear hnr hrI hst
                go_wp2_with fail
                go_loopw [16, 17] (fun v i wr2 => ∃ k : Nat, k ≤ N ∧ i = .int .i64 k ∧ Step noF wr wr2 ∧ NewRow wr wr2 v (lateT t'.d k)) (fun _ i _ => N - (intOf i).toNat)
                case atStart => exact ⟨0, Nat.zero_le _, rfl, S1.out, HR1.out⟩
                case round =>
                  obtain ⟨k, hk, rfl, hst, hnr⟩ := hrel
                  have c0' := hst.after (HST.out.after c0)
                  by_cases hkn : k < N
                  · have hki : (k : Int) < (N : Int) := by omega
                    have ho' := owns_step (owns_step HO.out HST.out (fun _ _ x => x)) hst (fun _ _ x => x)
                    obtain ⟨g, c', he, hcl, hc, _⟩ := owns_cell ho' k (by rw [HKL.out]; exact hkn)
                    rw [HKL.out] at he
                    injection he with he1 he2 he3
                    subst he1 he3
                    rw [kindsL_at _ _ _ (by have := HLN.out.2; omega)] at hc
                    have hlen := (lateT_spec t'.d k).2.2
                    have hcond := late_cond t'.l t'.d k
                    have HCK : Hid (∀ V, Step noF w4 V → Calls Try.prog 11 #[.pointer (some ⟨p, 0, none⟩), .int .i64 k] V fun e w' => e = .returned (.int .i64 (kindAt t'.l t'.d k)) ∧ w' = V) := fun V hV => (kind_inP V p F' t' (HT.out.1.2.1.2.step hV) k (by have := HLN.out.2; omega)).mono (fun e w' h => ⟨h.1, h.2.symm⟩)
                    obtain ⟨y, hy⟩ : ∃ y, kindAt t'.l t'.d k = y := ⟨_, rfl⟩
                    rw [hy] at hc hcond HCK
                    have SW := hid (HST.out.trans hst)
                    clear hy ho'
                    rcases hcond with ⟨q0, hT1⟩ | ⟨q0, hT1⟩
                    · have HT1 := hid hT1
                      subst q0
                      have hmx : Hid ((lateT t'.d k).length + 1 ≤ maxLen) := le_max (by omega)
                      have hmb : Hid (((lateT t'.d k).length + 1) * 8 ≤ 140737488355328) := by show _ ≤ _; omega
                      have HNR := hid hnr
                      have HS2 := hid hst
                      clear hT1 hnr hst
                      go_wp2_with (at_builtin; refine wpList_append_fresh rfl (.tmp 109) (.tmp 111) 30 rfl 3 i0 _ 1 8 Try.underlying30 hi hz0 hz1 hz2 rfl (by decide) _ _ _ (by simp [Act.eval]; rfl) (by exact HNR.out.1.alloc _) ⟨wr.heap.size, 0, none⟩ 1 1 [.int .i64 (k : Int)] (by simp [Act.eval]) rfl (cell_one_new _ _ _) (hone.out _) hmx.out hmb.out ?_; intro v' w' ho' hg' hfr'; have HXA := hid (HNR.out.app HS2.out _ ho' hg' hfr'); clear ho' hg' hfr')
                      have SW2 : Hid (Step noF w4 w') := HST.out.trans HXA.out.1
                      have c0w := SW2.out.after c0
                      have hcw : w'.cell? ⟨g, k, none⟩ = some (.int .i64 2) := by
                        have h1 := owns_step HO.out SW2.out (fun _ _ x => x)
                        have h2 := (owns_rowIn (by rw [HKL.out] at h1; exact h1)).int k (by rw [HKL.out]; exact hkn)
                        rw [kindsL_at _ _ _ (by have := HLN.out.2; omega)] at h2
                        rw [h2]
                        rcases late_cond t'.l t'.d k with ⟨q, _⟩ | ⟨q, e⟩
                        · rw [q]
                        · have := HT1.out; rw [e] at this; have := congrArg List.length this; simp at this
                      clear hc c0'
                      go_quiet (first | (go_at_call 11; refine Calls.quiet_of_same (HCK.out _ (by exact SW2.out.drewN _))))
                      go_wp2_with fail
                      go_roundw
                      case rel => exact ⟨k + 1, by omega, int_eq (by omega), HXA.out.1.drewN _, by rw [HT1.out]; exact HXA.out.2.keep ((Step.refl _ _).drewN _)⟩
                      case measure => simp [intOf]; omega
                    · have HT1 := hid hT1
                      have HNR := hid hnr
                      clear hT1 hnr
                      go_wp2_with fail
                      go_quiet (first | (go_at_call 11; refine Calls.quiet_of_same (HCK.out _ (by exact SW.out.drewN _))))
                      go_wp2_with fail
                      go_roundw
                      case rel => exact ⟨k + 1, by omega, int_eq (by omega), hst.drewN _, by rw [HT1.out]; exact HNR.out.keep ((Step.refl _ _).drewN _)⟩
                      case measure => simp [intOf]; omega
                  · obtain rfl : k = N := by omega
                    obtain ⟨laa, lac, rfl, hrL, _⟩ := hnr.row
                    have SW := hid (HST.out.trans hst)
                    have HRL := hid hrL
                    have HRI2 := hid (HRI.out.step hst)
                    have hlL := (lateT_spec t'.d k).2.2
                    have HT5 := hid (HT.out.read SW.out)
                    have x1 := SW.out.after HX1.out
                    have c1n := SW.out.after c1
                    clear hnr hrL hst
                    have hcntE := HWf.out.count
                    obtain ⟨fr, hfr⟩ : ∃ fr, freeL t'.l = fr := ⟨_, rfl⟩
                    have HCNT : Hid ((((kindsL t'.l t'.d).count 3 : Nat) : Int) = fr) := by show _ = _; rw [hcntE, hfr]
                    obtain ⟨hd, hhd⟩ : ∃ hd, heldL t'.hs = hd := ⟨_, rfl⟩
                    have HHD := hid hhd
                    have HHB : Hid (hd ≤ 1000) := by show _ ≤ _; have := HWf.out.held; omega
                    obtain ⟨L, hLL⟩ : ∃ L, leftT t' = L := ⟨_, rfl⟩
                    have HLL := hid hLL
                    have HFR := hid hfr
                    clear hcntE hfr hhd hLL
                    cases hb : hasB t'.hs x.A
                    · skip
                      have co := of_none _ p F' t' HT5.out.1.2.1.2 _ (hasB_no HWf.out.hm hb) (by omega)
                      go_wp2_with fail
                      refine co.mono ?_
                      rintro e w6 ⟨rfl, s6⟩
                      have T6o := hid (HT5.out.read s6)
                      have x6 := s6.after x1
                      have HHS : Hid (∀ V, Step noF w6 V → Calls Try.prog 13 #[.pointer (some ⟨u, 0, none⟩), .int .i64 x.A] V fun e w' => e = .returned (.bool false) ∧ w' = V) := fun V hV => (rhas_pure V u G' _ _ _ (T6o.out.2.1.step hV) (by omega) _ false hb).mono (fun e w' h => ⟨h.1, h.2.symm⟩)
                      clear x1 c1n
                      go_wp2_with fail
                      go_quiet (first | (go_at_call 13; refine Calls.quiet_of_same (HHS.out _ (by exact (Step.refl _ _).drewN _))))
                      have T6 := hid (T6o.out.read ((Step.refl noF w6).drewN nq))
                      have S6 : Hid (Step noF wr (w6.drewN nq)) := s6.drewN nq
                      clear T6o s6
                      go_wp2_with fail
                      refine (pfree_call _ p F' t' (by exact T6.out.1.2.1) fr HFR.out).mono ?_
                      rintro e w7 ⟨rfl, s7⟩
                      have T7 := hid (T6.out.read s7)
                      have cC := rcount_any w7 u G' _ _ _ T7.out.2.1 (by rw [HKL.out]; omega) 3
                      rw [HCNT.out] at cC
                      go_wp2_with fail
                      refine cC.mono ?_
                      rintro e w8 ⟨rfl, s8⟩
                      have T8 := hid (T7.out.read s8)
                      go_wp2_with fail
                      refine (pheld_call w8 p F' t' T8.out.1.2.1 hd HHD.out).mono ?_
                      rintro e w9 ⟨rfl, s9⟩
                      have T9 := hid (T8.out.read s9)
                      go_wp2_with fail
                      refine (rheld_any w9 u G' _ _ _ T9.out.2.1 (by omega) (by rw [HHD.out]; exact HHB.out) hd HHD.out).mono ?_
                      rintro e w10 ⟨rfl, s10⟩
                      have T10 := hid (T9.out.read s10)
                      go_wp2_with fail
                      refine (pleft_call w10 p F' t' T10.out.1.2.1 L HLL.out).mono ?_
                      rintro e w11 ⟨rfl, s11⟩
                      have T11 := hid (T10.out.read s11)
                      go_wp2_with fail
                      refine (rleft_any w11 u G' t' HWf.out T11.out.2.1 (by omega) L HLL.out).mono ?_
                      rintro e w12 ⟨rfl, s12⟩
                      have T12 := hid (T11.out.read s12)
                      go_wp2_with fail
                      refine (ids_any w12 p F' t' T12.out.1.2.1 (by omega)).mono ?_
                      rintro e w13 ⟨v13, rfl, s13, n13⟩
                      obtain ⟨a13, c13, rfl, r13, _⟩ := n13.row
                      have T13 := hid (T12.out.read s13)
                      have SI := hid (((((((s7.trans s8).trans s9).trans s10).trans s11).trans s12).trans s13))
                      have cI := ints_any w13 a13 ida c13 idc (idsL t'.hs).length (idsT t'.hs t'.hs.length).length (idsL t'.hs) rfl rfl r13 ((HRI2.out.step S6.out).step SI.out) (Nat.le_trans hlI (by omega))
                      clear s7 s8 s9 s10 s11 s12 s13 r13 n13
                      go_wp2_with fail
                      refine cI.mono ?_
                      rintro e w14 ⟨rfl, s14⟩
                      have T14 := hid (T13.out.read s14)
                      go_wp2_with fail
                      refine (late_any w14 p F' t' T14.out.1.2.1).mono ?_
                      rintro e w15 ⟨v15, rfl, s15, n15⟩
                      obtain ⟨a15, c15, rfl, r15, _⟩ := n15.row
                      have T15 := hid (T14.out.read s15)
                      have SL := hid ((SI.out.trans s14).trans s15)
                      have HLT : Hid (lateL t'.d = lateT t'.d k) := by
                        show _ = _
                        rw [lateL, HWf.out.dl, HLN.out.2]
                      have cL := ints_any w15 a15 laa c15 lac (lateL t'.d).length (lateT t'.d k).length (lateL t'.d) rfl (by rw [HLT.out]) r15 (by rw [HLT.out]; exact (HRL.out.step S6.out).step SL.out) (by rw [HLT.out]; omega)
                      clear s14 s15 r15 n15
                      go_wp2_with fail
                      refine cL.mono ?_
                      rintro e w16 ⟨rfl, s16⟩
                      have T16 := hid (T15.out.read s16)
                      go_wp2_with fail
                      refine (kind_call w16 p F' t' T16.out.1.2.1 (-1) 0 (by rw [kindZ, if_neg (by omega)])).mono ?_
                      rintro e w17 ⟨rfl, s17⟩
                      have T17 := hid (T16.out.read s17)
                      go_wp2_with fail
                      refine (kind_call w17 p F' t' T17.out.1.2.1 _ 0 (by rw [kindZ, if_neg (by have := HLN.out.2; omega)])).mono ?_
                      rintro e w18 ⟨rfl, s18⟩
                      have T18 := hid (T17.out.read s18)
                      go_wp2_with fail
                      go_roundw
                      case rel => exact ⟨j + 1, t', F', G', by omega, int_eq (by omega), ⟨by have := HLN.out.1; have := HKK.out.1; omega, HLN.out.2⟩, T18.out⟩
                      case measure => simp [intOf]; omega
                    · skip
                      obtain ⟨hzA, hiA, hyA⟩ := hasB_yes hb
                      generalize idx x.A = i at hzA hiA hyA
                      have co := of_some _ p F' t' HT5.out.1.2.1.2 _ i ⟨rfl, hiA, hyA⟩ (by omega)
                      rw [hzA] at x1 hb
                      have q7 : (i : Int) + 1 - 1 = i := by omega
                      have q5 : (i : Int) < (t'.hs.length : Int) := by omega
                      have HQW := hid (wrap_i i (Nat.le_trans (Nat.le_of_lt hiA) (Nat.le_trans hsl (by decide))))
                      obtain ⟨y, hy⟩ : ∃ y, t'.hs.getD i 0 = y := ⟨_, rfl⟩
                      rw [hy] at co
                      have HY := hid hy
                      have HIA := hid hiA
                      clear hyA hiA hy
                      go_wp2_with fail
                      refine co.mono ?_
                      rintro e w6 ⟨rfl, s6⟩
                      have S46 := hid (SW.out.trans s6)
                      have T6o := hid (HT5.out.read s6)
                      obtain ⟨g, c', he, hcl, hc, _⟩ := owns_cell (owns_step HS.out S46.out (fun _ _ x => x)) i HIA.out
                      injection he with he1 he2 he3
                      subst he1 he3
                      rw [HY.out] at hc
                      have x6 := s6.after x1
                      have c16 := s6.after c1n
                      have HHS : Hid (∀ V, Step noF w6 V → Calls Try.prog 13 #[.pointer (some ⟨u, 0, none⟩), .int .i64 ((i : Int) + 1)] V fun e w' => e = .returned (.bool true) ∧ w' = V) := fun V hV => (rhas_pure V u G' _ _ _ (T6o.out.2.1.step hV) (by omega) _ true hb).mono (fun e w' h => ⟨h.1, h.2.symm⟩)
                      clear x1 c1n hzA
                      go_wp2_with fail
                      obtain ⟨q1, q2⟩ := HQW.out
                      go_quiet (first | (go_at_call 13; refine Calls.quiet_of_same (HHS.out _ (by exact (Step.refl _ _).drewN _))))
                      clear q1 q2
                      have T6 := hid (T6o.out.read ((Step.refl noF w6).drewN nq))
                      have S6 : Hid (Step noF wr (w6.drewN nq)) := s6.drewN nq
                      clear T6o s6
                      go_wp2_with fail
                      refine (pfree_call _ p F' t' (by exact T6.out.1.2.1) fr HFR.out).mono ?_
                      rintro e w7 ⟨rfl, s7⟩
                      have T7 := hid (T6.out.read s7)
                      have cC := rcount_any w7 u G' _ _ _ T7.out.2.1 (by rw [HKL.out]; omega) 3
                      rw [HCNT.out] at cC
                      go_wp2_with fail
                      refine cC.mono ?_
                      rintro e w8 ⟨rfl, s8⟩
                      have T8 := hid (T7.out.read s8)
                      go_wp2_with fail
                      refine (pheld_call w8 p F' t' T8.out.1.2.1 hd HHD.out).mono ?_
                      rintro e w9 ⟨rfl, s9⟩
                      have T9 := hid (T8.out.read s9)
                      go_wp2_with fail
                      refine (rheld_any w9 u G' _ _ _ T9.out.2.1 (by omega) (by rw [HHD.out]; exact HHB.out) hd HHD.out).mono ?_
                      rintro e w10 ⟨rfl, s10⟩
                      have T10 := hid (T9.out.read s10)
                      go_wp2_with fail
                      refine (pleft_call w10 p F' t' T10.out.1.2.1 L HLL.out).mono ?_
                      rintro e w11 ⟨rfl, s11⟩
                      have T11 := hid (T10.out.read s11)
                      go_wp2_with fail
                      refine (rleft_any w11 u G' t' HWf.out T11.out.2.1 (by omega) L HLL.out).mono ?_
                      rintro e w12 ⟨rfl, s12⟩
                      have T12 := hid (T11.out.read s12)
                      go_wp2_with fail
                      refine (ids_any w12 p F' t' T12.out.1.2.1 (by omega)).mono ?_
                      rintro e w13 ⟨v13, rfl, s13, n13⟩
                      obtain ⟨a13, c13, rfl, r13, _⟩ := n13.row
                      have T13 := hid (T12.out.read s13)
                      have SI := hid (((((((s7.trans s8).trans s9).trans s10).trans s11).trans s12).trans s13))
                      have cI := ints_any w13 a13 ida c13 idc (idsL t'.hs).length (idsT t'.hs t'.hs.length).length (idsL t'.hs) rfl rfl r13 ((HRI2.out.step S6.out).step SI.out) (Nat.le_trans hlI (by omega))
                      clear s7 s8 s9 s10 s11 s12 s13 r13 n13
                      go_wp2_with fail
                      refine cI.mono ?_
                      rintro e w14 ⟨rfl, s14⟩
                      have T14 := hid (T13.out.read s14)
                      go_wp2_with fail
                      refine (late_any w14 p F' t' T14.out.1.2.1).mono ?_
                      rintro e w15 ⟨v15, rfl, s15, n15⟩
                      obtain ⟨a15, c15, rfl, r15, _⟩ := n15.row
                      have T15 := hid (T14.out.read s15)
                      have SL := hid ((SI.out.trans s14).trans s15)
                      have HLT : Hid (lateL t'.d = lateT t'.d k) := by
                        show _ = _
                        rw [lateL, HWf.out.dl, HLN.out.2]
                      have cL := ints_any w15 a15 laa c15 lac (lateL t'.d).length (lateT t'.d k).length (lateL t'.d) rfl (by rw [HLT.out]) r15 (by rw [HLT.out]; exact (HRL.out.step S6.out).step SL.out) (by rw [HLT.out]; omega)
                      clear s14 s15 r15 n15
                      go_wp2_with fail
                      refine cL.mono ?_
                      rintro e w16 ⟨rfl, s16⟩
                      have T16 := hid (T15.out.read s16)
                      go_wp2_with fail
                      refine (kind_call w16 p F' t' T16.out.1.2.1 (-1) 0 (by rw [kindZ, if_neg (by omega)])).mono ?_
                      rintro e w17 ⟨rfl, s17⟩
                      have T17 := hid (T16.out.read s17)
                      go_wp2_with fail
                      refine (kind_call w17 p F' t' T17.out.1.2.1 _ 0 (by rw [kindZ, if_neg (by have := HLN.out.2; omega)])).mono ?_
                      rintro e w18 ⟨rfl, s18⟩
                      have T18 := hid (T17.out.read s18)
                      go_wp2_with fail
                      go_roundw
                      case rel => exact ⟨j + 1, t', F', G', by omega, int_eq (by omega), ⟨by have := HLN.out.1; have := HKK.out.1; omega, HLN.out.2⟩, T18.out⟩
                      case measure => simp [intOf]; omega
          · have g2 : (10 : Int) < (x.zs.length : Int) := by omega
            have HP := hid hT.1.1
            clear hT
            go_wp2_with fail
            go_ret
            exact ⟨rfl, HP.out.alloc _⟩
        · have g1 : (10 : Int) < (x.xs.length : Int) := by omega
          have HP := hid hT.1.1
          clear hT
          go_wp2_with fail
          go_ret
          exact ⟨rfl, HP.out.alloc _⟩
      · have HP := hid hT.1.1
        clear hT
        by_cases h0 : j < xs.length
        · have h0' : (j : Int) < (xs.length : Int) := by omega
          have h5 : ¬ ((j : Int) < 50) := by omega
          go_wp2_with fail
          go_ret
          exact ⟨rfl, HP.out⟩
        · have h0' : ¬ ((j : Int) < (xs.length : Int)) := by omega
          go_wp2_with fail
          go_ret
          exact ⟨rfl, HP.out⟩
  · go_enter Try.func3, Try.ntmps3
    go_wp2_with fail
    refine (awake_any _).mono ?_
    rintro e w1 ⟨rfl, s1⟩
    go_wp2_with fail
    refine (pnew_none w1 n f r hcan).mono ?_
    rintro e w2 ⟨rfl, s2⟩
    go_wp2_with fail
    refine (rnew_none w2 n f r hcan).mono ?_
    rintro e w3 ⟨rfl, s3⟩
    go_wp2_with fail
    go_ret
    exact ⟨rfl, (s1.trans s2).trans s3⟩
end Go.Proofs.Ytmijbplhmjledaa
