/-
  The document's own functions of layer 5 (grangerref05): Set.
-/
import Derived.Test.YtmijbplhmjledaaSpRefB
namespace Go.Proofs.Ytmijbplhmjledaa
open Go.RowKit
set_option linter.unusedVariables false

set_option maxHeartbeats 4000000 in
theorem refSet_any (w : World) (rv : Value) (l : List Bool) (h : IsRow w rv l) (b : Bool) (a : Option Addr) (c n : Nat) (xs : List (Int × Int)) (hn : xs.length = n) (hx : ExtAt w a xs) (hb : ∀ x ∈ xs, x.1 ≤ 9223372036854775807) (hxl : xs.length ≤ 9223372036854775807) :
    Calls Try.prog 49 #[rv, .slice a n c, .bool b] w fun e w' => ∃ v', e = .returned (.tuple #[v', .int .i64 (setE b l xs)]) ∧ IsRow w' v' (setL b l xs) ∧ Step noF w w' := by
  subst hn
  have HS := hid h
  obtain ⟨l1, l2, gl, cl, rfl, hcl, hrl⟩ := h
  have HX := hid hx
  have HB := hid hb
  have HRL := hid hrl
  obtain ⟨i0, hi, hz0, hz1, hz2⟩ := info_three info_bool
  clear hx hb hrl
  go_enter Try.func49, Try.ntmps49
  go_wp2_with fail
  go_loopw [8] (fun i wr => ∃ j : Nat, j ≤ xs.length ∧ i = .int .i64 j ∧ Step noF w wr ∧ Hid ((xs.take j).all (inE l.length) = true)) (fun i _ => xs.length - (intOf i).toNat)
  case atStart => exact ⟨0, Nat.zero_le _, rfl, Step.refl _ _, rfl⟩
  case round =>
    obtain ⟨j, hj, rfl, hst, hall⟩ := hrel
    by_cases hjn : j < xs.length
    · have hji : (j : Int) < (xs.length : Int) := by omega
      obtain ⟨ab, off, rfl, y0, y1⟩ := (HX.out.step hst).at j hjn
      have hu9 := HB.out _ (List.getElem_mem hjn)
      have hXj := hid (show (xs[j].1, xs[j].2) = xs[j] from rfl)
      obtain ⟨u, hu⟩ : ∃ u, xs[j].1 = u := ⟨_, rfl⟩
      obtain ⟨v, hv⟩ : ∃ v, xs[j].2 = v := ⟨_, rfl⟩
      rw [hu] at y0 hu9 hXj
      rw [hv] at y1 hXj
      have hcan := in_any wr l.length (by omega) (u, v) hu9
      clear hu hv hu9
      cases hin : inE l.length (u, v)
      · rw [hin] at hcan
        have HI := hid hin
        clear hin
        go_wp2_with fail
        refine hcan.mono ?_
        rintro e w1 ⟨rfl, s1⟩
        go_wp2_with fail
        go_ret2
        have hr := set_range (b := b) (l := l) (xs := xs) (all_not _ xs j hjn (by rw [← hXj.out]; exact HI.out))
        refine ⟨_, by rw [hr.1]; rfl, ?_, hst.trans s1⟩
        rw [hr.2]; exact HS.out.step (hst.trans s1)
      · rw [hin] at hcan
        have HI := hid hin
        clear hin
        go_wp2_with fail
        refine hcan.mono ?_
        rintro e w1 ⟨rfl, s1⟩
        go_wp2_with fail
        go_roundw
        case rel => exact ⟨j + 1, by omega, int_eq (by omega), hst.trans s1, all_take_succ _ xs j hjn hall.out (by rw [← hXj.out]; exact HI.out)⟩
        case measure => simp [intOf]; omega
    · obtain rfl : j = xs.length := by omega
      rw [List.take_length] at hall
      have hrl := HRL.out.step hst (fun x => x)
      have hn : ∀ o, ∀ j u, (bools l)[j]? = some u → (wr.alloc o).cell? (Addr.add ⟨gl, 0, none⟩ j) = some u := fun o j u hj => by
        obtain ⟨hj1, rfl⟩ := List.getElem?_eq_some_iff.1 hj
        rw [Addr.add_lit, Nat.zero_add]
        exact cell_alloc (hrl.cell j hj1) o
      have h1c : ∀ u ∈ bools l, u.oneCell' = true := fun u hu => by
        simp [bools] at hu
        rcases hu with ⟨_, rfl⟩ | ⟨_, rfl⟩ <;> rfl
      have HN := hid hn
      have H1 := hid h1c
      have hmx : Hid (0 + l.length ≤ maxLen) := le_max (by omega)
      have hmb : Hid ((0 + l.length) * 1 ≤ 140737488355328) := by show _ ≤ _; omega
      have hbl : Hid ((bools l).length = l.length * 1) := by show _ = _; rw [bools_length, Nat.mul_one]
      have hsz : wr.heap.size ≤ (wr.alloc (.cells #[] 4)).heap.size := ((Step.refl noF wr).alloc _).size
      clear hjn hj hrl hn h1c
      go_wp2_with (at_builtin; refine wpList_append_own _ rfl _ _ 51 rfl wr.heap.size 4 i0 (.bool false) 1 1 Try.underlying51 hi hz0 hz1 hz2 rfl (by decide) _ _ _ rfl (World.ownsRow_made wr #[] 0 (Nat.le_refl _) (Nat.zero_le _) rfl) ⟨gl, 0, none⟩ l.length cl (bools l) rfl hbl.out (HN.out _) H1.out hmx.out hmb.out hsz ?_; intro v' w1 hown hgrow hnil; rw [Nat.zero_add, List.nil_append] at hown)
      obtain ⟨g', c', rfl, hc', hr', hg⟩ := rowIn_owns (owns_base hown (Nat.zero_le _)) (by omega)
      have hg' := (hown.lt g' hg).1
      have s1 : Step noF wr w1 := ((Step.refl noF wr).alloc (.cells #[] 4)).grown hgrow (fun k hk => .inr (by
        have hk2 : (Value.slice (some ⟨wr.heap.size, 0, none⟩) 0 0).ownBlock = some k := hk
        simp [Value.ownBlock] at hk2
        omega))
      have sAll := hst.trans s1
      have HR := hid hr'
      have HG := hid hg'
      have HFin : Hid (∀ wz, Step (oneF g') w1 wz → Step noF w wz ∧ IsRow wz (.slice (some ⟨gl, 0, none⟩) l.length cl) l) := fun wz hz => by
        have hgl := HRL.out.lt
        have e1 := hst.size
        refine ⟨sAll.then hz (fun i hi => .inr (by unfold oneF at hi; omega)), l1, l2, gl, cl, rfl, hcl, ?_⟩
        exact (HRL.out.step sAll (fun x => x)).step hz (by unfold oneF; omega)
      clear hown hgrow hnil hr' hg' hg hmx hmb hbl hsz HN H1
      go_wp2_with fail
      go_loopw [10, 11] (fun i _ wr => ∃ (j : Nat) (m : List Bool), j ≤ xs.length ∧ i = .int .i64 j ∧ Step (oneF g') w1 wr ∧ Hid (fillA b l xs j = some m) ∧ RowIn wr g' 4 (bools m)) (fun i _ _ => xs.length - (intOf i).toNat)
      case atStart => exact ⟨0, l, Nat.zero_le _, rfl, Step.refl _ _, rfl, HR.out⟩
      case round =>
        obtain ⟨j, m, hj, rfl, hs2, hfa, hrow⟩ := hrel
        by_cases hjn : j < xs.length
        · have hji : (j : Int) < (xs.length : Int) := by omega
          obtain ⟨ab, off, rfl, y0, y1⟩ := (HX.out.step sAll).at j hjn
          have hab : ¬ ab = g' := fun e => by
            rcases HX.out with h0 | ⟨b', off', h1, h2, _⟩
            · rw [h0] at hjn; simp at hjn
            · injection h1 with h1
              injection h1 with h1 _ _
              have := HG.out
              have := hst.size
              omega
          have hin := List.all_eq_true.1 hall.out _ (List.getElem_mem hjn)
          obtain ⟨i1, i2, i3⟩ := inE_iff.1 hin
          have hXj : Hid (fillX b m (xs.getD j (0, 0)) = fillN b m xs[j].1.toNat xs[j].2.toNat) := by show _ = _; rw [getD_lt _ hjn]; rfl
          obtain ⟨U, hU⟩ := Int.eq_ofNat_of_zero_le i1
          obtain ⟨V, hV⟩ := Int.eq_ofNat_of_zero_le (show 0 ≤ xs[j].2 by omega)
          rw [hU] at y0 hXj i3
          rw [hV] at y1 hXj i2 i3
          have HY : Hid (∀ wz, Step (oneF g') w1 wz → wz.cell? ⟨ab, off + j * 2, none⟩ = some (.int .i64 U) ∧ wz.cell? ⟨ab, off + j * 2 + 1, none⟩ = some (.int .i64 V)) := fun wz hz =>
            ⟨(hz.cell (p := ⟨ab, off + j * 2, none⟩) hab (World.block_lt_of_cell? _ _ y0)).trans y0, (hz.cell (p := ⟨ab, off + j * 2 + 1, none⟩) hab (World.block_lt_of_cell? _ _ y1)).trans y1⟩
          clear y0 y1
          obtain ⟨y0, y1⟩ := HY.out _ hs2
          have hml := fillA_len j hfa.out
          have hUV : U + V ≤ l.length := by omega
          have hUV2 : U + V ≤ 512 := by omega
          obtain ⟨E, hE⟩ : ∃ E, U + V = E := ⟨_, rfl⟩
          have hE1 : (U : Int) + (V : Int) = (E : Int) := by omega
          rw [hE] at hUV hUV2
          have HJ := hid (show U + V = E ∧ j < xs.length from ⟨hE, hjn⟩)
          simp only [Int.toNat_natCast] at hXj
          clear hin i1 i2 i3 hU hV hjn hE
          have HT : Hid (∀ wz, Step (oneF g') wr wz → Step (oneF g') w1 wz) := fun wz hz => hs2.trans hz
          go_wp2_with fail
          go_loopw [11] (fun i wz => ∃ (t : Nat) (m2 : List Bool), t ≤ V ∧ i = .int .i64 ((U + t : Nat) : Int) ∧ Step (oneF g') wr wz ∧ Hid (fillN b m U t = some m2) ∧ RowIn wz g' 4 (bools m2)) (fun i _ => E - (intOf i).toNat)
          case atStart => exact ⟨0, m, Nat.zero_le _, rfl, Step.refl _ _, rfl, hrow⟩
          case round =>
            obtain ⟨t, m2, ht, rfl, hs3, hfn, hrow2⟩ := hrel
            obtain ⟨x0, x1⟩ := HY.out _ (HT.out _ hs3)
            have hm2 := fillN_len t hfn.out
            by_cases htV : t < V
            · have htE : ((U + t : Nat) : Int) < (E : Int) := by have := HJ.out; omega
              obtain ⟨K, hK⟩ : ∃ K, U + t = K := ⟨_, rfl⟩
              have hKl : K < m2.length := by have := HJ.out; omega
              have hKn : (K : Int) < (l.length : Int) := by omega
              have hcK := hrow2.cell K (by rw [bools_length]; exact hKl)
              rw [bools_at] at hcK
              have hfK := hrow2.f K
              have hg2 : Hid (m2.getD (U + t) b = m2[K]) := by show _ = _; rw [hK, getD_lt _ hKl]
              obtain ⟨v, hv⟩ : ∃ v, m2[K] = v := ⟨_, rfl⟩
              rw [hv] at hcK hg2
              have HK := hid hK
              rw [hK] at htE ⊢
              have HV := hid htV
              clear hv hK htV
              cases hvb : (v == b)
              · have HVB := hid hvb
                go_wp2_with fail
                go_quiet (fail)
                go_wp2_with fail
                go_roundw
                case rel =>
                  have e : v ≠ b := by simpa using HVB.out
                  refine ⟨t + 1, m2.set K b, HV.out, int_eq (by have := HK.out; omega), (hs3.drewN _).setOne _ _, ?_, ?_⟩
                  · have := fillN_go hfn.out (by rw [hg2.out]; exact e)
                    rw [HK.out] at this
                    exact this
                  · have := hrow2.set K (by rw [bools_length]; exact hKl) (.bool b)
                    rw [bools_set] at this
                    exact this
                case measure => simp [intOf]; omega
              · have HVB := hid hvb
                go_wp2_with fail
                go_quiet (fail)
                go_wp2_with fail
                go_ret2
                have e : v = b := by simpa using HVB.out
                have hnone := fillN_stop hfn.out (by rw [hg2.out]; exact e) HV.out
                obtain ⟨e1, e2⟩ := set_state (b := b) (l := l) (xs := xs) hall.out (fillA_stop hfa.out (by rw [hXj.out]; exact hnone) HJ.out.2)
                obtain ⟨f1, f2⟩ := HFin.out _ (HT.out _ (hs3.drewN _))
                exact ⟨_, by rw [e1]; rfl, by rw [e2]; exact f2, f1⟩
            · obtain rfl : t = V := by omega
              have htE : ¬ ((U + t : Nat) : Int) < (E : Int) := by have := HJ.out; omega
              go_wp2_with fail
              go_quiet (fail)
              go_wp2_with fail
              go_roundw
              case rel => exact ⟨j + 1, m2, HJ.out.2, int_eq (by omega), HT.out _ (hs3.drewN _), fillA_go hfa.out (hXj.out.trans hfn.out), hrow2⟩
              case measure => simp [intOf]; have := HJ.out; omega
        · obtain rfl : j = xs.length := by omega
          have hml := fillA_len _ hfa.out
          go_wp2_with fail
          go_ret2
          obtain ⟨e1, e2⟩ := set_ok (b := b) (l := l) (xs := xs) hall.out hfa.out
          refine ⟨_, by rw [e1]; rfl, ?_, (HFin.out _ hs2).1⟩
          rw [e2]
          exact ⟨by omega, by omega, g', c', by rw [hml]; rfl, by omega, hrow⟩
end Go.Proofs.Ytmijbplhmjledaa
