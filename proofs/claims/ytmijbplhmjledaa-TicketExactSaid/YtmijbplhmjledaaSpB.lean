/-
  What Give and TakeAt do: turn.
-/
import Derived.Test.YtmijbplhmjledaaSpA
namespace Go.Proofs.Ytmijbplhmjledaa
open Go.RowKit
set_option linter.unusedVariables false

theorem all_take_succ {α : Type} (f : α → Bool) (xs : List α) (j : Nat) (h : j < xs.length) (h1 : (xs.take j).all f = true) (h2 : f xs[j] = true) : (xs.take (j + 1)).all f = true := by
  rw [take_snoc' _ _ h, List.all_append, h1]; simp [h2]
theorem all_not {α : Type} (f : α → Bool) (xs : List α) (j : Nat) (h : j < xs.length) (h2 : f xs[j] = false) : xs.all f = false := by
  rw [List.all_eq_false]; exact ⟨xs[j], List.getElem_mem _, by rw [h2]; decide⟩
theorem Step.one {p : Nat} {a b : World} (h : Step noF a b) : Step (oneF p) a b := h.mono (fun _ x => x.elim)

theorem Step.setOne {p : Nat} {a b : World} (h : Step (oneF p) a b) (j : Nat) (v : Value) : Step (oneF p) a (b.setCell ⟨p, j, none⟩ v) := h.setCell (p := ⟨p, j, none⟩) (.inl rfl) v

set_option maxHeartbeats 4000000 in
theorem turn_at (w : World) (p g : Nat) (l : List Bool) (h : SpAt w p g l) (b : Bool) (a : Option Addr) (c : Nat) (xs : List (Int × Int)) (hx : ExtAt w a xs) (hb : ∀ x ∈ xs, x.1 ≤ 9223372036854775807) (hxl : xs.length ≤ 9223372036854775807) :
    Calls Try.prog 48 #[.pointer (some ⟨p, 0, none⟩), .bool b, .slice a xs.length c] w fun e w' => e = .returned (.int .i64 (setE b l xs)) ∧ Step (oneF p) w w' ∧ SpFrom w g w' p (setL b l xs) := by
  have HSA := hid h
  have HS := hid h.sp
  have HX := hid hx
  have HB := hid hb
  clear h hx hb
  go_enter Try.func48, Try.ntmps48
  go_wp2_with fail
  go_loopw [8, 15] (fun _ i wr => ∃ j : Nat, j ≤ xs.length ∧ i = .int .i64 j ∧ Step noF w wr ∧ Hid ((xs.take j).all (inE l.length) = true)) (fun _ i _ => xs.length - (intOf i).toNat)
  case atStart => exact ⟨0, Nat.zero_le _, rfl, Step.refl _ _, rfl⟩
  case round =>
    obtain ⟨j, hj, rfl, hst, hall⟩ := hrel
    by_cases hjn : j < xs.length
    · have hji : (j : Int) < (xs.length : Int) := by omega
      obtain ⟨ab, off, rfl, y0, y1⟩ := (HX.out.step hst).at j hjn
      have hu9 := HB.out _ (List.getElem_mem hjn)
      have hXj := hid (show (xs[j].1, xs[j].2) = xs[j] from rfl)
      obtain ⟨u, hu⟩ : ∃ u, xs[j].1 = u := ⟨_, rfl⟩
      obtain ⟨v, hv⟩ : ∃ v, xs[j].2 = v := ⟨_, rfl⟩
      rw [hu] at y0 hu9 hXj
      rw [hv] at y1 hXj
      have hcan := canBe_any (wr.alloc (.cells #[.int .i64 u, .int .i64 v] 53)) p l (HS.out.step (hst.alloc _)) (u, v) hu9
      clear hu hv hu9
      cases hin : inE l.length (u, v)
      · rw [hin] at hcan
        have HI := hid hin
        clear hin
        go_wp2_with fail
        refine hcan.mono ?_
        rintro e w1 ⟨rfl, s1⟩
        go_wp2_with fail
        go_ret
        have hr := set_range (b := b) (l := l) (xs := xs) (all_not _ xs j hjn (by rw [← hXj.out]; exact HI.out))
        refine ⟨?_, ((hst.alloc _).trans s1).one, ?_⟩
        · rw [hr.1]; rfl
        · rw [hr.2]; exact (HSA.out.step ((hst.alloc _).trans s1)).self
      · rw [hin] at hcan
        have HI := hid hin
        clear hin
        go_wp2_with fail
        refine hcan.mono ?_
        rintro e w1 ⟨rfl, s1⟩
        go_wp2_with fail
        go_roundw
        case rel => exact ⟨j + 1, by omega, int_eq (by omega), (hst.alloc _).trans s1, all_take_succ _ xs j hjn hall.out (by rw [← hXj.out]; exact HI.out)⟩
        case measure => simp [intOf]; omega
    · obtain rfl : j = xs.length := by omega
      rw [List.take_length] at hall
      obtain ⟨l1, l2, cg, h3, h4, h5⟩ := id (HSA.out.step hst)
      have c0 := sp_cell h3
      have H3 := hid h3
      have hcl := clone_any wr g cg l h5 l1 l2
      clear h3 hjn hj
      go_wp2_with fail
      refine hcl.mono ?_
      rintro e w1 ⟨g', c', rfl, hg', hc', hr', s1⟩
      have sAll := hst.trans s1
      have HR := hid hr'
      have HG := hid hg'
      have HFin : Hid (∀ wz, Step (oneF g') w1 wz → Step (oneF p) w wz ∧ SpAt wz p g l) := fun wz hz => by
        have hpl := lt_of_block H3.out
        have hgl := h5.lt
        have e1 := hst.size
        have e2 := s1.size
        refine ⟨sAll.one.then hz (fun i hi => .inr (by unfold oneF at hi; omega)), l1, l2, cg, ?_, h4, ?_⟩
        · exact (hz.block p (by omega) (by unfold oneF; omega)).trans ((s1.block p hpl (fun x => x)).trans H3.out)
        · exact (h5.step s1 (fun x => x)).step hz (by unfold oneF; omega)
      clear hr' hg' hcl
      go_wp2_with fail
      go_loopw [11, 12, 31] (fun _ _ i wr => ∃ (j : Nat) (m : List Bool), j ≤ xs.length ∧ i = .int .i64 j ∧ Step (oneF g') w1 wr ∧ Hid (fillA b l xs j = some m) ∧ RowIn wr g' 4 (bools m)) (fun _ _ i _ => xs.length - (intOf i).toNat)
      case atStart => exact ⟨0, l, Nat.zero_le _, rfl, Step.refl _ _, rfl, HR.out⟩
      case round =>
        obtain ⟨j, m, hj, rfl, hs2, hfa, hrow⟩ := hrel
        by_cases hjn : j < xs.length
        · have hji : (j : Int) < (xs.length : Int) := by omega
          obtain ⟨ab, off, rfl, y0, y1⟩ := (HX.out.step sAll).at j hjn
          have hab : ¬ ab = g' := fun e => by
            rcases HX.out with h0 | ⟨b', off', h1, h2, _⟩
            · rw [h0] at hjn; simp at hjn
            · injection h1 with h1
              injection h1 with h1 _ _
              have := HG.out
              have := hst.size
              omega
          replace y0 := (hs2.cell (p := ⟨ab, off + j * 2, none⟩) hab (World.block_lt_of_cell? _ _ y0)).trans y0
          replace y1 := (hs2.cell (p := ⟨ab, off + j * 2 + 1, none⟩) hab (World.block_lt_of_cell? _ _ y1)).trans y1
          have hin := List.all_eq_true.1 hall.out _ (List.getElem_mem hjn)
          obtain ⟨i1, i2, i3⟩ := inE_iff.1 hin
          have hXj : Hid (fillX b m (xs.getD j (0, 0)) = fillN b m xs[j].1.toNat xs[j].2.toNat) := by show _ = _; rw [getD_lt _ hjn]; rfl
          obtain ⟨U, hU⟩ := Int.eq_ofNat_of_zero_le i1
          obtain ⟨V, hV⟩ := Int.eq_ofNat_of_zero_le (show 0 ≤ xs[j].2 by omega)
          rw [hU] at y0 hXj i3
          rw [hV] at y1 hXj i2 i3
          have hml := fillA_len j hfa.out
          have hUV : U + V ≤ l.length := by omega
          have hUV2 : U + V ≤ 512 := by omega
          have hn1 : l.length ≤ 512 := l2
          have hgq : g' < wr.heap.size := hrow.lt
          obtain ⟨E, hE⟩ : ∃ E, U + V = E := ⟨_, rfl⟩
          have hE1 : (U : Int) + (V : Int) = (E : Int) := by omega
          rw [hE] at hUV hUV2
          have HJ := hid (show U + V = E ∧ j < xs.length from ⟨hE, hjn⟩)
          simp only [Int.toNat_natCast] at hXj y0 y1
          clear hin i1 i2 i3 hU hV hjn hE
          have HC : Hid (∀ wz, Step (oneF g') (wr.alloc (.cells #[.int .i64 U, .int .i64 V] 53)) wz → wz.cell? ⟨wr.heap.size, 0, none⟩ = some (.int .i64 U) ∧ wz.cell? ⟨wr.heap.size, 1, none⟩ = some (.int .i64 V)) := fun wz hz => by
            have hb := (hz.block wr.heap.size (by simp) (by unfold oneF; omega)).trans (block_alloc_new wr (.cells #[.int .i64 U, .int .i64 V] 53))
            exact ⟨cell_of_block hb 0, cell_of_block hb 1⟩
          have HT : Hid (∀ wz, Step (oneF g') (wr.alloc (.cells #[.int .i64 U, .int .i64 V] 53)) wz → Step (oneF g') w1 wz) := fun wz hz => (hs2.alloc _).trans hz
          go_wp2_with fail
          go_loopw [12] (fun i wz => ∃ (t : Nat) (m2 : List Bool), t ≤ V ∧ i = .int .i64 ((U + t : Nat) : Int) ∧ Step (oneF g') (wr.alloc (.cells #[.int .i64 U, .int .i64 V] 53)) wz ∧ Hid (fillN b m U t = some m2) ∧ RowIn wz g' 4 (bools m2)) (fun i _ => E - (intOf i).toNat)
          case atStart => exact ⟨0, m, Nat.zero_le _, rfl, Step.refl _ _, rfl, hrow.step ((Step.refl noF _).alloc _) (fun x => x)⟩
          case round =>
            obtain ⟨t, m2, ht, rfl, hs3, hfn, hrow2⟩ := hrel
            obtain ⟨x0, x1⟩ := HC.out _ hs3
            have hm2 := fillN_len t hfn.out
            by_cases htV : t < V
            · have htE : ((U + t : Nat) : Int) < (E : Int) := by have := HJ.out; omega
              obtain ⟨K, hK⟩ : ∃ K, U + t = K := ⟨_, rfl⟩
              have hKl : K < m2.length := by have := HJ.out; omega
              have hKn : (K : Int) < (l.length : Int) := by omega
              have hcK := hrow2.cell K (by rw [bools_length]; exact hKl)
              rw [bools_at] at hcK
              have hfK := hrow2.f K
              have hg2 : Hid (m2.getD (U + t) b = m2[K]) := by show _ = _; rw [hK, getD_lt _ hKl]
              obtain ⟨v, hv⟩ : ∃ v, m2[K] = v := ⟨_, rfl⟩
              rw [hv] at hcK hg2
              have HK := hid hK
              rw [hK] at htE ⊢
              have HV := hid htV
              clear hv hK htV
              cases hvb : (v == b)
              · have HVB := hid hvb
                go_wp2_with fail
                go_roundw
                case rel =>
                  have e : v ≠ b := by simpa using HVB.out
                  refine ⟨t + 1, m2.set K b, HV.out, int_eq (by have := HK.out; omega), hs3.setOne _ _, ?_, ?_⟩
                  · have := fillN_go hfn.out (by rw [hg2.out]; exact e)
                    rw [HK.out] at this
                    exact this
                  · have := hrow2.set K (by rw [bools_length]; exact hKl) (.bool b)
                    rw [bools_set] at this
                    exact this
                case measure => simp [intOf]; omega
              · have HVB := hid hvb
                go_wp2_with fail
                go_ret
                have e : v = b := by simpa using HVB.out
                have hnone := fillN_stop hfn.out (by rw [hg2.out]; exact e) HV.out
                obtain ⟨e1, e2⟩ := set_state (b := b) (l := l) (xs := xs) hall.out (fillA_stop hfa.out (by rw [hXj.out]; exact hnone) HJ.out.2)
                obtain ⟨f1, f2⟩ := HFin.out _ (HT.out _ hs3)
                exact ⟨by rw [e1]; rfl, f1, by rw [e2]; exact f2.self⟩
            · obtain rfl : t = V := by omega
              have htE : ¬ ((U + t : Nat) : Int) < (E : Int) := by have := HJ.out; omega
              go_wp2_with fail
              go_roundw
              case rel => exact ⟨j + 1, m2, HJ.out.2, int_eq (by omega), HT.out _ hs3, fillA_go hfa.out (hXj.out.trans hfn.out), hrow2⟩
              case measure => simp [intOf]; have := HJ.out; omega
        · obtain rfl : j = xs.length := by omega
          have hpg : ¬ p = g' := fun e => by
            have := HG.out
            have := lt_of_block H3.out
            omega
          have hp1 : p < w1.heap.size := Nat.lt_of_lt_of_le (lt_of_block H3.out) s1.size
          have hp3 := (hs2.block p hp1 hpg).trans ((s1.block p (lt_of_block H3.out) (fun x => x)).trans H3.out)
          have cp := sp_cell hp3
          have fp := frozen_of_block hp3 0
          have HP := hid hp3
          have hml := fillA_len _ hfa.out
          clear hp3 c0
          go_wp2_with fail
          go_ret
          obtain ⟨e1, e2⟩ := set_ok (b := b) (l := l) (xs := xs) hall.out hfa.out
          refine ⟨by rw [e1]; rfl, ?_, ?_⟩
          · refine Step.setOne ?_ _ _
            exact (sAll.trans (Step.refl _ _)).one.then hs2 (fun i hi => .inr (by unfold oneF at hi; have := HG.out; have := hst.size; omega))
          · rw [e2]
            refine ⟨g', .inr (Nat.le_trans hst.size HG.out), by omega, by omega, c', ?_, by omega, ?_⟩
            · have := block_setCell HP.out 0 (.slice (some ⟨g', 0, none⟩) l.length c')
              rw [hml]
              simpa using this
            · exact hrow.step ((Step.refl (oneF p) _).setOne _ _) (fun e => hpg e.symm)
theorem turn_any (w : World) (p : Nat) (l : List Bool) (h : IsSp w p l) (b : Bool) (a : Option Addr) (c : Nat) (xs : List (Int × Int)) (hx : ExtAt w a xs) (hb : ∀ x ∈ xs, x.1 ≤ 9223372036854775807) (hxl : xs.length ≤ 9223372036854775807) :
    Calls Try.prog 48 #[.pointer (some ⟨p, 0, none⟩), .bool b, .slice a xs.length c] w fun e w' => e = .returned (.int .i64 (setE b l xs)) ∧ Step (oneF p) w w' ∧ IsSp w' p (setL b l xs) := by
  obtain ⟨g, hg⟩ := h.at
  refine (turn_at w p g l hg b a c xs hx hb hxl).mono ?_
  rintro e w' ⟨rfl, s1, h1⟩
  exact ⟨rfl, s1, h1.sp⟩
end Go.Proofs.Ytmijbplhmjledaa
