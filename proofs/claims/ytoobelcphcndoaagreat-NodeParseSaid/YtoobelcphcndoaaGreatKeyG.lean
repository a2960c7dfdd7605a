/-
  What parts, each and Cut do.
  What Cut does.
-/
import Derived.Test.YtoobelcphcndoaaGreatKeyC
import Derived.Test.YtoobelcphcndoaaGreatKeyRow
import Derived.Deep.RegionWith
namespace Go.Proofs.YtoobelcphcndoaaGreat
open Go.RowKit
set_option linter.unusedVariables false
set_option linter.unusedSimpArgs false

theorem info_rg : (Tryz.prog.info? 166).map (fun i => (i.zero, i.size, i.bytes)) = some (some (.agg #[.string ⟨#[]⟩, .string ⟨#[]⟩]), 2, 32) := by kernel_rfl
theorem info_of {P : Program} {e : TypeId} {z : Value} {s b : Nat} (h : (P.info? e).map (fun i => (i.zero, i.size, i.bytes)) = some (some z, s, b)) : ∃ i, P.info? e = some i ∧ i.zero = some z ∧ i.size = s ∧ i.bytes = b := by
  obtain ⟨i, hi, he⟩ := Option.map_eq_some_iff.1 h
  simp only [Prod.mk.injEq] at he
  exact ⟨i, hi, he.1, he.2.1, he.2.2⟩
theorem pair_row (w : World) (t : TypeId) (a b : Value) (g : Nat) (hg : g = w.heap.size) : ∀ j u, [a, b][j]? = some u → (w.alloc (.cells #[a, b] t)).cell? (Addr.add ⟨g, 0, none⟩ j) = some u := by
  intro j u hj
  subst hg
  rw [Addr.add_lit, Nat.zero_add, cell_of_block (block_alloc_new _ _)]
  rw [← hj, List.getElem?_toArray]

set_option maxHeartbeats 4000000 in
theorem keyParts_any (ps : List (List UInt8)) (hl : ps.length ≤ 1000) (a : Option Addr) (cap : Nat) (w : World) (h : RowAt w noF a (texts ps)) :
    Calls Tryz.prog 176 #[.slice a ps.length cap] w fun e w' => ∃ a' c, e = .returned (.slice a' (ps.length + 1) c) ∧ ps.length + 1 ≤ c ∧ RgsAt w' a' (partsL [] ps) ∧ Step noF w w' := by
  obtain ⟨i0, hi, hz0, hz1, hz2⟩ := info_of info_rg
  have h0 := nil_str
  have HR := hid h
  clear h
  obtain ⟨wm, hmk, hown0, hgr0⟩ := run_makeSlice_owned (P := Tryz.prog) w 0 208 166 i0 _ 2 Tryz.underlying208 hi hz0 hz1 .i64 .i64 (ps.length + 1) (by omega) (by rw [hz2]; omega) (le_max (by omega)) (Nat.zero_le _)
  have hsm : Hid (Step noF w wm) := (Step.refl noF w).grown hgr0 (fun k hk => by cases hk)
  have hmk2 : (Instr.makeSlice 208 (.int .i64 0) (.int .i64 ((ps.length : Int) + 1))).run Tryz.prog w = .ok (.slice (some ⟨w.heap.size, 0, none⟩) 0 (ps.length + 1)) wm := hmk
  have HO := hid hown0
  clear hmk hown0 hgr0
  go_enter Tryz.func176, Tryz.ntmps176
  go_wp2_with fail
  go_loopw [3, 4, 13] (fun v lo i wr => ∃ j : Nat, j ≤ ps.length ∧ i = .int .i64 j ∧ lo = .string (str (([] :: ps).getD j [])) ∧ Step noF w wr ∧ wr.ownsRow 0 166 2 v j (rgs ((partsL [] ps).take j)) ∧ (∀ k, v.ownBlock = some k → w.heap.size ≤ k)) (fun _ _ i _ => ps.length - (intOf i).toNat)
  case atStart => exact ⟨0, Nat.zero_le _, rfl, rfl, hsm.out, HO.out, fun k hk => by simp [Value.ownBlock] at hk; omega⟩
  case round =>
    obtain ⟨j, hj, rfl, rfl, hst, hown, hfr⟩ := hrel
    obtain ⟨lo, hlo⟩ : ∃ lo, ([] :: ps).getD j [] = lo := ⟨_, rfl⟩
    rw [hlo]
    have HLO := hid hlo
    clear hlo
    by_cases hjn : j < ps.length
    · have hji : (j : Int) < (ps.length : Int) := by omega
      obtain ⟨b, off, rfl, hc⟩ := texts_at (HR.out.step hst) j hjn
      have hT : Hid ((partsL [] ps).take (j + 1) = (partsL [] ps).take j ++ [⟨lo, ps[j]⟩]) := by show _ = _; rw [partsL_take ps [] j hjn, HLO.out]
      have hN : Hid (([] :: ps).getD (j + 1) [] = ps[j]) := by show _ = _; simp [List.getD, List.getElem?_eq_getElem hjn]
      obtain ⟨p, hp⟩ : ∃ p, ps[j] = p := ⟨_, rfl⟩
      rw [hp] at hc hT hN
      clear hp
      have hone : Hid (∀ u ∈ [Value.string (str lo), Value.string (str p)], u.oneCell' = true) := fun u hu => by
        simp at hu; rcases hu with rfl | rfl <;> rfl
      have hmx : Hid (j + 1 ≤ maxLen) := le_max (by omega)
      have hmb : Hid ((j + 1) * 32 ≤ 140737488355328) := by show _ ≤ _; omega
      go_wp2_with (at_builtin; refine wpList_append_fresh rfl (.tmp 17) (.tmp 21) 208 rfl 166 i0 _ 2 32 Tryz.underlying208 hi hz0 hz1 hz2 rfl (by decide) _ _ _ (by simp [Act.eval]; rfl) (by exact hown.alloc _) ⟨wr.heap.size, 0, none⟩ 1 1 [.string (str lo), .string (str p)] (by simp [Act.eval]) rfl (pair_row _ _ _ _ _ rfl) hone.out hmx.out hmb.out ?_; intro v' w' ho' hg' hfr')
      go_roundw
      case rel =>
        refine ⟨j + 1, by omega, int_eq (by omega), by rw [hN.out], ?_, ?_, ?_⟩
        · exact (hst.alloc _).grown hg' (fun k hk => .inr (hfr k hk))
        · rw [hT.out, rgs_append]
          exact ho'
        · intro k hk
          rcases hfr' with e | e
          · exact hfr k (by rw [← e]; exact hk)
          · exact Nat.le_trans (hst.alloc _).size (e k hk)
      case measure => simp [intOf]; omega
    · obtain rfl : j = ps.length := by omega
      have hT : Hid (partsL [] ps = (partsL [] ps).take ps.length ++ [⟨lo, []⟩]) := by show _ = _; conv => lhs; rw [partsL_last]
                                                                                       rw [HLO.out]
      have hone : Hid (∀ u ∈ [Value.string (str lo), Value.string (str [])], u.oneCell' = true) := fun u hu => by
        simp at hu; rcases hu with rfl | rfl <;> rfl
      have hmx : Hid (ps.length + 1 ≤ maxLen) := le_max (by omega)
      have hmb : Hid ((ps.length + 1) * 32 ≤ 140737488355328) := by show _ ≤ _; omega
      go_wp2_with (at_builtin; refine wpList_append_fresh rfl (.tmp 25) (.tmp 28) 208 rfl 166 i0 _ 2 32 Tryz.underlying208 hi hz0 hz1 hz2 rfl (by decide) _ _ _ (by simp [Act.eval]; rfl) (by exact hown.alloc _) ⟨wr.heap.size, 0, none⟩ 1 1 [.string (str lo), .string (str [])] (by simp [Act.eval]) rfl (pair_row _ _ _ _ _ rfl) hone.out hmx.out hmb.out ?_; intro v' w' ho' hg' hfr')
      go_ret
      have ho2 : w'.ownsRow 0 166 2 v' (ps.length + 1) (rgs (partsL [] ps)) := by
        rw [hT.out, rgs_append]
        exact ho'
      obtain ⟨a', c, rfl, hc', hr⟩ := rgsAt_owns ho2 (by rw [partsL_length])
      exact ⟨a', c, rfl, hc', hr, (hst.alloc _).grown hg' (fun k hk => .inr (hfr k hk))⟩
theorem madeCells_len (cs : Array Value) (n : Nat) : (madeCells cs n).toList.length = n := by rw [Array.length_toList, size_madeCells]

set_option maxHeartbeats 4000000 in
theorem keyEach_any (r : Rg) (rs : List Rg) (hl : rs.length ≤ 1001) (a : Option Addr) (cap : Nat) (w : World) (h : RgsAt w a rs) :
    Calls Tryz.prog 174 #[.func (.func 175) #[r.val] #[], .slice a rs.length cap] w fun e w' => ∃ a' c, e = .returned (.slice a' rs.length c) ∧ rs.length ≤ c ∧ RgsAt w' a' (rs.map r.meet) ∧ Step noF w w' := by
  obtain ⟨i0, hi, hz0, hz1, hz2⟩ := info_of info_rg
  have h0 := nil_str
  have HR := hid h
  clear h
  obtain ⟨wm, hmk, hown0, hgr0⟩ := run_makeSlice_full (P := Tryz.prog) w 0 208 166 i0 _ 2 Tryz.underlying208 hi hz0 hz1 .i64 .i64 rs.length (by omega) (by rw [hz2]; omega) (le_max (by omega)) (Nat.zero_le _)
  have hsm : Hid (Step noF w wm) := (Step.refl noF w).grown hgr0 (fun k hk => by cases hk)
  have hfill : Hid (FillAt wm w.heap.size 166 [] rs.length) := by
    rcases hown0.2 with ⟨x, _⟩ | ⟨g, c, cur, hv, _, hg, _, _, hcs, ht⟩
    · cases x
    · injection hv with h1 h2 h3
      injection h1 with h1
      injection h1 with h1
      subst h1
      refine ⟨cur, cur.toList, hg, rfl, ?_⟩
      rw [Array.length_toList, hcs, ← h3]
      simp
  clear hown0 hgr0
  obtain ⟨V, hV⟩ : ∃ V, r.val = V := ⟨_, rfl⟩
  have HM : ∀ (x y : List UInt8) (u : World), Calls Tryz.prog 175 #[V, .agg #[.string (str x), .string (str y)]] u fun e w' => e = .returned (.agg #[.string (str (r.meet ⟨x, y⟩).lo), .string (str (r.meet ⟨x, y⟩).hi)]) ∧ Step noF u w' := by
    intro x y u
    rw [← hV]
    exact meet_any r ⟨x, y⟩ u
  rw [hV]
  clear hV
  go_enter Tryz.func174, Tryz.ntmps174
  go_wp2_with fail
  go_loopw [13] (fun i wr => ∃ j : Nat, j ≤ rs.length ∧ i = .int .i64 j ∧ Hid (Step noF w wr) ∧ Hid (FillAt wr w.heap.size 166 ((rs.take j).map r.meet) rs.length)) (fun i _ => rs.length - (intOf i).toNat)
  case atStart => exact ⟨0, Nat.zero_le _, rfl, hsm.out, hfill.out⟩
  case round =>
    obtain ⟨j, hj, rfl, hst, hf⟩ := hrel
    by_cases hjn : j < rs.length
    · have hji : (j : Int) < (rs.length : Int) := by omega
      obtain ⟨b, off, rfl, y0, y1⟩ := (HR.out.step hst.out).at j hjn
      have hT : Hid ((rs.take (j + 1)).map r.meet = (rs.take j).map r.meet ++ [r.meet ⟨rs[j].lo, rs[j].hi⟩]) := by show _ = _; rw [List.take_succ_eq_append_getElem hjn, List.map_append]; rfl
      obtain ⟨lo, hlo⟩ : ∃ lo, rs[j].lo = lo := ⟨_, rfl⟩
      obtain ⟨hh, hhi⟩ : ∃ hi, rs[j].hi = hi := ⟨_, rfl⟩
      rw [hlo] at y0 hT
      rw [hhi] at y1 hT
      clear hlo hhi
      obtain ⟨M, hM⟩ : ∃ M, r.meet ⟨lo, hh⟩ = M := ⟨_, rfl⟩
      have hc := HM lo hh
      rw [hM] at hc hT
      clear hM
      have hlen : ((rs.take j).map r.meet).length = j := by simp; omega
      go_wp2_with fail
      refine (hc _).mono ?_
      rintro e w2 ⟨rfl, s2⟩
      have hS2 : Hid (Step noF w w2) := (hst.out.alloc _).trans s2
      have hf2 : Hid (FillAt w2 w.heap.size 166 ((rs.take j).map r.meet) rs.length) := hf.out.step (((Step.refl noF wr).alloc _).trans s2)
      obtain ⟨o0, o1, c0, c1, f0, f1⟩ := hf2.out.old (by rw [hlen]; exact hjn)
      rw [hlen] at c0 c1 f0 f1
      have hf3 := hid (hf2.out.put (by rw [hlen]; exact hjn) M j hlen.symm)
      go_wp2_with fail
      go_roundw
      case rel =>
        refine ⟨j + 1, by omega, int_eq (by omega), ?_, ?_⟩
        · exact (hS2.out.setCell (p := ⟨w.heap.size, j * 2, none⟩) (.inr (Nat.le_refl _)) _).setCell (p := ⟨w.heap.size, j * 2 + 1, none⟩) (.inr (Nat.le_refl _)) _
        · rw [hT.out]
          exact hf3.out
      case measure => simp [intOf]; omega
    · obtain rfl : j = rs.length := by omega
      go_wp2_with fail
      go_ret
      obtain ⟨A, rest, hb, hA, _⟩ := hf.out
      rw [List.take_of_length_le (Nat.le_refl _)] at hA
      exact ⟨_, _, rfl, Nat.le_refl _, rgsAt_block hb hA, hst.out⟩
end Go.Proofs.YtoobelcphcndoaaGreat
namespace Go.Proofs.YtoobelcphcndoaaGreat
open Go.RowKit
set_option linter.unusedVariables false
set_option linter.unusedSimpArgs false

set_option maxHeartbeats 4000000 in
set_option maxRecDepth 100000 in
theorem cut_any (r : Rg) (ps : List (List UInt8)) (hl : ps.length ≤ 1000) (a : Option Addr) (cap : Nat) (w : World) (h : RowAt w noF a (texts ps)) :
    Calls Tryz.prog 158 #[r.val, .slice a ps.length cap] w fun e w' => ∃ a' c, e = .returned (.slice a' (ps.length + 1) c) ∧ ps.length + 1 ≤ c ∧ RgsAt w' a' (r.cut ps) ∧ Step noF w w' := by
  have e0 : r.val = .agg #[.string (str r.lo), .string (str r.hi)] := rfl
  have HR := hid h
  clear h
  by_cases hp : ps = []
  · subst hp
    have HC : Hid (r.cut [] = [r]) := rfl
    have HB : Hid (RgsAt ((w.alloc (.cells #[.string (str r.lo), .string (str r.hi)] 166)).alloc (.cells #[.string (str r.lo), .string (str r.hi)] 166)) (some ⟨w.heap.size + 1, 0, none⟩) [r]) := by
      have hb := block_alloc_new (w.alloc (.cells #[.string (str r.lo), .string (str r.hi)] 166)) (.cells #[.string (str r.lo), .string (str r.hi)] 166)
      rw [World.size_alloc] at hb
      exact rgsAt_block hb (rest := []) rfl
    rw [e0]
    go_enter Tryz.func158, Tryz.ntmps158
    go_wp2_with fail
    go_ret
    exact ⟨_, _, rfl, Nat.le_refl _, by rw [HC.out]; exact HB.out, ((Step.refl noF w).alloc _).alloc _⟩
  · have hp0 : ps.length ≠ 0 := fun h => hp (List.eq_nil_of_length_eq_zero h)
    have HC : Hid (r.cut ps = (partsL [] ps).map r.meet) := by show _ = _; simp [Rg.cut, hp]
    have hmf : ∀ (fn : Fn) (first cap : Array Value) (w : World), (Instr.makeFunc fn first cap).run Tryz.prog w = .ok (.func fn first cap) w := fun _ _ _ _ => rfl
    have hE := fun a' c (u : World) (hu : RgsAt u a' (partsL [] ps)) => keyEach_any r (partsL [] ps) (by rw [partsL_length]; omega) a' c u hu
    rw [partsL_length, e0] at hE
    rw [e0]
    have hR2 : Hid (RowAt (w.alloc (.cells #[.string (str r.lo), .string (str r.hi)] 166)) noF a (texts ps)) := HR.out.step ((Step.refl noF w).alloc _)
    have k0 : (w.alloc (.cells #[.string (str r.lo), .string (str r.hi)] 166)).cell? ⟨w.heap.size, 0, none⟩ = some (.string (str r.lo)) := (pair_new w 166 r.lo r.hi).c0
    have k1 : (w.alloc (.cells #[.string (str r.lo), .string (str r.hi)] 166)).cell? ⟨w.heap.size, 1, none⟩ = some (.string (str r.hi)) := (pair_new w 166 r.lo r.hi).c1
    clear hp
    go_enter Tryz.func158, Tryz.ntmps158
    go_wp2_with fail
    go_region_with (first
      | (go_at_call 176; refine (keyParts_any ps hl a cap _ (by exact hR2.out)).mono ?_; rintro e w2 ⟨a', c, rfl, hc, hr, s2⟩; have g0 := s2.after k0; have g1 := s2.after k1)
      | (go_at_call 174; refine (hE _ _ _ (by exact hr)).mono ?_; rintro e w3 ⟨a3, c3, rfl, hc3, hr3, s3⟩))
    all_goals
      go_wp2_with fail
      go_ret
      exact ⟨a3, c3, rfl, hc3, by rw [HC.out]; exact hr3, (((Step.refl noF w).alloc _).drew.trans s2).trans s3⟩
end Go.Proofs.YtoobelcphcndoaaGreat
