/-
  Pieces of the law SpaceExact: Take.
-/
import Derived.Test.YtdcomcpinlgpdaaSpExB
namespace Go.Proofs.Ytdcomcpinlgpdaa
open Go.RowKit
set_option linter.unusedVariables false
set_option linter.unusedSimpArgs false

theorem refBest_call (w : World) (v : Value) (l : List Bool) (h : IsRow w v l) (z x y : Int) (b : Bool) (h1 : bestX (bestL l z) z = (x, y)) (h2 : (bestL l z).isSome = b) :
    Calls Try.prog 10 #[v, .int .i64 z] w fun e w' => e = .returned (.tuple #[.agg #[.int .i64 x, .int .i64 y], .bool b]) ∧ Step noF w w' := by
  subst h2
  have := refBest_any w v l h z
  rw [h1] at this
  exact this
theorem refSet_call (w : World) (rv : Value) (l : List Bool) (h : IsRow w rv l) (b : Bool) (a : Option Addr) (c n : Nat) (xs : List (Int × Int)) (hn : xs.length = n) (hx : ExtAt w a xs) (hb : ∀ x ∈ xs, x.1 ≤ 9223372036854775807) (hxl : xs.length ≤ 9223372036854775807) (e0 : Int) (l' : List Bool) (h1 : setE b l xs = e0) (h2 : setL b l xs = l') :
    Calls Try.prog 11 #[rv, .slice a n c, .bool b] w fun e w' => ∃ v', e = .returned (.tuple #[v', .int .i64 e0]) ∧ IsRow w' v' l' ∧ Step noF w w' := by
  subst h1 h2; exact refSet_any w rv l h b a c n xs hn hx hb hxl

set_option maxHeartbeats 4000000 in
set_option maxRecDepth 100000 in
theorem sw_take3_arg (w0 : World) (p n j xb : Nat) (x : ActS) (lv av : Value) (w : World) (hk : x.kind = 3) (hT : TailE w0 p n xb x lv w) (z : Int) (hzx : x.num = z) (hz : z < 1) (hz2 : z ≤ 9223372036854775807)
    (Q : Exit → Act → World → Prop) (a : Act) (ha : KnE ((54, .int .i64 x.kind) :: (8, .pointer (some ⟨xb, 0, none⟩)) :: baseE p n j lv av) a)
    (hcont : ∀ a' w', KnE (baseE p n j lv av) a' → BothE w0 p n lv w' → Q (.exit 1) a' w') :
    Code.wp Try.prog (navE [1, 1, 1, 1, 1, 0, 1, 0, 0, 1, 0, 0, 1, 1, 1, 0, 1, 0] (Try.f3.body.getD .skip)) Q a w := by
  obtain ⟨⟨l, hst, hpw, hsp, hir, hln⟩, hX⟩ := hT
  rw [hk] at ha
  obtain ⟨f, rfl, hf⟩ := ha.open
  have h0 : f 0 = .int .i64 n := hf (0, _) (by simp [baseE])
  have h1 : f 1 = av := hf (1, _) (by simp [baseE])
  have h5 : f 5 = .pointer (some ⟨p, 0, none⟩) := hf (5, _) (by simp [baseE])
  have h6 : f 6 = lv := hf (6, _) (by simp [baseE])
  have h7 : f 7 = .int .i64 j := hf (7, _) (by simp [baseE])
  have h8 : f 8 = .pointer (some ⟨xb, 0, none⟩) := hf (8, _) (by simp [baseE])
  have h54 : f 54 = .int .i64 3 := hf (54, _) (by simp [baseE])
  simp only [frE, h0, h1, h5, h6, h7, h8, h54]
  clear hf ha h0 h1 h5 h6 h7 h8 h54
  conv => arg 2; whnf
  have HC := hid hcont
  clear hcont
  have HXE := hid hX
  obtain ⟨x0, x1, x2⟩ := hX.cells
  rw [hzx] at x1
  have htk := take_call w p l hsp z hz2 0 0 1 l (by rw [takeX, if_pos hz]) (by rw [takeE, if_pos hz]) (by rw [takeL, if_pos hz])
  obtain ⟨u, v, huv⟩ : ∃ u v, bestX (bestL l z) z = (u, v) := ⟨_, _, rfl⟩
  obtain ⟨bs, hbs⟩ : ∃ bs, (bestL l z).isSome = bs := ⟨_, rfl⟩
  have HU := hid huv
  have HBs := hid hbs
  clear huv hbs hX
  go_wp2_with fail
  refine htk.mono ?_
  rintro e w1 ⟨rfl, s1, h1⟩
  have hi1 := hir.beside hsp s1
  have y1 := cell_alloc ((HXE.out.beside hsp s1).cells.2.1) (.cells #[.int .i64 0, .int .i64 0] 31)
  rw [hzx] at y1
  go_wp2_with fail
  refine (refBest_call _ lv l (by exact hi1.step ((Step.refl _ _).alloc _)) z u v bs HU.out HBs.out).mono ?_
  rintro e w2 ⟨rfl, s2⟩
  have z1 := cell_alloc (s2.after y1) (.cells #[.int .i64 u, .int .i64 v] 31)
  have hb := (s2.block w1.heap.size (by simp) (fun x => x)).trans (block_alloc_new w1 (.cells #[.int .i64 0, .int .i64 0] 31))
  obtain ⟨q0, q1, _, _⟩ := ext_cells (block_alloc_old hb (.cells #[.int .i64 u, .int .i64 v] 31))
  have S2 := ((Step.refl noF w1).alloc (.cells #[.int .i64 0, .int .i64 0] 31)).trans s2
  clear hb
  go_wp2_with fail
  refine HC.out _ _ ?_ ?_
  · skip
    refine ⟨rfl, rfl, ?_⟩
    intro y hy
    simp only [baseE, List.mem_cons, List.not_mem_nil, or_false] at hy
    rcases hy with rfl | rfl | rfl | rfl | rfl <;> rfl
  · have S3 := S2.alloc (.cells #[.int .i64 u, .int .i64 v] 31)
    exact ⟨l, (hst.then s1 (fun i hi => .inr (by unfold oneF at hi; omega))).trans S3, hpw, h1.step S3, hi1.step S3, hln⟩

set_option maxHeartbeats 4000000 in
set_option maxRecDepth 100000 in
theorem sw_take3_none (w0 : World) (p n j xb : Nat) (x : ActS) (lv av : Value) (w : World) (hk : x.kind = 3) (l : List Bool) (hst : Step noF w0 w) (hpw : w0.heap.size ≤ p) (hsp : IsSp w p l) (hir : IsRow w lv l) (hln : l.length = n) (hX : XE w xb x) (z : Int) (hzx : x.num = z) (hz : 1 ≤ z) (hz2 : z ≤ 9223372036854775807) (hbl : bestL l z = none)
    (Q : Exit → Act → World → Prop) (a : Act) (ha : KnE ((54, .int .i64 x.kind) :: (8, .pointer (some ⟨xb, 0, none⟩)) :: baseE p n j lv av) a)
    (hend : ∀ a' w' lv', KnE ((8, .pointer (some ⟨xb, 0, none⟩)) :: baseE p n j lv' av) a' → TailE w0 p n xb x lv' w' → Q .normal a' w') :
    Code.wp Try.prog (navE [1, 1, 1, 1, 1, 0, 1, 0, 0, 1, 0, 0, 1, 1, 1, 0, 1, 0] (Try.f3.body.getD .skip)) Q a w := by
  rw [hk] at ha
  obtain ⟨f, rfl, hf⟩ := ha.open
  have h0 : f 0 = .int .i64 n := hf (0, _) (by simp [baseE])
  have h1 : f 1 = av := hf (1, _) (by simp [baseE])
  have h5 : f 5 = .pointer (some ⟨p, 0, none⟩) := hf (5, _) (by simp [baseE])
  have h6 : f 6 = lv := hf (6, _) (by simp [baseE])
  have h7 : f 7 = .int .i64 j := hf (7, _) (by simp [baseE])
  have h8 : f 8 = .pointer (some ⟨xb, 0, none⟩) := hf (8, _) (by simp [baseE])
  have h54 : f 54 = .int .i64 3 := hf (54, _) (by simp [baseE])
  simp only [frE, h0, h1, h5, h6, h7, h8, h54]
  clear hf ha h0 h1 h5 h6 h7 h8 h54
  conv => arg 2; whnf
  have HE := hid hend
  clear hend
  have HXE := hid hX
  obtain ⟨x0, x1, x2⟩ := hX.cells
  rw [hzx] at x1
  have hz1 : ¬ z < 1 := by omega
  have htk := take_call w p l hsp z hz2 0 0 9 l (by rw [takeX, if_neg hz1, hbl]) (by rw [takeE, if_neg hz1, hbl]; rfl) (by rw [takeL, if_neg hz1, hbl])
  have HU : Hid (bestX (bestL l z) z = (0, 0)) := by show _ = _; rw [hbl]; rfl
  have HBs : Hid ((bestL l z).isSome = false) := by show _ = _; rw [hbl]; rfl
  clear hX hbl
  go_wp2_with fail
  refine htk.mono ?_
  rintro e w1 ⟨rfl, s1, h1⟩
  have hi1 := hir.beside hsp s1
  have hX1 := HXE.out.beside hsp s1
  have y1 := cell_alloc (hX1.cells.2.1) (.cells #[.int .i64 0, .int .i64 0] 31)
  rw [hzx] at y1
  have HX1 := hid hX1
  clear hX1
  go_wp2_with fail
  refine (refBest_call _ lv l (by exact hi1.step ((Step.refl _ _).alloc _)) z 0 0 false HU.out HBs.out).mono ?_
  rintro e w2 ⟨rfl, s2⟩
  have z1 := cell_alloc (s2.after y1) (.cells #[.int .i64 0, .int .i64 0] 31)
  have hb := (s2.block w1.heap.size (by simp) (fun x => x)).trans (block_alloc_new w1 (.cells #[.int .i64 0, .int .i64 0] 31))
  obtain ⟨q0, q1, _, _⟩ := ext_cells (block_alloc_old hb (.cells #[.int .i64 0, .int .i64 0] 31))
  have S2 := ((Step.refl noF w1).alloc (.cells #[.int .i64 0, .int .i64 0] 31)).trans s2
  clear hb
  go_wp2_with fail
  refine HE.out _ _ lv ?_ ?_
  · skip
    refine ⟨rfl, rfl, ?_⟩
    intro y hy
    simp only [baseE, List.mem_cons, List.not_mem_nil, or_false] at hy
    rcases hy with rfl | rfl | rfl | rfl | rfl | rfl <;> rfl
  · have S3 := S2.alloc (.cells #[.int .i64 0, .int .i64 0] 31)
    exact ⟨⟨l, (hst.then s1 (fun i hi => .inr (by unfold oneF at hi; omega))).trans S3, hpw, h1.step S3, hi1.step S3, hln⟩, HX1.out.step S3⟩

set_option maxHeartbeats 4000000 in
set_option maxRecDepth 100000 in
theorem sw_take3_some (w0 : World) (p n j xb : Nat) (x : ActS) (lv av : Value) (w : World) (hk : x.kind = 3) (l : List Bool) (hst : Step noF w0 w) (hpw : w0.heap.size ≤ p) (hsp : IsSp w p l) (hir : IsRow w lv l) (hln : l.length = n) (hX : XE w xb x) (z : Int) (hzx : x.num = z) (hz : 1 ≤ z) (hz2 : z ≤ 9223372036854775807) (u v : Int) (hbl : bestL l z = some (u, v))
    (Q : Exit → Act → World → Prop) (a : Act) (ha : KnE ((54, .int .i64 x.kind) :: (8, .pointer (some ⟨xb, 0, none⟩)) :: baseE p n j lv av) a)
    (hend : ∀ a' w' lv', KnE ((8, .pointer (some ⟨xb, 0, none⟩)) :: baseE p n j lv' av) a' → TailE w0 p n xb x lv' w' → Q .normal a' w') :
    Code.wp Try.prog (navE [1, 1, 1, 1, 1, 0, 1, 0, 0, 1, 0, 0, 1, 1, 1, 0, 1, 0] (Try.f3.body.getD .skip)) Q a w := by
  rw [hk] at ha
  obtain ⟨f, rfl, hf⟩ := ha.open
  have h0 : f 0 = .int .i64 n := hf (0, _) (by simp [baseE])
  have h1 : f 1 = av := hf (1, _) (by simp [baseE])
  have h5 : f 5 = .pointer (some ⟨p, 0, none⟩) := hf (5, _) (by simp [baseE])
  have h6 : f 6 = lv := hf (6, _) (by simp [baseE])
  have h7 : f 7 = .int .i64 j := hf (7, _) (by simp [baseE])
  have h8 : f 8 = .pointer (some ⟨xb, 0, none⟩) := hf (8, _) (by simp [baseE])
  have h54 : f 54 = .int .i64 3 := hf (54, _) (by simp [baseE])
  simp only [frE, h0, h1, h5, h6, h7, h8, h54]
  clear hf ha h0 h1 h5 h6 h7 h8 h54
  conv => arg 2; whnf
  have HE := hid hend
  clear hend
  have HXE := hid hX
  obtain ⟨x0, x1, x2⟩ := hX.cells
  rw [hzx] at x1
  have hz1 : ¬ z < 1 := by omega
  obtain ⟨t1, t2, t3⟩ := best_set hz hbl
  have hu9 : u ≤ 9223372036854775807 := by
    obtain ⟨i1, i2, i3⟩ := inE_iff.1 (best_fits hz hbl).1
    have := hsp.2.1
    simp only at i1 i2 i3
    omega
  have htk := take_call w p l hsp z hz2 u z 0 (setL false l [(u, z)]) (by rw [takeX, if_neg hz1, hbl]) (by rw [takeE, if_neg hz1, hbl]; rfl) (by rw [takeL, if_neg hz1, hbl])
  have HU : Hid (bestX (bestL l z) z = (u, z)) := by show _ = _; rw [hbl]; rfl
  have HBs : Hid ((bestL l z).isSome = true) := by show _ = _; rw [hbl]; rfl
  have HS0 : Hid (setE false l [(u, z)] = 0) := t1
  clear hX hbl t1 t2 t3
  go_wp2_with fail
  refine htk.mono ?_
  rintro e w1 ⟨rfl, s1, h1⟩
  have hi1 := hir.beside hsp s1
  have hX1 := HXE.out.beside hsp s1
  have y1 := cell_alloc (hX1.cells.2.1) (.cells #[.int .i64 u, .int .i64 z] 31)
  rw [hzx] at y1
  have HX1 := hid hX1
  clear hX1
  go_wp2_with fail
  refine (refBest_call _ lv l (by exact hi1.step ((Step.refl _ _).alloc _)) z u z true HU.out HBs.out).mono ?_
  rintro e w2 ⟨rfl, s2⟩
  have z1 := cell_alloc (s2.after y1) (.cells #[.int .i64 u, .int .i64 z] 31)
  have hb := (s2.block w1.heap.size (by simp) (fun x => x)).trans (block_alloc_new w1 (.cells #[.int .i64 u, .int .i64 z] 31))
  obtain ⟨q0, q1, _, _⟩ := ext_cells (block_alloc_old hb (.cells #[.int .i64 u, .int .i64 z] 31))
  have S2 := ((Step.refl noF w1).alloc (.cells #[.int .i64 u, .int .i64 z] 31)).trans s2
  have S4 := (S2.alloc (.cells #[.int .i64 u, .int .i64 z] 31)).alloc (.cells #[.int .i64 u, .int .i64 z] 31)
  clear hb
  go_wp2_with fail
  refine (refSet_call _ lv l (by exact hi1.step S4) false _ 1 1 [(u, z)] rfl (by exact extAt_one _ u z _ _ (by simp)) (small1 _ hu9) (by simp) 0 (setL false l [(u, z)]) HS0.out rfl).mono ?_
  rintro e w5 ⟨v5, rfl, hr5, s5⟩
  have S5 := S4.trans s5
  go_wp2_with fail
  refine HE.out _ _ v5 ?_ ?_
  · skip
    refine ⟨rfl, rfl, ?_⟩
    intro y hy
    simp only [baseE, List.mem_cons, List.not_mem_nil, or_false] at hy
    rcases hy with rfl | rfl | rfl | rfl | rfl | rfl <;> rfl
  · exact ⟨⟨_, (hst.then s1 (fun i hi => .inr (by unfold oneF at hi; omega))).trans S5, hpw, h1.step S5, hr5, set_len_n hln⟩, HX1.out.step S5⟩
end Go.Proofs.Ytdcomcpinlgpdaa
