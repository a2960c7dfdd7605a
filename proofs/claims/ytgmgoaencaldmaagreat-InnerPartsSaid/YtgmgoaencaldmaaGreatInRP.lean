/-
  The reference of layer 11: Parts.
  The reference of layer 11: Parts, walked.
  The reference of layer 11: Join.
-/
import Derived.Test.YtgmgoaencaldmaaGreatInRE
import Derived.Deep.CutRange
import Derived.Deep.LoopGhost
namespace Go.Proofs.YtgmgoaencaldmaaGreat
open Go.RowKit Go.Sort
set_option linter.unusedVariables false
set_option linter.unusedSimpArgs false
set_option maxRecDepth 20000

def trips (xs : List (Value × Value × Value)) : List Value := xs.flatMap fun x => [x.1, x.2.1, x.2.2]
theorem trips_len (xs : List (Value × Value × Value)) : (trips xs).length = xs.length * 3 := by
  induction xs with
  | nil => rfl
  | cons x xs ih => simp only [trips, List.flatMap_cons, List.length_append, List.length_cons, List.length_nil] at ih ⊢; omega
theorem trips_app (xs ys : List (Value × Value × Value)) : trips (xs ++ ys) = trips xs ++ trips ys := by simp [trips]
theorem trips_get (xs : List (Value × Value × Value)) : ∀ j (hj : j < xs.length), (trips xs)[j * 3]? = some xs[j].1 ∧ (trips xs)[j * 3 + 1]? = some xs[j].2.1 ∧ (trips xs)[j * 3 + 2]? = some xs[j].2.2 := by
  induction xs with
  | nil => intro j hj; exact absurd hj (Nat.not_lt_zero _)
  | cons x xs ih =>
    intro j hj
    have e : trips (x :: xs) = x.1 :: x.2.1 :: x.2.2 :: trips xs := rfl
    cases j with
    | zero => rw [e]; exact ⟨rfl, rfl, rfl⟩
    | succ t =>
      obtain ⟨h1, h2, h3⟩ := ih t (by simpa using hj)
      have e0 : (t + 1) * 3 = t * 3 + 1 + 1 + 1 := by omega
      rw [e, e0]
      exact ⟨by simpa using h1, by simpa [Nat.add_right_comm] using h2, by simpa [Nat.add_right_comm] using h3⟩
/-- A row of nodes of one's own. -/
def OwnN (w : World) (base : Nat) (v : Value) (xs : List (Value × Value × Value)) : Prop := w.ownsRow base 34 3 v xs.length (trips xs)
/-- A part: its kids and pivots lie in old memory, its messages are one's own. -/
def NdP (W2 w : World) (B : Nat) (d : Nd) (p : Value × Value × Value) : Prop := ∃ (ka pa : Option Addr) (kc pc : Nat), p.1 = .slice ka d.kids.length kc ∧ p.2.1 = .slice pa d.pivs.length pc ∧ (RowAt W2 noF ka (intsOf d.kids) ∧ (ka = none → kc = 0) ∧ d.kids.length ≤ kc) ∧ (RowAt W2 noF pa (texts d.pivs) ∧ (pa = none → pc = 0) ∧ d.pivs.length ≤ pc) ∧ OwnB w B p.2.2 d.ms
theorem NdP.nd {W2 w : World} {B : Nat} {d : Nd} {p : Value × Value × Value} (h : NdP W2 w B d p) (hs : Step noF W2 w) : NdV w d (.agg #[p.1, p.2.1, p.2.2]) := by
  obtain ⟨ka, pa, kc, pc, h1, h2, ⟨k1, k2, k3⟩, ⟨p1, p2, p3⟩, hm⟩ := h
  obtain ⟨a, c, h3, hc, hm⟩ := OwnB.msv hm
  rw [h1, h2, h3]
  exact ⟨ka, pa, a, kc, pc, c, rfl, ⟨rowAt_step k1 hs (fun _ _ h => h), k2, k3⟩, ⟨rowAt_step p1 hs (fun _ _ h => h), p2, p3⟩, hm, hc⟩
theorem NdP.by {W2 w w' : World} {B : Nat} {d : Nd} {p : Value × Value × Value} (h : NdP W2 w B d p) (hk : ∀ v xs, OwnB w B v xs → OwnB w' B v xs) : NdP W2 w' B d p := by
  obtain ⟨ka, pa, kc, pc, h1, h2, k, p, hm⟩ := h
  exact ⟨ka, pa, kc, pc, h1, h2, k, p, hk _ _ hm⟩
/-- The parts so far. -/
def PtsSo (W2 w : World) (B : Nat) (f : Nat → Nd) (j : Nat) (v : Value) : Prop := ∃ xs : List (Value × Value × Value), xs.length = j ∧ OwnN w B v xs ∧ ∀ t (h : t < xs.length), NdP W2 w B (f t) xs[t]
theorem PtsSo.step {W2 w w' : World} {B : Nat} {f : Nat → Nd} {j : Nat} {v : Value} (h : PtsSo W2 w B f j v) (hs : Step noF w w') : PtsSo W2 w' B f j v := by
  obtain ⟨xs, h1, h2, h3⟩ := h
  exact ⟨xs, h1, owns_step h2 hs (fun _ _ x => x), fun t ht => (h3 t ht).by fun _ _ h => OwnB.step h hs⟩
theorem PtsSo.apart {W2 w w' : World} {B base n : Nat} {f : Nat → Nd} {j : Nat} {v v2 : Value} {ys : List Value} (h : PtsSo W2 w B f j v) (hi : w.ownsRow base 9 1 v2 n ys) (hg : w.grownBy w' v2.ownBlock) : PtsSo W2 w' B f j v := by
  obtain ⟨xs, h1, h2, h3⟩ := h
  exact ⟨xs, h1, own_apart h2 hi (by decide) hg, fun t ht => (h3 t ht).by fun _ _ h => own_apart h hi (by decide) hg⟩
theorem PtsSo.keep {W2 w w' : World} {B r : Nat} {f : Nat → Nd} {j : Nat} {v : Value} {A : Array Value} {z : Nat × Nat} (h : PtsSo W2 w B f j v) (hb : w.heap[r]? = some (.cells A 42 z)) (hs : Step (fun k => k = r) w w') : PtsSo W2 w' B f j v := by
  obtain ⟨xs, h1, h2, h3⟩ := h
  exact ⟨xs, h1, own_keep h2 hb (by decide) hs, fun t ht => (h3 t ht).by fun _ _ h => own_keep h hb (by decide) hs⟩
/-- Behind an append of one part. -/
theorem PtsSo.next {W2 w w' : World} {B : Nat} {f : Nat → Nd} {j : Nat} {v v' : Value} {p : Value × Value × Value} {xs : List (Value × Value × Value)} (hl : xs.length = j) (ho : OwnN w B v xs) (h : ∀ t (h : t < xs.length), NdP W2 w B (f t) xs[t]) (hp : NdP W2 w B (f j) p) (ho' : OwnN w' B v' (xs ++ [p])) (hg : w.grownBy w' v.ownBlock) : PtsSo W2 w' B f (j + 1) v' := by
  refine ⟨xs ++ [p], by rw [List.length_append, hl]; rfl, ho', fun t ht => ?_⟩
  have hk : ∀ u ys, OwnB w B u ys → OwnB w' B u ys := fun u ys hu => own_apart hu ho (by decide) hg
  by_cases h2 : t < xs.length
  · rw [List.getElem_append_left h2]
    exact (h t h2).by hk
  · have e : t = j := by simp at ht; omega
    subst e
    rw [List.getElem_append_right (by omega)]
    simp only [hl, Nat.sub_self, List.getElem_cons_zero]
    exact hp.by hk
/-- A row of nodes, as a caller has it. -/
def NdsR (w : World) (ds : List Nd) (x : Value) : Prop := ∃ g c : Nat, x = .slice (some ⟨g, 0, none⟩) ds.length c ∧ ∀ t (ht : t < ds.length), ∃ p q r, w.cell? ⟨g, t * 3, none⟩ = some p ∧ w.cell? ⟨g, t * 3 + 1, none⟩ = some q ∧ w.cell? ⟨g, t * 3 + 2, none⟩ = some r ∧ NdV w ds[t] (.agg #[p, q, r])
theorem NdsR.step {w w' : World} {ds : List Nd} {x : Value} (h : NdsR w ds x) (hs : Step noF w w') : NdsR w' ds x := by
  obtain ⟨g, c, h1, h2⟩ := h
  refine ⟨g, c, h1, fun t ht => ?_⟩
  obtain ⟨p, q, r, c0, c1, c2, hn⟩ := h2 t ht
  exact ⟨p, q, r, hs.after c0, hs.after c1, hs.after c2, hn.step hs⟩
theorem PtsSo.row {W2 w : World} {B : Nat} {f : Nat → Nd} {j : Nat} {v : Value} (h : PtsSo W2 w B f j v) (hj : 0 < j) (hs : Step noF W2 w) : NdsR w ((List.range j).map f) v := by
  obtain ⟨xs, h1, h2, h3⟩ := h
  rcases h2.2 with ⟨_, e⟩ | ⟨g, cap, cur, rfl, hb, hgg, h4, h5, h6, h7⟩
  · omega
  · refine ⟨g, cap, by rw [List.length_map, List.length_range, h1], fun t ht => ?_⟩
    have ht2 : t < xs.length := by simp at ht; omega
    have hc : ∀ i u, i < xs.length * 3 → (trips xs)[i]? = some u → w.cell? ⟨g, i, none⟩ = some u := fun i u hi hu => by
      rw [cell_of_block hgg, ← hu, ← h7, List.getElem?_take_of_lt hi]
      simp
    obtain ⟨e0, e1, e2⟩ := trips_get xs t ht2
    refine ⟨_, _, _, hc _ _ (by omega) e0, hc _ _ (by omega) e1, hc _ _ (by omega) e2, ?_⟩
    have := (h3 t ht2).nd hs
    simpa using this
theorem info_ndA0 : (Tryz.prog.info? 34).map (fun i => (i.zero, i.size, i.bytes)) = some (some (.agg #[.slice none 0 0, .slice none 0 0, .slice none 0 0]), 3, 72) := by kernel_rfl
theorem info_ndA : ∃ i, Tryz.prog.info? 34 = some i ∧ i.zero = some (.agg #[.slice none 0 0, .slice none 0 0, .slice none 0 0]) ∧ i.size = 3 ∧ i.bytes = 72 := info_threeL info_ndA0
theorem ownN_empty (w : World) : OwnN (w.alloc (.cells #[] 34)) w.heap.size (.slice (some ⟨w.heap.size, 0, none⟩) 0 0) [] :=
  ⟨rfl, .inr ⟨w.heap.size, 0, #[], rfl, Nat.le_refl _, block_alloc_new w _, Nat.le_refl _, Nat.zero_le _, rfl, rfl⟩⟩
theorem nd_cells (w : World) (x y z : Value) : ∀ j u, (trips [(x, y, z)])[j]? = some u → (w.alloc (.cells #[x, y, z] 34)).cell? ((⟨w.heap.size, 0, none⟩ : Addr).add j) = some u := by
  intro j u h
  have e : trips [(x, y, z)] = [x, y, z] := rfl
  rw [e] at h
  have := cell_of_block (box_new w x y z) j
  by_cases hj : j = 0
  · subst hj
    simp only [Addr.add]
    exact this.trans (by simpa using h)
  · simp only [Addr.add, Nat.zero_add, if_neg hj]
    exact this.trans (by simpa using h)
/-- append of one node. -/
theorem step_append_N {ops : Array Oper} {o : Oper} {a : Act} {w : World} {K : Act → World → Prop} {Q : Exit → Act → World → Prop} {E : Prop}
    (hg : o.guard = none) (s x : Operand) (hop : o.op = Op.call { callee := Callee.builtin Builtin.append, args := #[s, x], argTypes := #[64, 64] })
    (base : Nat) (v : Value) (xs : List (Value × Value × Value)) (hs : a.eval s = v) (hown : OwnN w base v xs) (g : Nat) (p : Value × Value × Value) (hx : a.eval x = .slice (some ⟨g, 0, none⟩) 1 1)
    (hc : ∀ j u, (trips [p])[j]? = some u → w.cell? ((⟨g, 0, none⟩ : Addr).add j) = some u) (h1 : ∀ u ∈ trips [p], u.oneCell' = true) (hl : xs.length + 1 ≤ 1000000) (hbase : base ≤ w.heap.size)
    (hK : ∀ v' w', OwnN w' base v' (xs ++ [p]) → w.grownBy w' v.ownBlock → K (a.put o.dst v') w') :
    if Region.wanted o (yielded ops a.tmps) = true then Oper.wp Tryz.prog o a w K Q else E := by
  obtain ⟨i0, hi, hz0, hz1, hz2⟩ := info_ndA
  refine step_append_own hg s x 64 hop 34 i0 _ 3 72 Tryz.underlying64 hi hz0 hz1 hz2 rfl (by decide) v _ _ hs (owns_base hown (Nat.zero_le _)) ⟨g, 0, none⟩ 1 1 (trips [p]) hx (by rw [trips_len]; rfl) hc h1 (le_max (by omega)) (by omega) ?_
  intro v' w' h2 h3 h4
  refine hK v' w' ?_ h3
  unfold OwnN
  rw [List.length_append, trips_app]
  refine owns_upN h2 (fun k hk => ?_)
  rcases h4 with h4 | h4
  · rw [h4] at hk
    exact (hown.lt k hk).1
  · exact Nat.le_trans hbase (h4 k hk)

/-- The pivots between the first parts. -/
def betw (d : Nd) (c j : Nat) : List (List UInt8) := (List.range (j - 1)).map (fun i => d.pivs.getD (cutAt d.kids.length c (i + 1) - 1) [])
theorem betw_zero (d : Nd) (c : Nat) : betw d c 0 = [] := rfl
theorem betw_one (d : Nd) (c : Nat) : betw d c 1 = [] := rfl
theorem betw_next (d : Nd) (c j : Nat) (hj : 0 < j) : betw d c (j + 1) = betw d c j ++ [d.pivs.getD (cutAt d.kids.length c j - 1) []] := by
  obtain ⟨t, rfl⟩ : ∃ t, j = t + 1 := ⟨j - 1, by omega⟩
  simp [betw, List.range_succ]
theorem betw_len (d : Nd) (c j : Nat) : (betw d c j).length = j - 1 := by simp [betw]
end Go.Proofs.YtgmgoaencaldmaaGreat
namespace Go.Proofs.YtgmgoaencaldmaaGreat
open Go.RowKit Go.Sort
set_option linter.unusedVariables false
set_option linter.unusedSimpArgs false
set_option maxRecDepth 20000

theorem trips_one (a1 a2 a3 : Option Addr) (n1 n2 n3 c1 c2 c3 : Nat) : ∀ u ∈ trips [(.slice a1 n1 c1, .slice a2 n2 c2, .slice a3 n3 c3)], u.oneCell' = true := by
  intro u hu
  have e : trips [((.slice a1 n1 c1 : Value), (.slice a2 n2 c2 : Value), (.slice a3 n3 c3 : Value))] = [.slice a1 n1 c1, .slice a2 n2 c2, .slice a3 n3 c3] := rfl
  rw [e] at hu
  simp only [List.mem_cons, List.not_mem_nil, or_false] at hu
  rcases hu with rfl | rfl | rfl <;> rfl

set_option maxHeartbeats 8000000 in
theorem refPartsN_any (d : Nd) (hd : NdOk d) (v : Value) (w : World) (h : NdV w d v) :
    Calls Tryz.prog 27 #[v] w fun e w' => ∃ x y, e = .returned (.tuple #[x, y]) ∧ NdsR w' (partsN d) x ∧ TxV w' (betweenN d).length (betweenN d) y ∧ Step noF w w' := by
  have hlen := hd.len
  have hk1 := hd.2.2.2.1
  have hml := hd.2.2.2.2
  have h0 := nil_str
  have hnd := h
  obtain ⟨ka, pa, a, kc, pc, c, rfl, ⟨hk, hkc, hkn⟩, ⟨hp, hpc, hpn⟩, hm, hmc⟩ := h
  obtain ⟨C, hC⟩ : ∃ C, countN d.kids.length = C := ⟨_, rfl⟩
  have hCd : (d.kids.length + 5) / 6 = C := hC
  obtain ⟨n, hn⟩ : ∃ n, d.kids.length = n := ⟨_, rfl⟩
  obtain ⟨pn, hpn2⟩ : ∃ n, d.pivs.length = n := ⟨_, rfl⟩
  rw [hn] at hC hCd hk1 hlen hkn
  rw [hpn2] at hlen hpn
  have w3 : IntKind.i64.wrap ((n : Int) + 5) = (n : Int) + 5 := by rw [IntKind.wrap_i64]; omega
  have q2 : ((n : Int) + 5).tdiv 6 = (C : Int) := by rw [Int.tdiv_eq_ediv_of_nonneg (by omega)]; omega
  have wC : IntKind.i64.wrap (C : Int) = (C : Int) := by rw [IntKind.wrap_i64]; omega
  have B0 := box_new w (.slice ka n kc) (.slice pa pn pc) (.slice a d.ms.length c)
  have S0 := (Step.refl noF w).alloc (.cells #[.slice ka n kc, .slice pa pn pc, .slice a d.ms.length c] 34)
  obtain ⟨W2, hW2⟩ : ∃ W2, w.alloc (.cells #[.slice ka n kc, .slice pa pn pc, .slice a d.ms.length c] 34) = W2 := ⟨_, rfl⟩
  rw [hW2] at B0 S0
  rw [hn, hpn2]
  have BN := hid B0
  have SW2 := hid S0
  obtain ⟨x0, x1, x2, _, _, _⟩ := B0.all
  have HND := hid hnd
  have HN := hid hn
  have HPN := hid hpn2
  by_cases hc2 : C < 2
  · have HP1 : Hid (partsN d = [d]) := by show _ = _; unfold partsN; rw [hn, hC, if_pos hc2]
    have HB1 : Hid (betweenN d = []) := by show _ = _; unfold betweenN; rw [hn, hC, if_pos hc2]
    have hcz : (C : Int) < 2 := by omega
    have HNW := hid (HND.out.step S0)
    clear hnd hk hkc hkn hp hpc hpn hm hmc B0 S0 hn hpn2 hC hCd
    go_enter Tryz.func27, Tryz.ntmps27
    go_wp2_with fail
    go_ret2
    refine ⟨_, _, rfl, ?_, ⟨_, 0, by rw [HB1.out]; rfl, by rw [HB1.out]; exact .inl rfl⟩, (SW2.out.alloc _).alloc _⟩
    rw [HP1.out]
    obtain ⟨y0, y1, y2, _, _, _⟩ := ((box_new W2 (.slice ka n kc) (.slice pa pn pc) (.slice a d.ms.length c)).alloc (.cells #[] 9)).all
    refine ⟨W2.heap.size, 1, rfl, fun t ht => ?_⟩
    obtain rfl : t = 0 := by simp at ht; omega
    exact ⟨_, _, _, y0, y1, y2, by have := NdV.step HNW.out (((Step.refl noF W2).alloc (.cells #[.slice ka n kc, .slice pa pn pc, .slice a d.ms.length c] 34)).alloc (.cells #[] 9)); simpa [HN.out, HPN.out] using this⟩
  · have hcz : ¬ (C : Int) < 2 := by omega
    have hn7 : 7 ≤ n := by omega
    have hCn : C ≤ n := by omega
    have hCp : 0 < C := by omega
    obtain ⟨g, off, rfl, gg1⟩ := ints_get hk 0 (by rw [hn]; omega)
    obtain ⟨g2, off2, rfl, gg2⟩ := texts_get hp 0 (by rw [hpn2]; omega)
    clear gg1 gg2
    obtain ⟨s, hs⟩ : ∃ s, n / C = s := ⟨_, rfl⟩
    obtain ⟨m, hm2⟩ : ∃ m, n % C = m := ⟨_, rfl⟩
    have hs2 : 2 ≤ s := by rw [← hs]; exact (Nat.le_div_iff_mul_le hCp).2 (by omega)
    have hsn : s ≤ n := by rw [← hs]; exact Nat.div_le_self _ _
    have hmC : m < C := by rw [← hm2]; exact Nat.mod_lt _ hCp
    have HCS := hid (fun j => cutAt_succ n C j)
    rw [hs, hm2] at HCS
    have HCL := hid (fun j (h : j ≤ C) => cutAt_le n C hCp h)
    have d1 : (n : Int).tdiv (C : Int) = (s : Int) := by rw [Int.tdiv_eq_ediv_of_nonneg (by omega), ← hs]; rfl
    have d2 : (n : Int).tmod (C : Int) = (m : Int) := by rw [Int.tmod_eq_emod_of_nonneg (by omega), ← hm2]; rfl
    have c0 : ¬ (C : Int) = 0 := by omega
    have c1 : ((C : Int) == 0) = false := by rw [beq_eq_false_iff_ne]; exact c0
    have ws : IntKind.i64.wrap (s : Int) = (s : Int) := by rw [IntKind.wrap_i64]; omega
    have wm1 : IntKind.i64.wrap (m : Int) = (m : Int) := by rw [IntKind.wrap_i64]; omega
    have HK := hid (rowAt_step hk S0 (fun _ _ h => h))
    have HP := hid (rowAt_step hp S0 (fun _ _ h => h))
    have HM := hid (hm.stepB S0)
    have HMC := hid hmc
    have HP1 : Hid (partsN d = (List.range C).map (partN d C)) := by show _ = _; unfold partsN; rw [hn, hC, if_neg hc2]
    have HB1 : Hid (betweenN d = betw d C C) := by show _ = _; unfold betweenN betw; rw [hn, hC, if_neg hc2]
    have HBL := hid (fun j => betw_len d C j)
    have HBN := hid (fun j hj => betw_next d C j hj)
    rw [hn] at HBN
    have O0 := ownN_empty W2
    have T0 := ownT_empty (W2.alloc (.cells #[] 34))
    rw [World.size_alloc] at T0
    have HO0 : Hid (PtsSo W2 ((W2.alloc (.cells #[] 34)).alloc (.cells #[] 9)) W2.heap.size (partN d C) 0 (.slice (some ⟨W2.heap.size, 0, none⟩) 0 0)) :=
      PtsSo.step ⟨[], rfl, O0, fun t ht => absurd ht (Nat.not_lt_zero _)⟩ ((Step.refl noF _).alloc _)
    have HT0 := hid (OwnT.weak T0 (Nat.le_succ _))
    have HS0 := hid (((Step.refl noF W2).alloc (.cells #[] 34)).alloc (.cells #[] 9))
    have hkn' : n ≤ kc := hkn
    have hpn' : pn ≤ pc := hpn
    clear hnd hk hkc hkn hp hpc hpn hm hmc B0 S0 hn hpn2 hC hCd hs hm2 O0 T0 HND x0 x1 x2
    obtain ⟨x0, x1, x2, _, _, _⟩ := BN.out.all
    go_enter Tryz.func27, Tryz.ntmps27
    go_wp2_with fail
    clear hW2 x0 x1 x2
    go_loopg [5, 6, 7, 8] C (fun kx s5 s6 s7 s8 wr => ∃ j : Nat, s8 = .int .i64 j ∧ s7 = .int .i64 (cutAt n C j : Nat) ∧ j ≤ C ∧ C - j ≤ kx ∧ Hid (PtsSo W2 wr W2.heap.size (partN d C) j s5) ∧ Hid (OwnT wr W2.heap.size s6 (betw d C j)) ∧ Hid (Step noF W2 wr))
    case atStart => exact ⟨0, rfl, by simp [cutAt], Nat.zero_le _, by omega, HO0.out, (by show OwnT _ _ _ _; rw [betw_zero]; exact HT0.out), HS0.out⟩
    case round =>
      obtain ⟨j, rfl, rfl, hjn, hkx, HO, HT, SW⟩ := hrel
      by_cases hjl : j < C
      · have hjz : (j : Int) < (C : Int) := by omega
        have wj : IntKind.i64.wrap ((j : Int) + 1) = (j : Int) + 1 := by rw [IntKind.wrap_i64]; omega
        have hT1 := HCS.out j
        have hT2 := HCL.out (j + 1) hjl
        obtain ⟨F, hF⟩ : ∃ F, cutAt n C j = F := ⟨_, rfl⟩
        obtain ⟨T, hT⟩ : ∃ T, cutAt n C (j + 1) = T := ⟨_, rfl⟩
        rw [hF, hT] at hT1
        rw [hT] at hT2
        have HF := hid hF
        have HTT := hid hT
        rw [hF]
        have wF : IntKind.i64.wrap ((F : Int) + (s : Int)) = (F : Int) + (s : Int) := by rw [IntKind.wrap_i64]; split at hT1 <;> omega
        obtain ⟨x0, x1, x2, _, _, _⟩ := (BoxAt.step BN.out SW.out).all
        go_upto_if 41 with fail
        go_cut [5, 6, 9] from 23 to 90 (fun s5 s6 s9 wx => ∃ V5 V6, V5 = s5 ∧ V6 = s6 ∧ s9 = .int .i64 (T : Nat) ∧ Hid (PtsSo W2 wx W2.heap.size (partN d C) j V5) ∧ Hid (OwnT wx W2.heap.size V6 (betw d C j)) ∧ Hid (Step noF W2 wx))
        case first =>
          by_cases hjm : j < m
          · rw [if_pos hjm] at hT1
            have eT : (F : Int) + (s : Int) + 1 = (T : Int) := by omega
            have wT : IntKind.i64.wrap (T : Int) = (T : Int) := by rw [IntKind.wrap_i64]; omega
            have hjb : decide (j < m) = true := decide_eq_true hjm
            clear hT1
            go_wp2_with fail
            go_meet
            exact ⟨_, _, rfl, rfl, rfl, HO.out, HT.out, SW.out⟩
          · rw [if_neg hjm] at hT1
            have eT : (F : Int) + (s : Int) = (T : Int) := by omega
            have hjb : decide (j < m) = false := decide_eq_false hjm
            clear hT1
            go_wp2_with fail
            go_meet
            exact ⟨_, _, rfl, rfl, by rw [eT], HO.out, HT.out, SW.out⟩
        case rest =>
          obtain ⟨V5, V6, rfl, rfl, rfl, HO, HT, SC⟩ := hcut
          have hFT : F + 1 < T := by split at hT1 <;> omega
          clear hT1 wF x0 x1 x2
          obtain ⟨x0, x1, x2, _, _, _⟩ := (BoxAt.step BN.out SC.out).all
          obtain ⟨LO, hLO⟩ : ∃ x, (if 0 < F then d.pivs.getD (F - 1) [] else []) = x := ⟨_, rfl⟩
          obtain ⟨HI, hHI⟩ : ∃ x, (if T < n then d.pivs.getD (T - 1) [] else []) = x := ⟨_, rfl⟩
          have HHI := hid hHI
          have HLO := hid hLO
          clear hHI hLO
          go_upto_if 46 with fail
          go_cut [5, 6, 10] from 23 to 90 (fun s5 s6 s10 wx => ∃ V5 V6 r, V5 = s5 ∧ V6 = s6 ∧ s10 = .pointer (some ⟨r, 0, none⟩) ∧ Hid (PtsSo W2 wx W2.heap.size (partN d C) j V5) ∧ Hid (OwnT wx W2.heap.size V6 (betw d C (j + 1))) ∧ Hid (PairAt wx r 42 LO []) ∧ Hid (W2.heap.size ≤ r) ∧ Hid (Step noF W2 wx))
          case first =>
            by_cases hj0 : j = 0
            · have hF0 : F = 0 := by rw [← HF.out, hj0]; exact cutAt_zero n C
              subst hj0 hF0
              have hl : LO = [] := by rw [← HLO.out]; rfl
              subst hl
              go_wp2_with fail
              go_meet
              exact ⟨_, _, _, rfl, rfl, rfl, PtsSo.step HO.out ((Step.refl noF _).alloc _), (by show OwnT _ _ _ _; rw [betw_one]; exact OwnT.step HT.out ((Step.refl noF _).alloc _)), pair_new _ _ _ _, SC.out.size, SC.out.alloc _⟩
            · have hF1 : 0 < F := by
                have h1 := cutAt_lt n C hCp hCn 0
                have h2 := cutAt_mono n C (show 0 + 1 ≤ j by omega)
                rw [HF.out] at h2
                omega
              obtain ⟨t, ht⟩ : ∃ t, F - 1 = t := ⟨_, rfl⟩
              have htp : t < d.pivs.length := by rw [HPN.out]; omega
              have hl : LO = d.pivs[t] := by rw [← HLO.out, if_pos hF1, ht]; simp [List.getD, List.getElem?_eq_getElem htp]
              have hbn := HBN.out j (by omega)
              rw [HF.out, ht, show d.pivs.getD t [] = LO by rw [hl]; simp [List.getD, List.getElem?_eq_getElem htp]] at hbn
              obtain ⟨b', off', e', y0⟩ := texts_get (rowAt_step HP.out SC.out (fun _ _ h => h)) t htp
              injection e' with e'
              injection e' with e1 e2 _
              rw [← e1, ← e2, ← hl] at y0
              have gt0 : (0 : Int) < (F : Int) := by omega
              have etm : (F : Int) - 1 = (t : Int) := by omega
              have wtm : IntKind.i64.wrap (t : Int) = (t : Int) := by rw [IntKind.wrap_i64]; omega
              have ltm : (t : Int) < (pn : Int) := by omega
              have HBN2 := hid hbn
              have HBL2 := hid (HBL.out j)
              have x1a := ((Step.refl noF wc).alloc (.cells #[.string (str []), .string (str [])] 42)).after x1
              have y0a := ((Step.refl noF wc).alloc (.cells #[.string (str []), .string (str [])] 42)).after y0
              clear hbn e1 e2 hl
              have st0 := ((Step.refl noF wc).alloc (.cells #[.string (str LO), .string (str [])] 42)).alloc (.cells #[.string (str LO)] 9)
              have HTa := hid (OwnT.step HT.out st0)
              have HOa := hid (PtsSo.step HO.out st0)
              have SWa := hid (SC.out.trans st0)
              have TO := text_one (wc.alloc (.cells #[.string (str LO), .string (str [])] 42)) LO
              rw [World.size_alloc] at TO
              have PA := hid ((pair_new wc 42 LO []).alloc (.cells #[.string (str LO)] 9))
              have HTO := hid TO
              have HSZ := hid SC.out.size
              clear st0 TO
              go_wp2_with (at_builtin; refine wpList_append_T rfl _ _ rfl W2.heap.size _ (betw d C j) rfl HTa.out (some ⟨wc.heap.size + 1, 0, none⟩) 1 [LO] rfl HTO.out (fun e => by cases e) (by rw [HBL2.out]; simp; omega) SWa.out.size ?_)
              intro v1 w1 o1 g1
              have HT1 : Hid (OwnT w1 W2.heap.size v1 (betw d C (j + 1))) := by show OwnT _ _ _ _; rw [HBN2.out]; exact o1
              have HO1 := hid (PtsSo.apart HOa.out HTa.out g1)
              have PA1 : Hid (PairAt w1 wc.heap.size 42 LO []) := block_apart HTa.out PA.out (by decide) g1
              have SW1 := hid (grown1_step SWa.out HTa.out (Nat.le_refl _) g1)
              clear o1 g1 x1a y0a
              go_wp2_with fail
              go_meet
              exact ⟨_, _, _, rfl, rfl, rfl, HO1.out, HT1.out, PA1.out, HSZ.out, SW1.out⟩
          case rest =>
            obtain ⟨V5, V6, r, rfl, rfl, rfl, HO, HT, PA, HRS, SC⟩ := hcut
            clear x0 x1 x2
            obtain ⟨x0, x1, x2, _, _, _⟩ := (BoxAt.step BN.out SC.out).all
            have p0 := PA.out.c0
            have p1 := PA.out.c1
            have f1 := PA.out.f 1
            go_upto_if 63 with fail
            go_cut [5, 6] from 23 to 90 (fun s5 s6 wx => ∃ V5 V6, V5 = s5 ∧ V6 = s6 ∧ Hid (PtsSo W2 wx W2.heap.size (partN d C) j V5) ∧ Hid (OwnT wx W2.heap.size V6 (betw d C (j + 1))) ∧ Hid (PairAt wx r 42 LO HI) ∧ Hid (Step noF W2 wx))
            case first =>
              by_cases hTn : T < n
              · obtain ⟨t, ht⟩ : ∃ t, T - 1 = t := ⟨_, rfl⟩
                have htp : t < d.pivs.length := by rw [HPN.out]; omega
                have hl : HI = d.pivs[t] := by rw [← HHI.out, if_pos hTn, ht]; simp [List.getD, List.getElem?_eq_getElem htp]
                obtain ⟨b', off', e', y0⟩ := texts_get (rowAt_step HP.out SC.out (fun _ _ h => h)) t htp
                injection e' with e'
                injection e' with e1 e2 _
                rw [← e1, ← e2, ← hl] at y0
                have gt0 : (T : Int) < (n : Int) := by omega
                have gtb : decide (T < n) = true := decide_eq_true hTn
                have etm : (T : Int) - 1 = (t : Int) := by omega
                have wtm : IntKind.i64.wrap (t : Int) = (t : Int) := by rw [IntKind.wrap_i64]; omega
                have ltm : (t : Int) < (pn : Int) := by omega
                have sr : Step (fun k => k = r) wc (wc.setCell ⟨r, 1, none⟩ (.string (str HI))) := (Step.refl (fun k => k = r) wc).setCell (p := ⟨r, 1, none⟩) (.inl rfl) (.string (str HI))
                have HO1 := hid (PtsSo.keep HO.out PA.out sr)
                have HT1 : Hid (OwnT (wc.setCell ⟨r, 1, none⟩ (.string (str HI))) W2.heap.size V6 (betw d C (j + 1))) := own_keep HT.out PA.out (by decide) sr
                have PA1 := hid (PA.out.set1 HI)
                have SC1 := hid (SC.out.setCell (p := ⟨r, 1, none⟩) (.inr HRS.out) (.string (str HI)))
                clear e1 e2 hl sr
                go_wp2_with fail
                go_meet
                exact ⟨_, _, rfl, rfl, HO1.out, HT1.out, PA1.out, SC1.out⟩
              · have hl : HI = [] := by rw [← HHI.out, if_neg hTn]
                have gt0 : ¬ (T : Int) < (n : Int) := by omega
                have gtb : decide (T < n) = false := decide_eq_false hTn
                subst hl
                go_wp2_with fail
                go_meet
                exact ⟨_, _, rfl, rfl, HO.out, HT.out, PA.out, SC.out⟩
            case rest =>
              obtain ⟨V5, V6, rfl, rfl, HO, HT, PA, SC⟩ := hcut
              clear x0 x1 x2 p0 p1 f1
              obtain ⟨x0, x1, x2, _, _, _⟩ := (BoxAt.step BN.out SC.out).all
              have p0 := PA.out.c0
              have p1 := PA.out.c1
              obtain ⟨T1, hT1⟩ : ∃ t, T - 1 = t := ⟨_, rfl⟩
              obtain ⟨M, hM⟩ : ∃ M, takeM ⟨LO, HI⟩ d.ms = M := ⟨_, rfl⟩
              have HPJ : Hid (partN d C j = ⟨(d.kids.take T).drop F, (d.pivs.take T1).drop F, M⟩) := by
                show _ = _
                unfold partN partKids partPivs partRg
                rw [HN.out, HF.out, HTT.out, HLO.out, HHI.out, hT1, hM]
              have cT : ∀ w', Step noF wc w' → Calls Tryz.prog 50 #[.slice a d.ms.length c, .agg #[.string (str LO), .string (str HI)], .bool true] w' fun e w'' => ∃ a6 c6, e = .returned (.slice a6 M.length c6) ∧ Hid (OwnB w'' W2.heap.size (.slice a6 M.length c6) M) ∧ Hid (Step noF w' w'') := fun w' hs => by
                refine (refTakeB_any d.ms (by omega) ⟨LO, HI⟩ true a c w' (MsgsAt.stepB HM.out (SC.out.trans hs))).mono ?_
                rintro e w'' ⟨v6, rfl, o6, s6⟩
                rw [pickM_true, hM] at o6
                obtain ⟨a6, c6, rfl, _, _⟩ := OwnB.msv o6
                exact ⟨a6, c6, rfl, OwnB.weak o6 ((SC.out.trans hs).size), s6⟩
              have hl1 : ((d.kids.take T).drop F).length = T - F := by rw [List.length_drop, List.length_take, HN.out]; omega
              have hl2 : ((d.pivs.take T1).drop F).length = T1 - F := by rw [List.length_drop, List.length_take, HPN.out]; omega
              obtain ⟨xs, hxl, hxo, hxn⟩ := HO.out
              have HXO := hid hxo
              have HXL := hid hxl
              have HR1 := hid (show RowAt W2 noF (some ⟨g, off + F, none⟩) (intsOf ((d.kids.take T).drop F)) by rw [← ints_sub]; exact sub_row1 HK.out F T (by rw [ints_length, HN.out]; omega))
              have HR2 := hid (show RowAt W2 noF (some ⟨g2, off2 + F, none⟩) (texts ((d.pivs.take T1).drop F)) by rw [← texts_sub]; exact sub_row1 HP.out F T1 (by rw [texts_length, HPN.out]; omega))
              have HFin := hid (fun (a6 : Option Addr) (c6 : Nat) (wa : World) (hs : Step noF wc wa) (hb : OwnB wa W2.heap.size (.slice a6 M.length c6) M) (v7 : Value) (w7 : World) (o7 : OwnN w7 W2.heap.size v7 (xs ++ [(.slice (some ⟨g, off + F, none⟩) (T - F) (kc - F), .slice (some ⟨g2, off2 + F, none⟩) (T1 - F) (pc - F), .slice a6 M.length c6)])) (g7 : wa.grownBy w7 V5.ownBlock) =>
                show PtsSo W2 w7 W2.heap.size (partN d C) (j + 1) v7 ∧ OwnT w7 W2.heap.size V6 (betw d C (j + 1)) ∧ Step noF W2 w7 from by
                  have hoa : OwnN wa W2.heap.size V5 xs := owns_step hxo hs (fun _ _ x => x)
                  refine ⟨PtsSo.next hxl hoa (fun t ht => (hxn t ht).by fun _ _ h => OwnB.step h hs) ?_ o7 g7, own_apart (OwnT.step HT.out hs) hoa (by decide) g7, grown1_step (SC.out.trans hs) hoa (Nat.le_refl _) g7⟩
                  rw [HPJ.out]
                  exact ⟨_, _, _, _, by rw [hl1], by rw [hl2], ⟨HR1.out, (fun e => by cases e), by rw [hl1]; omega⟩, ⟨HR2.out, (fun e => by cases e), by rw [hl2]; omega⟩, hb⟩)
              have q0 : (0 : Int) ≤ (F : Int) := by omega
              have q1 : (F : Int) ≤ (T : Int) := by omega
              have q3 : (T : Int) ≤ (kc : Int) := by omega
              have e1 : (T : Int) - (F : Int) = ((T - F : Nat) : Int) := by omega
              have e2 : (kc : Int) - (F : Int) = ((kc - F : Nat) : Int) := by omega
              have nk : ¬ kc = F := by omega
              have etm : (T : Int) - 1 = (T1 : Int) := by omega
              have wtm : IntKind.i64.wrap (T1 : Int) = (T1 : Int) := by rw [IntKind.wrap_i64]; omega
              have q4 : (F : Int) ≤ (T1 : Int) := by omega
              have q5 : (T1 : Int) ≤ (pc : Int) := by omega
              have e3 : (T1 : Int) - (F : Int) = ((T1 - F : Nat) : Int) := by omega
              have e4 : (pc : Int) - (F : Int) = ((pc - F : Nat) : Int) := by omega
              have np : ¬ pc = F := by omega
              have hxl1 : Hid (xs.length + 1 ≤ 1000000) := by show _ ≤ _; omega
              have HZ := hid SC.out
              clear hT1 hM hl1 hl2 hxl hxo hxn HO
              go_upto_region 19 with fail
              go_cut [5, 6] from 23 to 90 (fun s5 s6 wx => Hid (PtsSo W2 wx W2.heap.size (partN d C) (j + 1) s5) ∧ Hid (OwnT wx W2.heap.size s6 (betw d C (j + 1))) ∧ Hid (Step noF W2 wx))
              case first =>
                go_region_law (first
                  | (refine step_calls rfl rfl Tryz.func50 (by kernel_rfl) (by kernel_rfl) (args := #[.slice a d.ms.length c, .agg #[.string (str LO), .string (str HI)], .bool true]) (by first | rfl | (simp [Act.eval, Act.put]; done)) ?_; refine (cT _ (by first | exact (Step.refl noF wc).drewN _ | exact (Step.refl noF wc).drew | exact Step.refl noF wc)).mono ?_; rintro e w6 ⟨a6, c6, rfl, O6, t6⟩; have V6s : Hid (Step noF wc w6) := (by first | exact ((Step.refl noF wc).drewN _).trans t6.out | exact ((Step.refl noF wc).drew).trans t6.out | exact t6.out); have V6z : Hid (Step noF W2 w6) := HZ.out.trans V6s.out; clear t6; have z0 := V6s.out.after x0; have z1 := V6s.out.after x1; refine ⟨_, rfl, ?_⟩)
                  | (refine step_append_N rfl (.tmp 71) (.tmp 88) rfl W2.heap.size V5 xs (by first | rfl | (simp [Act.eval, Act.put]; done)) (by first | exact owns_step HXO.out (V6s.out.trans ((Step.refl noF w6).alloc _)) (fun _ _ x => x) | exact owns_step HXO.out (V6s.out.trans (((Step.refl noF w6).alloc _).drew)) (fun _ _ x => x) | exact owns_step HXO.out (V6s.out.trans (((Step.refl noF w6).alloc _).drewN _)) (fun _ _ x => x) | exact owns_step HXO.out (V6s.out.trans (((Step.refl noF w6).drew).alloc _)) (fun _ _ x => x) | exact owns_step HXO.out (V6s.out.trans (((Step.refl noF w6).drewN _).alloc _)) (fun _ _ x => x)) w6.heap.size (.slice (some ⟨g, off + F, none⟩) (T - F) (kc - F), .slice (some ⟨g2, off2 + F, none⟩) (T1 - F) (pc - F), .slice a6 M.length c6) (by first | rfl | (simp [Act.eval, Act.put]; done)) (by first | exact nd_cells w6 _ _ _ | exact fun j u h => ((Step.refl noF _).drew).after (nd_cells w6 _ _ _ j u h) | exact fun j u h => ((Step.refl noF _).drewN _).after (nd_cells w6 _ _ _ j u h) | exact nd_cells w6.drew _ _ _ | exact nd_cells (w6.drewN _) _ _ _) (trips_one _ _ _ _ _ _ _ _ _) hxl1.out (by first | exact (V6z.out.trans ((Step.refl noF w6).alloc _)).size | exact (V6z.out.trans (((Step.refl noF w6).alloc _).drew)).size | exact (V6z.out.trans (((Step.refl noF w6).alloc _).drewN _)).size | exact (V6z.out.trans (((Step.refl noF w6).drew).alloc _)).size | exact (V6z.out.trans (((Step.refl noF w6).drewN _).alloc _)).size) ?_; intro v7 w7 o7 g7; have F7 := hid (by first | exact HFin.out _ _ _ (V6s.out.trans ((Step.refl noF w6).alloc _)) (OwnB.step O6.out ((Step.refl noF w6).alloc _)) _ _ o7 g7 | exact HFin.out _ _ _ (V6s.out.trans (((Step.refl noF w6).alloc _).drew)) (OwnB.step O6.out (((Step.refl noF w6).alloc _).drew)) _ _ o7 g7 | exact HFin.out _ _ _ (V6s.out.trans (((Step.refl noF w6).alloc _).drewN _)) (OwnB.step O6.out (((Step.refl noF w6).alloc _).drewN _)) _ _ o7 g7 | exact HFin.out _ _ _ (V6s.out.trans (((Step.refl noF w6).drew).alloc _)) (OwnB.step O6.out (((Step.refl noF w6).drew).alloc _)) _ _ o7 g7 | exact HFin.out _ _ _ (V6s.out.trans (((Step.refl noF w6).drewN _).alloc _)) (OwnB.step O6.out (((Step.refl noF w6).drewN _).alloc _)) _ _ o7 g7); clear o7 g7))
                all_goals go_wp2_with fail
                all_goals go_meet
                all_goals exact ⟨F7.out.1, F7.out.2.1, F7.out.2.2⟩
              case rest =>
                obtain ⟨HO, HT, SC⟩ := hcut
                clear cT x0 x1 x2 p0 p1 HFin HXO
                go_wp2_with fail
                go_roundg (C - (j + 1))
                case measure => omega
                case rel => exact ⟨j + 1, by simp, by rw [HTT.out], by omega, Nat.le_refl _, HO.out, HT.out, SC.out⟩
      · obtain rfl : j = C := by omega
        have hjz : ¬ (j : Int) < (j : Int) := by omega
        go_wp2_with fail
        go_ret2
        have hr := PtsSo.row HO.out hCp SW.out
        obtain ⟨a5, c5, rfl, r5a, r5b, r5c⟩ := OwnT.row HT.out
        refine ⟨_, _, rfl, by rw [HP1.out]; exact hr, ⟨a5, c5, by rw [HB1.out]; rfl, by rw [HB1.out]; exact r5c⟩, SW2.out.trans SW.out⟩
end Go.Proofs.YtgmgoaencaldmaaGreat
namespace Go.Proofs.YtgmgoaencaldmaaGreat
open Go.RowKit Go.Sort
set_option linter.unusedVariables false
set_option linter.unusedSimpArgs false
set_option maxRecDepth 20000

set_option maxHeartbeats 8000000 in
theorem refJoinN_any (d1 d2 : Nd) (h1 : NdOk d1) (h2 : NdOk d2) (hml : d1.ms.length + d2.ms.length ≤ 100000) (piv : List UInt8) (v1 v2 : Value) (w : World) (n1 : NdV w d1 v1) (n2 : NdV w d2 v2) :
    Calls Tryz.prog 29 #[v1, .string (str piv), v2] w fun e w' => RefMade w' (goodN (joinN d1 piv d2).kids (joinN d1 piv d2).pivs) (joinN d1 piv d2) e ∧ Step noF w w' := by
  obtain ⟨ka, pa, a, kc, pc, c, rfl, ⟨hk, hkc, hkn⟩, ⟨hp, hpc, hpn⟩, hm, hmc⟩ := n1
  obtain ⟨ka2, pa2, a2, kc2, pc2, c2, rfl, ⟨hk2, hkc2, hkn2⟩, ⟨hp2, hpc2, hpn2⟩, hm2, hmc2⟩ := n2
  have l1 := h1.len
  have l2 := h2.len
  have k1 := h1.2.2.2.1
  have k2 := h2.2.2.2.1
  have hall : d2.ms.all Mg.is = true := List.all_eq_true.2 h2.2.1
  have cW := fun w' (hs : Step noF w w') => refWithB_any d1.ms h1.2.2.1 h1.2.1 d2.ms hml a c hmc a2 c2 w' (hm.stepB hs) (hm2.stepB hs)
  obtain ⟨ks, ps, ms⟩ := d1
  obtain ⟨ks2, ps2, ms2⟩ := d2
  simp only at l1 l2 k1 k2 hk hkc hkn hp hpc hpn hm hk2 hkc2 hkn2 hp2 hpc2 hpn2 hm2 hall cW hml ⊢
  unfold joinN
  simp only
  rw [hall] at cW
  obtain ⟨KS, hKS⟩ : ∃ x, ks ++ ks2 = x := ⟨_, rfl⟩
  obtain ⟨PS, hPS⟩ : ∃ x, ps ++ piv :: ps2 = x := ⟨_, rfl⟩
  have hKL : KS.length ≤ 1000000 := by rw [← hKS]; simp; omega
  have hPL : PS.length ≤ 1000000 := by rw [← hPS]; simp; omega
  have cG := refGood_any KS PS hKL hPL
  have HPP : Hid ((ps ++ [piv]) ++ ps2 = PS) := by show _ = _; rw [← hPS]; simp
  have HPP2 := hid hPS
  rw [hKS, hPS]
  obtain ⟨U, hU⟩ : ∃ x, putsM ms2 ms = x := ⟨_, rfl⟩
  rw [hU] at cW ⊢
  have HKK := hid hKS
  have HKL := hid hKL
  have HPL := hid hPL
  obtain ⟨n, hn⟩ : ∃ n, ks.length = n := ⟨_, rfl⟩
  obtain ⟨pn, hpn3⟩ : ∃ n, ps.length = n := ⟨_, rfl⟩
  obtain ⟨m, hm3⟩ : ∃ n, ms.length = n := ⟨_, rfl⟩
  obtain ⟨n2, hn2⟩ : ∃ n, ks2.length = n := ⟨_, rfl⟩
  obtain ⟨pn2, hpn4⟩ : ∃ n, ps2.length = n := ⟨_, rfl⟩
  obtain ⟨m2, hm4⟩ : ∃ n, ms2.length = n := ⟨_, rfl⟩
  rw [hm3, hm4] at cW
  have HN := hid hn
  have HPN := hid hpn3
  have HN2 := hid hn2
  have HPN2 := hid hpn4
  have hn1 : n ≤ 1000 := by omega
  have hn21 : n2 ≤ 1000 := by omega
  have hp1 : pn ≤ 1000 := by omega
  have hp21 : pn2 ≤ 1000 := by omega
  rw [hn, hpn3, hm3, hn2, hpn4, hm4]
  have HK := hid hk
  have HP := hid hp
  have HK2 := hid hk2
  have HP2 := hid hp2
  have HC := hid (And.intro (And.intro hkc hpc) (And.intro hkc2 hpc2))
  have B1 := ((box_new w (.slice ka n kc) (.slice pa pn pc) (.slice a m c)).alloc (.cells #[.slice ka2 n2 kc2, .slice pa2 pn2 pc2, .slice a2 m2 c2] 34)).alloc (.cells #[.slice none 0 0, .slice none 0 0, .slice none 0 0] 34)
  have B2 := (box_new (w.alloc (.cells #[.slice ka n kc, .slice pa pn pc, .slice a m c] 34)) (.slice ka2 n2 kc2) (.slice pa2 pn2 pc2) (.slice a2 m2 c2)).alloc (.cells #[.slice none 0 0, .slice none 0 0, .slice none 0 0] 34)
  have B3 := box_new ((w.alloc (.cells #[.slice ka n kc, .slice pa pn pc, .slice a m c] 34)).alloc (.cells #[.slice ka2 n2 kc2, .slice pa2 pn2 pc2, .slice a2 m2 c2] 34)) (.slice none 0 0) (.slice none 0 0) (.slice none 0 0)
  rw [World.size_alloc] at B2
  rw [World.size_alloc, World.size_alloc] at B3
  have S0 := (((Step.refl noF w).alloc (.cells #[.slice ka n kc, .slice pa pn pc, .slice a m c] 34)).alloc (.cells #[.slice ka2 n2 kc2, .slice pa2 pn2 pc2, .slice a2 m2 c2] 34)).alloc (.cells #[.slice none 0 0, .slice none 0 0, .slice none 0 0] 34)
  obtain ⟨W3, hW3⟩ : ∃ W3, ((w.alloc (.cells #[.slice ka n kc, .slice pa pn pc, .slice a m c] 34)).alloc (.cells #[.slice ka2 n2 kc2, .slice pa2 pn2 pc2, .slice a2 m2 c2] 34)).alloc (.cells #[.slice none 0 0, .slice none 0 0, .slice none 0 0] 34) = W3 := ⟨_, rfl⟩
  have hsz : W3.heap.size = w.heap.size + 1 + 1 + 1 := by rw [← hW3]; simp
  rw [hW3] at B1 B2 B3 S0
  have BN := hid B1
  have BO := hid B2
  have BR := hid B3
  have SW3 := hid S0
  have HO0 := hid (ownI_empty W3)
  have HS0 := hid ((Step.refl noF W3).alloc (.cells #[] 3))
  obtain ⟨x0, x1, x2, _, _, _⟩ := B1.all
  obtain ⟨y0, y1, y2, _, _, _⟩ := B2.all
  have sx0 := HS0.out.after x0
  have sy0 := HS0.out.after y0
  clear hk hkc hkn hp hpc hpn hm hmc hk2 hkc2 hkn2 hp2 hpc2 hpn2 hm2 hmc2 hKS hPS hKL hPL hU l1 l2 k1 k2 h1 h2 hml hn hpn3 hm3 hn2 hpn4 hm4 B1 B2 B3 S0 hall
  go_enter Tryz.func29, Tryz.ntmps29
  go_upto_region 1 with fail
  clear hW3
  go_cut [8] from 12 to 46 (fun s8 wx => Hid (OwnI wx W3.heap.size s8 KS) ∧ Hid (Step noF W3 wx))
  case first =>
    go_region_law (first
      | (refine step_append_I rfl (.tmp 12) (.tmp 14) rfl W3.heap.size (.slice (some ⟨W3.heap.size, 0, none⟩) 0 0) [] (by first | rfl | (simp [Act.eval, Act.put]; done)) (by first | exact HO0.out | exact OwnI.step HO0.out (Step.refl noF _).drew | exact OwnI.step HO0.out ((Step.refl noF _).drewN _)) ka kc ks n HN.out (by first | rfl | (simp [Act.eval, Act.put]; done)) (rowAt_step HK.out (SW3.out.trans (by first | exact HS0.out | exact HS0.out.drew | exact HS0.out.drewN _)) (fun _ _ h => h)) HC.out.1.1 (by rw [HN.out]; simp; omega) (by first | exact HS0.out.size | exact HS0.out.drew.size | exact (HS0.out.drewN _).size) ?_; intro v6 w6 o6 g6; have S6 : Hid (Step noF W3 w6) := (by first | exact grown1_step HS0.out HO0.out (Nat.le_refl _) g6 | exact grown1_step HS0.out.drew (OwnI.step HO0.out (Step.refl noF _).drew) (Nat.le_refl _) g6 | exact grown1_step (HS0.out.drewN _) (OwnI.step HO0.out ((Step.refl noF _).drewN _)) (Nat.le_refl _) g6); have O6 := hid o6; clear o6 g6; have q0 := S6.out.after x0; have q1 := S6.out.after y0)
      | (refine step_append_I rfl (.tmp 15) (.tmp 17) rfl W3.heap.size v6 ([] ++ ks) (by first | rfl | (simp [Act.eval, Act.put]; done)) (by first | exact O6.out | exact OwnI.step O6.out (Step.refl noF _).drew | exact OwnI.step O6.out ((Step.refl noF _).drewN _)) ka2 kc2 ks2 n2 HN2.out (by first | rfl | (simp [Act.eval, Act.put]; done)) (rowAt_step HK2.out (SW3.out.trans (by first | exact S6.out | exact S6.out.drew | exact S6.out.drewN _)) (fun _ _ h => h)) HC.out.2.1 (by rw [HN2.out, List.nil_append, HN.out]; omega) (by first | exact S6.out.size | exact S6.out.drew.size | exact (S6.out.drewN _).size) ?_; intro v7 w7 o7 g7; have S7 : Hid (Step noF W3 w7) := (by first | exact grown1_step S6.out O6.out (Nat.le_refl _) g7 | exact grown1_step S6.out.drew (OwnI.step O6.out (Step.refl noF _).drew) (Nat.le_refl _) g7 | exact grown1_step (S6.out.drewN _) (OwnI.step O6.out ((Step.refl noF _).drewN _)) (Nat.le_refl _) g7); have O7 : Hid (OwnI w7 W3.heap.size v7 KS) := (by have := o7; rw [List.nil_append, HKK.out] at this; exact this); clear o7 g7))
    all_goals go_wp2_with fail
    all_goals go_meet
    all_goals exact ⟨O7.out, S7.out⟩
  case rest =>
    obtain ⟨HO8, S8⟩ := hcut
    have x1' := S8.out.after x1
    have x2' := S8.out.after x2
    have y1' := S8.out.after y1
    have y2' := S8.out.after y2
    have U0 := hid ((Step.refl noF wc).alloc (.cells #[] 9))
    have HT0 := hid (ownT_empty wc)
    have x1a := U0.out.after x1'
    clear x0 x1 x2 y0 y1 y2 sx0 sy0 HO0 HS0
    go_wp2_with (at_builtin; refine wpList_append_Tn rfl _ _ rfl wc.heap.size _ ([]) rfl HT0.out ps pn HPN.out rfl (rowAt_step HP.out (SW3.out.trans (S8.out.trans U0.out)) (fun _ _ h => h)) HC.out.1.2 (by rw [HPN.out]; simp; omega) U0.out.size ?_)
    intro v4 w4 o4 g4
    have U4 := hid (grown1_step U0.out HT0.out (Nat.le_refl _) g4)
    have HT4 : Hid (OwnT w4 wc.heap.size v4 ps) := by first | exact o4 | simpa using o4
    have HT4a := hid (OwnT.step HT4.out ((Step.refl noF w4).alloc (.cells #[.string (str piv)] 9)))
    have U4a := hid (U4.out.alloc (.cells #[.string (str piv)] 9))
    clear o4 g4 x1a x1'
    go_wp2_with (at_builtin; refine wpList_append_T rfl _ _ rfl wc.heap.size _ ps rfl HT4a.out (some ⟨w4.heap.size, 0, none⟩) 1 [piv] rfl (text_one w4 piv) (fun e => by cases e) (by rw [HPN.out]; simp; omega) U4a.out.size ?_)
    intro v5 w5 o5 g5
    have U5 := hid (grown1_step U4a.out HT4a.out (Nat.le_refl _) g5)
    have HT5 := hid o5
    have y1'' := U5.out.after y1'
    clear o5 g5 y1'
    go_wp2_with (at_builtin; refine wpList_append_Tn rfl _ _ rfl wc.heap.size _ (ps ++ [piv]) rfl HT5.out ps2 pn2 HPN2.out rfl (rowAt_step HP2.out (SW3.out.trans (S8.out.trans U5.out)) (fun _ _ h => h)) HC.out.2.2 (by rw [HPN2.out, List.length_append, HPN.out]; simp; omega) U5.out.size ?_)
    intro v6 w6 o6 g6
    have U6 := hid (grown1_step U5.out HT5.out (Nat.le_refl _) g6)
    have HT6 : Hid (OwnT w6 wc.heap.size v6 PS) := by first | (rw [HPP2.out] at o6; exact o6) | (rw [HPP.out] at o6; exact o6)
    have x2'' := U6.out.after x2'
    have y2'' := U6.out.after y2'
    have S6 := hid (SW3.out.trans (S8.out.trans U6.out))
    have BZ := hid (BoxAt.step BR.out (S8.out.trans U6.out))
    have cw := cW _ S6.out
    obtain ⟨a3, c3, rfl, r3a, r3b, r3c⟩ := OwnI.row (OwnI.step HO8.out U6.out)
    obtain ⟨a5, c5, rfl, r5a, r5b, r5c⟩ := OwnT.row HT6.out
    have HI3 := hid (And.intro r3a (And.intro r3b r3c))
    have HI5 := hid (And.intro r5a (And.intro r5b r5c))
    have hsz3 : w.heap.size ≤ w.heap.size + 1 + 1 := by omega
    clear o6 g6 x2' y2' y1'' r3a r3b r3c r5a r5b r5c cW HT6 HT5 HT4 HT4a HT0 HO8 U0 U4 U4a U5
    go_wp2_with fail
    refine cw.mono ?_
    rintro e w7 ⟨hw, s7⟩
    rcases hw with ⟨hf, _⟩ | ⟨_, v7, rfl, hv7⟩
    · cases hf
    have S7 := hid (S6.out.trans s7)
    have BZ7 := hid (BZ.out.step s7)
    have M7 := hid hv7
    obtain ⟨a7, c7, rfl, n7, m7⟩ := hv7
    have cg := cG a3 a5 c3 c5 w7 (rowAt_step HI3.out.2.2 s7 (fun _ _ h => h)) (rowAt_step HI5.out.2.2 s7 (fun _ _ h => h))
    have HI7 := hid (And.intro (rowAt_step HI3.out.2.2 s7 (fun _ _ h => h)) (rowAt_step HI5.out.2.2 s7 (fun _ _ h => h)))
    have N7 := hid (And.intro m7 n7)
    obtain ⟨L3, hL3⟩ : ∃ x, KS.length = x := ⟨_, rfl⟩
    obtain ⟨L5, hL5⟩ : ∃ x, PS.length = x := ⟨_, rfl⟩
    have HL3 := hid hL3
    have HL5 := hid hL5
    rw [hL3, hL5] at cg ⊢
    clear hL3 hL5 s7 n7 m7 cw x2'' y2'' cG
    cases hgd : goodN KS PS
    · rw [hgd] at cg
      have HGD := hid hgd
      clear hgd
      go_wp2_with fail
      refine cg.mono ?_
      rintro e w8 ⟨rfl, s8⟩
      have S9 := hid (S7.out.trans s8)
      have B9 := hid (BZ7.out.step s8)
      clear s8
      obtain ⟨p0, p1, p2, z0, z1, z2⟩ := BoxAt.all B9.out
      have BP := BoxAt.put B9.out (.slice none 0 0) (.slice none 0 0) (.slice none 0 0)
      obtain ⟨y0, y1, y2, _, _, _⟩ := BoxAt.all BP
      have SP := hid (S9.out.put3 (w.heap.size + 1 + 1) hsz3 (.slice none 0 0) (.slice none 0 0) (.slice none 0 0))
      clear BP cg
      go_wp2_with fail
      refine bodyPost_ret (v := .tuple #[.agg #[.slice none 0 0, .slice none 0 0, .slice none 0 0], .bool false]) (by simp [results, Tryz.results29, go_sem, *]) rfl ⟨.inl ⟨HGD.out, rfl⟩, SP.out⟩
    · rw [hgd] at cg
      have HGD := hid hgd
      clear hgd
      go_wp2_with fail
      refine cg.mono ?_
      rintro e w8 ⟨rfl, s8⟩
      have S9 := hid (S7.out.trans s8)
      have B9 := hid (BZ7.out.step s8)
      have hnd : NdV w8 ⟨KS, PS, U⟩ (.agg #[.slice a3 KS.length c3, .slice a5 PS.length c5, .slice a7 U.length c7]) :=
        ⟨a3, a5, a7, c3, c5, c7, rfl, ⟨rowAt_step HI7.out.1 s8 (fun _ _ h => h), HI3.out.2.1.1, HI3.out.1⟩, ⟨rowAt_step HI7.out.2 s8 (fun _ _ h => h), HI5.out.2.1.1, HI5.out.1⟩, N7.out.1.stepB s8, N7.out.2⟩
      rw [HL3.out, HL5.out] at hnd
      have HND := hid (hnd.put B9.out ⟨_, _, _, rfl⟩ ⟨_, _, _, rfl⟩ ⟨_, _, _, rfl⟩ (.slice a3 L3 c3) (.slice a5 L5 c5) (.slice a7 U.length c7))
      clear s8 hnd
      obtain ⟨p0, p1, p2, z0, z1, z2⟩ := BoxAt.all B9.out
      have BP := BoxAt.put B9.out (.slice a3 L3 c3) (.slice a5 L5 c5) (.slice a7 U.length c7)
      obtain ⟨y0, y1, y2, _, _, _⟩ := BoxAt.all BP
      have SP := hid (S9.out.put3 (w.heap.size + 1 + 1) hsz3 (.slice a3 L3 c3) (.slice a5 L5 c5) (.slice a7 U.length c7))
      clear BP cg
      go_wp2_with fail
      refine bodyPost_ret (v := .tuple #[.agg #[.slice a3 L3 c3, .slice a5 L5 c5, .slice a7 U.length c7], .bool true]) (by simp [results, Tryz.results29, go_sem, *]) rfl ⟨.inr ⟨HGD.out, _, rfl, HND.out⟩, SP.out⟩
end Go.Proofs.YtgmgoaencaldmaaGreat
