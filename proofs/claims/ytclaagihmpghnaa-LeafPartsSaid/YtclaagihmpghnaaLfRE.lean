/-
  The reference of layer 9: Parts.
-/
import Derived.Test.YtclaagihmpghnaaLfRD
import Derived.Deep.Cut
import Derived.Test.YtclaagihmpghnaaDraw
import Derived.Deep.RegionLaw
namespace Go.Proofs.Ytclaagihmpghnaa
open Go.RowKit Go.Sort
set_option linter.unusedVariables false
set_option linter.unusedSimpArgs false
set_option maxRecDepth 20000

/-- Rows of items, as cells: an address, a capacity, the items. -/
def sls (rs : List (Option Addr × Nat × List Rg)) : List Value := rs.map fun r => .slice r.1 r.2.2.length r.2.1
theorem sls_length (rs : List (Option Addr × Nat × List Rg)) : (sls rs).length = rs.length := by simp [sls]
theorem sls_append (a b : List (Option Addr × Nat × List Rg)) : sls (a ++ b) = sls a ++ sls b := by simp [sls]
theorem sls_one (rs : List (Option Addr × Nat × List Rg)) : ∀ u ∈ sls rs, u.oneCell' = true := by
  intro u hu
  simp only [sls, List.mem_map] at hu
  obtain ⟨x, _, rfl⟩ := hu
  rfl
/-- Rows that lie in the row (a, xs), and have these items. -/
def SubOf (a : Option Addr) (xs : List Rg) (rs : List (Option Addr × Nat × List Rg)) (ps : List (List Rg)) : Prop := rs.map (fun r => r.2.2) = ps ∧ ∀ u, RgsAt u a xs → ∀ r ∈ rs, RgsAt u r.1 r.2.2
theorem rgsAt_take {u : World} {a : Option Addr} {xs : List Rg} (n : Nat) (h : RgsAt u a xs) : RgsAt u a (xs.take n) := by
  rcases h with rfl | ⟨b, off, rfl, hb, h⟩
  · exact .inl (by simp)
  · refine .inr ⟨b, off, rfl, hb, fun j hj => ?_⟩
    rw [List.getElem_take]
    exact h j (by rw [List.length_take] at hj; omega)
theorem rgsAt_drop {u : World} {g off : Nat} {xs : List Rg} (n : Nat) (h : RgsAt u (some ⟨g, off, none⟩) xs) : RgsAt u (some ⟨g, off + n * 2, none⟩) (xs.drop n) := by
  rcases h with rfl | ⟨b, o, e, hb, h⟩
  · exact .inl (by simp)
  · injection e with e
    injection e with e1 e2
    subst e1
    subst e2
    refine .inr ⟨_, _, rfl, hb, fun j hj => ?_⟩
    rw [List.getElem_drop]
    rw [List.length_drop] at hj
    have := h (n + j) (by omega)
    rw [show off + n * 2 + j * 2 = off + (n + j) * 2 by omega]
    exact this
theorem SubOf.append {g off : Nat} {xs : List Rg} {n : Nat} {qs rs : List (Option Addr × Nat × List Rg)} {ps us : List (List Rg)} (h : SubOf (some ⟨g, off, none⟩) (xs.take n) qs ps) (k : SubOf (some ⟨g, off + n * 2, none⟩) (xs.drop n) rs us) : SubOf (some ⟨g, off, none⟩) xs (qs ++ rs) (ps ++ us) := by
  refine ⟨by rw [List.map_append, h.1, k.1], fun u hu r hr => ?_⟩
  rcases List.mem_append.1 hr with hr | hr
  · exact h.2 u (rgsAt_take n hu) r hr
  · exact k.2 u (rgsAt_drop n hu) r hr
theorem infoSl0 : (Try.prog.info? 22).map (fun i => (i.zero, i.size, i.bytes)) = some (some (.slice none 0 0), 1, 24) := by kernel_rfl
/-- What the reference's Parts answers. -/
def RefParts (w : World) (a : Option Addr) (xs : List Rg) (e : Ending) (w' : World) : Prop := ∃ v qs, e = .returned v ∧ w'.ownsRow w.heap.size 22 1 v qs.length (sls qs) ∧ SubOf a xs qs (partsIt xs) ∧ Step noF w w'
theorem owns_up2 {w : World} {base : Nat} {e : TypeId} {size : Nat} {v : Value} {n : Nat} {xs : List Value} (h : w.ownsRow 0 e size v n xs) (hb : ∀ k, v.ownBlock = some k → base ≤ k) : w.ownsRow base e size v n xs := by
  refine ⟨h.1, ?_⟩
  rcases h.2 with h | ⟨g, cap, cur, rfl, _, h2⟩
  · exact .inl h
  · exact .inr ⟨g, cap, cur, rfl, hb g rfl, h2⟩
theorem refParts_count (xs : List Rg) (hx : xs ≠ []) (hok : ∀ x ∈ xs, itOk x = true) : (partsIt xs).length ≤ xs.length := by
  obtain ⟨a1, a2, a3, a4⟩ := parts_good xs.length xs (Nat.le_refl _) hok
  have h : ∀ p ∈ partsIt xs, 1 ≤ p.length := fun p hp => List.length_pos_iff.2 ((a2 p hp).2 hx)
  have key : ∀ ps : List (List Rg), (∀ p ∈ ps, 1 ≤ p.length) → ps.length ≤ ps.flatten.length := by
    intro ps
    induction ps with
    | nil => intro _; simp
    | cons p ps ih =>
      intro hp
      have h1 := hp p (by simp)
      have h2 := ih (fun q hq => hp q (by simp [hq]))
      rw [List.flatten_cons, List.length_append, List.length_cons]
      omega
  have := key _ h
  rw [a1] at this
  exact this
/-- Items that can be, of no great number. -/
def OkIt (xs : List Rg) : Prop := xs.length ≤ 1000000 ∧ ∀ x ∈ xs, itOk x = true
theorem OkIt.small {xs : List Rg} (h : OkIt xs) : ∀ x ∈ xs, x.lo.length ≤ 1000000 ∧ x.hi.length ≤ 1000000 := fun x hx => by
  have := h.2 x hx
  simp [itOk, isK] at this
  omega

/-- A call of a Go function, as one step of a region that draws. -/
theorem step_calls {P : Program} {ops : Array Oper} {o : Oper} {a : Act} {w : World} {K : Act → World → Prop} {Q : Exit → Act → World → Prop} {E : Prop}
    (hg : o.guard = none) {f : FuncId} {xs : Array Operand} {ats : Array TypeId} (hop : o.op = Op.call { callee := Callee.value (Operand.func f), args := xs, argTypes := ats }) {fn : Func} (hf : P.funcs[f]? = some fn) (hn : (fn.name == "runtime.NumGoroutine") = false) (hb : fn.body.isNone = false) {args : Array Value} (ha : xs.map a.eval = args)
    (hc : Calls P f args w fun e w' => ∃ v, e = .returned v ∧ K (a.put o.dst v) w') : if Region.wanted o (yielded ops a.tmps) = true then Oper.wp P o a w K Q else E := by
  have hw : Region.wanted o (yielded ops a.tmps) = true := by simp [Region.wanted, hg]
  rw [if_pos hw]
  unfold Oper.wp
  have hx : (execOp a.eval o).run P w = .ok (.enter f args) w := by
    have e1 : execOp a.eval o = callFunc f (#[] ++ xs.map a.eval ++ #[]) := by
      obtain ⟨dst, op, ty, pos, after, guard⟩ := o
      simp only at hop
      subst hop
      rfl
    rw [e1, ha]
    have hn' : fn.name ≠ "runtime.NumGoroutine" := by simpa using hn
    have hb' : ¬ fn.body = none := fun h => by rw [h] at hb; cases hb
    simp [callFunc, go_sem, hf, hn', hb']
  rw [hx]
  refine Calls.mono hc ?_
  rintro e w' ⟨v, rfl, hv⟩
  exact hv
set_option maxHeartbeats 2000000 in
theorem refParts_light (xs : List Rg) (hok : OkIt xs) (hw : wtL xs ≤ 240) (a : Option Addr) (c : Nat) (w : World) (h : RgsAt w a xs) :
    Calls Try.prog 26 #[.slice a xs.length c] w fun e w' => RefParts w a xs e w' := by
  have cW := refWeight_any xs hok.1 hok.small a c w h
  have HL := hid (parts_light xs hw)
  obtain ⟨W, hW⟩ : ∃ W, wtL xs = W := ⟨_, rfl⟩
  rw [hW] at cW hw
  have hz : (W : Int) ≤ 240 := by omega
  clear h hok hW
  go_enter Try.func26, Try.ntmps26
  go_wp2_with fail
  refine cW.mono ?_
  rintro e w2 ⟨rfl, s2⟩
  have S2 := hid s2
  clear s2
  go_wp2_with fail
  go_ret
  refine ⟨.slice (some ⟨w2.heap.size, 0, none⟩) 1 1, [(a, c, xs)], rfl, ?_, ?_, S2.out.alloc _⟩
  · exact owns_of_block (cur := #[.slice a xs.length c]) S2.out.size (block_alloc_new _ _) (Nat.le_refl _) (by unfold maxLen; decide) rfl rfl rfl
  · rw [HL.out]
    refine ⟨rfl, fun u hu r hr => ?_⟩
    obtain rfl : r = (a, c, xs) := by simpa using hr
    exact hu

set_option maxHeartbeats 4000000 in
theorem refParts_rec (xs : List Rg) (hok : OkIt xs) (hw : 240 < wtL xs) (g off c : Nat) (hc : xs.length ≤ c) (w : World) (h : RgsAt w (some ⟨g, off, none⟩) xs)
    (ih : ∀ (ys : List Rg) (g2 off2 c2 : Nat) (w2 : World), ys.length < xs.length → OkIt ys → ys.length ≤ c2 → RgsAt w2 (some ⟨g2, off2, none⟩) ys → Calls Try.prog 26 #[.slice (some ⟨g2, off2, none⟩) ys.length c2] w2 fun e w' => RefParts w2 (some ⟨g2, off2, none⟩) ys e w') :
    Calls Try.prog 26 #[.slice (some ⟨g, off, none⟩) xs.length c] w fun e w' => RefParts w (some ⟨g, off, none⟩) xs e w' := by
  obtain ⟨i0, hi, hz0, hz1, hz2⟩ := info_threeL infoSl0
  have cW := refWeight_any xs hok.1 hok.small (some ⟨g, off, none⟩) c w h
  have h1 := half_pos xs hw
  have h2 := half_small xs hok.2 hw
  have HP := hid (parts_heavy xs hok.2 hw)
  have HLT := hid (half_lt xs)
  have HGE := hid (half_ge xs)
  have hl := hok.1
  have hwl := refWt_le xs hok.small
  have HR := hid h
  have HOK := hid hok
  have IH := hid ih
  obtain ⟨W, hW⟩ : ∃ W, wtL xs = W := ⟨_, rfl⟩
  rw [hW] at cW hw HLT HGE hwl
  have hz : ¬ (W : Int) ≤ 240 := by omega
  have hWl : W ≤ 2000002000000 := by omega
  obtain ⟨n, hn⟩ : ∃ n, halfN xs = n := ⟨_, rfl⟩
  rw [hn] at HP h1 h2 HLT HGE
  have HWW := hid hW
  have cT : ∀ (q : Nat), q ≤ n → ∀ w', Step noF w w' → Calls Try.prog 17 #[.slice (some ⟨g, off, none⟩) q c] w' fun e w'' => e = .returned (.int .i64 (wtL (xs.take q))) ∧ Step noF w' w'' := fun q hq w' hs => by
    have e : (xs.take q).length = q := by rw [List.length_take]; omega
    have := refWeight_any (xs.take q) (by omega) (fun x hx => HOK.out.small x (List.mem_of_mem_take hx)) (some ⟨g, off, none⟩) c w' (rgsAt_take q (HR.out.step hs))
    rw [e] at this
    exact this
  have HTL : Hid (∀ q, wtL (xs.take q) ≤ W) := fun q => by
    rw [← HWW.out]
    conv => rhs; rw [← List.take_append_drop q xs, wtL_append]
    omega
  clear h hW hok ih hn hwl
  go_enter Try.func26, Try.ntmps26
  go_wp2_with fail
  refine cW.mono ?_
  rintro e w2 ⟨rfl, s2⟩
  have S2 := hid s2
  clear s2 cW
  go_wp2_with fail
  go_loopw [4] (fun i wr => ∃ (q : Nat), q ≤ n ∧ i = .int .i64 q ∧ Hid (Step noF w wr)) (fun i _ => n - (intOf i).toNat)
  case atStart => exact ⟨0, Nat.zero_le _, rfl, S2⟩
  case round =>
    obtain ⟨q, hq, rfl, ST⟩ := hrel
    have q0 : (0 : Int) ≤ (q : Int) := by omega
    have q1 : (q : Int) ≤ (c : Int) := by omega
    have q2 : (q : Int) ≤ (xs.length : Int) := by omega
    have cq := cT q hq
    have hT := HTL.out q
    have HQL := hid (HLT.out q)
    have HQN : Hid (q = n → W ≤ 2 * wtL (xs.take q)) := fun e => by rw [e]; exact HGE.out
    obtain ⟨T, hT2⟩ : ∃ T, wtL (xs.take q) = T := ⟨_, rfl⟩
    rw [hT2] at cq hT HQL HQN
    have ew : IntKind.i64.wrap (2 * (T : Int)) = 2 * (T : Int) := by rw [IntKind.wrap_i64]; omega
    clear hT2
    by_cases hqn : q < n
    · have hlt : ¬ (W : Int) ≤ 2 * (T : Int) := by have := HQL.out hqn; omega
      go_wp2_with fail
      refine (cq _ ST.out).mono ?_
      rintro e w3 ⟨rfl, s3⟩
      have S3 := hid (ST.out.trans s3)
      clear s3 cq
      go_wp2_with fail
      go_roundw
      case rel => exact ⟨q + 1, by omega, int_eq (by omega), S3⟩
      case measure => simp [intOf]; omega
    · obtain rfl : q = n := by omega
      have hge : (W : Int) ≤ 2 * (T : Int) := by have := HQN.out rfl; omega
      go_wp2_with fail
      refine (cq _ ST.out).mono ?_
      rintro e w3 ⟨rfl, s3⟩
      have S3 := hid (ST.out.trans s3)
      clear s3 cq
      go_wp2_with fail
      have tL : Hid ((xs.take q).length < xs.length ∧ OkIt (xs.take q) ∧ xs.take q ≠ [] ∧ (xs.take q).length = q) := by
        have hlen : (xs.take q).length = q := by simp; omega
        exact ⟨by omega, ⟨by omega, fun x hx => HOK.out.2 x (List.mem_of_mem_take hx)⟩, fun e => by rw [e] at hlen; simp at hlen; omega, hlen⟩
      have dL : Hid ((xs.drop q).length < xs.length ∧ OkIt (xs.drop q) ∧ xs.drop q ≠ [] ∧ (xs.drop q).length = xs.length - q) := by
        have hlen : (xs.drop q).length = xs.length - q := by simp
        exact ⟨by omega, ⟨by omega, fun x hx => HOK.out.2 x (List.mem_of_mem_drop hx)⟩, fun e => by rw [e] at hlen; simp at hlen; omega, hlen⟩
      have cA : ∀ w', Step noF w w' → Calls Try.prog 26 #[.slice (some ⟨g, off, none⟩) q c] w' fun e w'' => ∃ v qs, e = .returned v ∧ Hid (w''.ownsRow w'.heap.size 22 1 v qs.length (sls qs)) ∧ Hid (SubOf (some ⟨g, off, none⟩) (xs.take q) qs (partsIt (xs.take q)) ∧ qs.length ≤ 1000000) ∧ Hid (Step noF w' w'') := fun w' hs => by
        have := IH.out (xs.take q) g off c w' tL.out.1 tL.out.2.1 (by rw [tL.out.2.2.2]; omega) (rgsAt_take q (HR.out.step hs))
        rw [tL.out.2.2.2] at this
        refine this.mono ?_
        rintro e w'' ⟨v, qs, rfl, o, l, st⟩
        have hc := refParts_count _ tL.out.2.2.1 tL.out.2.1.2
        rw [← l.1, List.length_map] at hc
        have := tL.out.2.1.1
        exact ⟨v, qs, rfl, o, ⟨l, by omega⟩, st⟩
      have cB : ∀ w', Step noF w w' → Calls Try.prog 26 #[.slice (some ⟨g, off + q * 2, none⟩) (xs.length - q) (c - q)] w' fun e w'' => ∃ v qs, e = .returned v ∧ (∃ g2 cap2, v = .slice (some ⟨g2, 0, none⟩) qs.length cap2) ∧ Hid (w''.ownsRow w'.heap.size 22 1 v qs.length (sls qs)) ∧ Hid (SubOf (some ⟨g, off + q * 2, none⟩) (xs.drop q) qs (partsIt (xs.drop q)) ∧ qs.length ≤ 1000000 ∧ 1 ≤ qs.length) ∧ Hid (Step noF w' w'') := fun w' hs => by
        have := IH.out (xs.drop q) g (off + q * 2) (c - q) w' dL.out.1 dL.out.2.1 (by rw [dL.out.2.2.2]; omega) (rgsAt_drop q (HR.out.step hs))
        rw [dL.out.2.2.2] at this
        refine this.mono ?_
        rintro e w'' ⟨v, qs, rfl, o, l, st⟩
        have hc := refParts_count _ dL.out.2.2.1 dL.out.2.1.2
        have hp := List.length_pos_iff.2 (parts_good _ _ (Nat.le_refl _) dL.out.2.1.2).2.2.1
        rw [← l.1, List.length_map] at hc hp
        have := dL.out.2.1.1
        have hv2 : ∃ g2 cap2, v = .slice (some ⟨g2, 0, none⟩) qs.length cap2 := by
          rcases o.2 with ⟨_, h0⟩ | ⟨g2, cap2, cur2, rfl, _⟩
          · omega
          · exact ⟨g2, cap2, rfl⟩
        exact ⟨v, qs, rfl, hv2, o, ⟨l, by omega, hp⟩, st⟩
      have hfin : Hid (∀ (w' w7 : World) (v1 v7 : Value) (q1 q2 : List (Option Addr × Nat × List Rg)), Step noF w w' → (∀ b, v1.ownBlock = some b → w.heap.size ≤ b) → SubOf (some ⟨g, off, none⟩) (xs.take q) q1 (partsIt (xs.take q)) → SubOf (some ⟨g, off + q * 2, none⟩) (xs.drop q) q2 (partsIt (xs.drop q)) → w7.ownsRow 0 22 1 v7 (q1 ++ q2).length (sls (q1 ++ q2)) → w'.grownBy w7 v1.ownBlock → Fresh w' v1 v7 → RefParts w (some ⟨g, off, none⟩) xs (.returned v7) w7) := fun w' w7 v1 v7 q1 q2 st hb l1 l2 o7 g7 f7 => by
        refine ⟨v7, q1 ++ q2, rfl, owns_up2 o7 (fun k hk => ?_), ?_, st.grown g7 (fun k hk => .inr (hb k hk))⟩
        · rcases f7 with f | f
          · exact hb k (by rw [← f]; exact hk)
          · exact Nat.le_trans st.size (f k hk)
        · rw [HP.out]
          exact l1.append l2
      clear hT HQL HQN tL dL cT
      have hcq : ¬ c = q := by omega
      go_region_law (first
        | (refine step_calls rfl rfl Try.func26 (by kernel_rfl) (by kernel_rfl) (args := #[.slice (some ⟨g, off, none⟩) q c]) (by first | rfl | (simp [Act.eval, Act.put]; done) | (simp [Act.eval, Act.put, hcq]; done)) ?_; refine (cA _ (by first | exact S3.out.drewN _ | exact S3.out.drew | exact S3.out | exact U6.out)).mono ?_; rintro e w5 ⟨v1, q1, rfl, o5, l5, s5⟩; have U5 : Hid (Step noF w w5) := (by first | exact (S3.out.drewN _).trans s5.out | exact (S3.out.drew).trans s5.out | exact S3.out.trans s5.out | exact U6.out.trans s5.out); refine ⟨_, rfl, ?_⟩)
        | (refine step_calls rfl rfl Try.func26 (by kernel_rfl) (by kernel_rfl) (args := #[.slice (some ⟨g, off + q * 2, none⟩) (xs.length - q) (c - q)]) (by first | rfl | (simp [Act.eval, Act.put]; done) | (simp [Act.eval, Act.put, hcq]; done)) ?_; refine (cB _ (by first | exact S3.out.drewN _ | exact S3.out.drew | exact S3.out | exact U5.out)).mono ?_; rintro e w6 ⟨v2, q2, rfl, ⟨g2, cap2, rfl⟩, o6, l6, s6⟩; have U6 : Hid (Step noF w w6) := (by first | exact (S3.out.drewN _).trans s6.out | exact (S3.out.drew).trans s6.out | exact S3.out.trans s6.out | exact U5.out.trans s6.out); refine ⟨_, rfl, ?_⟩)
        | (refine step_append_own rfl _ _ 54 rfl 22 i0 (.slice none 0 0) 1 24 Try.underlying54 hi hz0 hz1 hz2 rfl (by decide) v1 q1.length (sls q1) (by first | rfl | (simp [Act.eval, Act.put]; done) | (simp [Act.eval, Act.put, hcq]; done)) (by first | exact owns_base (owns_step o5.out s6.out (fun _ _ h => h)) (Nat.zero_le _) | exact owns_base o5.out (Nat.zero_le _)) ⟨g2, 0, none⟩ q2.length cap2 (sls q2) (by first | rfl | (simp [Act.eval, Act.put]; done) | (simp [Act.eval, Act.put, hcq]; done)) (by rw [sls_length]; omega) (by first | exact o6.out.cells (g := g2) rfl | exact (owns_step o6.out s5.out (fun _ _ h => h)).cells (g := g2) rfl) (sls_one q2) (le_max (by have := l5.out.2; have := l6.out.2.1; omega)) (by have := l5.out.2; have := l6.out.2.1; omega) ?_; intro v7 w7 o7 g7 f7; have O7 := hid (show w7.ownsRow 0 22 1 v7 (q1 ++ q2).length (sls (q1 ++ q2)) by rw [List.length_append, sls_append]; exact o7); have F7 : Hid (RefParts w (some ⟨g, off, none⟩) xs (.returned v7) w7) := (by first | exact hfin.out w6 w7 v1 v7 q1 q2 U6.out (fun b hb => Nat.le_trans S3.out.size (o5.out.lt b hb).1) l5.out.1 l6.out.1 O7.out g7 f7 | exact hfin.out w5 w7 v1 v7 q1 q2 U5.out (fun b hb => Nat.le_trans U6.out.size (o5.out.lt b hb).1) l5.out.1 l6.out.1 O7.out g7 f7); clear o7 g7 f7))
      all_goals
        go_wp2_with fail
        go_ret
        exact F7.out

theorem refParts_any : ∀ (N : Nat) (xs : List Rg) (a : Option Addr) (c : Nat) (w : World), xs.length < N → OkIt xs → xs.length ≤ c → NilOk w a c → RgsAt w a xs → Calls Try.prog 26 #[.slice a xs.length c] w fun e w' => RefParts w a xs e w'
  | 0, xs, a, c, w, h, _, _, _, _ => absurd h (by omega)
  | N + 1, xs, a, c, w, hN, hok, hc, hn, hr => by
    by_cases hw : wtL xs ≤ 240
    · exact refParts_light xs hok hw a c w hr
    · have hne : xs ≠ [] := fun e => by rw [e] at hw; simp [wtL] at hw
      rcases hr with h | ⟨g, off, rfl, hg, hcells⟩
      · exact absurd h hne
      · refine refParts_rec xs hok (by omega) g off c hc w (.inr ⟨g, off, rfl, hg, hcells⟩) (fun ys g2 off2 c2 w2 h1 h2 h3 h4 => ?_)
        have hl : RgsAt w2 (some ⟨g2, off2, none⟩) ys := h4
        by_cases hw2 : wtL ys ≤ 240
        · exact refParts_light ys h2 hw2 _ c2 w2 h4
        · have hne2 : ys ≠ [] := fun e => by rw [e] at hw2; simp [wtL] at hw2
          have hg2 : g2 < w2.heap.size := by
            rcases h4 with h | ⟨b, o, e, hb, _⟩
            · exact absurd h hne2
            · injection e with e
              injection e with e1 _
              rw [e1]
              exact hb
          exact refParts_any N ys _ c2 w2 (by omega) h2 h3 ⟨(fun e => by cases e), fun ad e => ⟨g2, off2, (Option.some.inj e).symm, hg2⟩⟩ h4
end Go.Proofs.Ytclaagihmpghnaa
