/-
  A leaf that is still made: pass, lift.
-/
import Derived.Test.YtnalillebemglaaGreatLfH
import Derived.Test.YtnalillebemglaaGreatLeafP
import Derived.Deep.RegionLaw
namespace Go.Proofs.YtnalillebemglaaGreat
open Go.RowKit Go.Sort
set_option linter.unusedVariables false
set_option linter.unusedSimpArgs false
set_option maxRecDepth 20000

/-- A row of items in blocks below b. -/
def RowBelow (w : World) (b : Nat) (a : Option Addr) (c : Nat) (xs : List Rg) : Prop := (a = none ∧ c = 0 ∧ xs = []) ∨ ∃ g off, a = some ⟨g, off, none⟩ ∧ g < b ∧ xs.length ≤ c ∧ ∀ j (h : j < xs.length), w.cell? ⟨g, off + j * 2, none⟩ = some (.string (str xs[j].lo)) ∧ w.cell? ⟨g, off + j * 2 + 1, none⟩ = some (.string (str xs[j].hi))
theorem RowBelow.step {w w' : World} {b : Nat} {P : Nat → Prop} {a : Option Addr} {c : Nat} {xs : List Rg} (h : RowBelow w b a c xs) (hs : Step (fun k => b ≤ k ∧ ¬ P k) w w') (hb : b ≤ w.heap.size) : RowBelow w' b a c xs := by
  rcases h with h | ⟨g, off, h1, h2, h3, h4⟩
  · exact .inl h
  · refine .inr ⟨g, off, h1, h2, h3, fun j hj => ?_⟩
    obtain ⟨a1, a2⟩ := h4 j hj
    have k : ∀ q, w'.cell? ⟨g, q, none⟩ = w.cell? ⟨g, q, none⟩ := fun q => hs.cell (p := ⟨g, q, none⟩) (fun x => by simp at x; omega) (by simp; omega)
    exact ⟨(k _).trans a1, (k _).trans a2⟩
theorem RowBelow.rgs {w : World} {b : Nat} {a : Option Addr} {c : Nat} {xs : List Rg} (h : RowBelow w b a c xs) (hb : b ≤ w.heap.size) : RgsAt w a xs := by
  rcases h with ⟨_, _, h⟩ | ⟨g, off, h1, h2, h3, h4⟩
  · exact .inl h
  · exact .inr ⟨g, off, h1, by omega, h4⟩
/-- The draft in block b: what is done is its own, behind b; the rest lies ahead of b; nothing of it lies in P. -/
def DraftAt (w : World) (b : Nat) (P : Nat → Prop) (D R : List Rg) : Prop := ∃ da dc a c, w.heap[b]? = some (.cells #[.slice da D.length dc, .slice a R.length c] 92 (0, 0)) ∧ w.ownsRow (b + 1) 42 2 (.slice da D.length dc) D.length (rgs D) ∧ RowBelow w b a c R ∧ ¬ P b ∧ ∀ k, (Value.slice da D.length dc).ownBlock = some k → ¬ P k
theorem draft_cells {w : World} {b : Nat} {x y : Value} {t : TypeId} (h : w.heap[b]? = some (.cells #[x, y] t (0, 0))) : w.cell? ⟨b, 0, none⟩ = some x ∧ w.cell? ⟨b, 1, none⟩ = some y ∧ w.frozen? ⟨b, 0, none⟩ = false ∧ w.frozen? ⟨b, 1, none⟩ = false := ⟨by rw [cell_of_block h]; rfl, by rw [cell_of_block h]; rfl, frozen_of_block h 0, frozen_of_block h 1⟩

theorem run_append_it {w : World} (ty : TypeId) (base : Nat) (v : Value) (xs : List Rg) (hown : w.ownsRow base 42 2 v xs.length (rgs xs)) (ad : Option Addr) (c : Nat) (ys : List Rg) (hr : RgsAt w ad ys) (hc : ad = none → c = 0) (hl : xs.length + ys.length ≤ 1000000000) (hbase : base ≤ w.heap.size) :
    ∃ v' w', (Builtin.append_ #[40, 40] ty #[v, .slice ad ys.length c]).run Tryz.prog w = .ok v' w' ∧ w'.ownsRow base 42 2 v' (xs ++ ys).length (rgs (xs ++ ys)) ∧ w.grownBy w' v.ownBlock ∧ Fresh w v v' := by
  obtain ⟨i0, hi, hz0, hz1, hz2⟩ := info_it
  cases ad with
  | none =>
    obtain rfl : ys = [] := by
      rcases hr with h | ⟨b, off, h, _⟩
      · exact h
      · cases h
    obtain rfl := hc rfl
    exact ⟨v, w, run_append_owned_none (P := Tryz.prog) w base 40 ty 42 i0 2 Tryz.underlying40 hi v _ _ hown, by rw [List.append_nil]; exact hown, ⟨rfl, rfl, rfl, Nat.le_refl _, fun _ _ _ => rfl⟩, .inl rfl⟩
  | some ad =>
    have hn : ∀ j u, (rgs ys)[j]? = some u → w.cell? (Addr.add ad j) = some u := fun j u hj => by
      rcases hr with rfl | ⟨b, off, h1, h2⟩
      · simp [rgs] at hj
      · obtain rfl : ad = ⟨b, off, none⟩ := Option.some.inj h1
        exact rgsAt_cells h2.2 j u hj
    obtain ⟨v', w', h1, h2, h3, h4⟩ := run_append_fresh (P := Tryz.prog) w 40 ty 42 i0 _ 2 32 Tryz.underlying40 hi hz0 hz1 hz2 rfl (by decide) v _ _ (owns_base hown (Nat.zero_le _)) ad ys.length c (rgs ys) (rgs_length ys) hn (rgs_one ys) (le_max (by omega)) (by omega)
    refine ⟨v', w', h1, owns_up (by rw [List.length_append, rgs_append]; exact h2) (fun k hk => ?_), h3, h4⟩
    rcases h4 with h4 | h4
    · rw [h4] at hk
      exact (hown.lt k hk).1
    · exact Nat.le_trans hbase (h4 k hk)
theorem step_append_it {ops : Array Oper} {o : Oper} {a : Act} {w : World} {K : Act → World → Prop} {Q : Exit → Act → World → Prop} {E : Prop}
    (hg : o.guard = none) (s x : Operand) (hop : o.op = Op.call { callee := Callee.builtin Builtin.append, args := #[s, x], argTypes := #[40, 40] })
    (base : Nat) (v : Value) (xs : List Rg) (hs : a.eval s = v) (hown : w.ownsRow base 42 2 v xs.length (rgs xs)) (ad : Option Addr) (c : Nat) (ys : List Rg) (hx : a.eval x = .slice ad ys.length c) (hr : RgsAt w ad ys) (hc : ad = none → c = 0) (hl : xs.length + ys.length ≤ 1000000000) (hbase : base ≤ w.heap.size)
    (hK : ∀ v' w', w'.ownsRow base 42 2 v' (xs ++ ys).length (rgs (xs ++ ys)) → w.grownBy w' v.ownBlock → Fresh w v v' → K (a.put o.dst v') w') :
    if Region.wanted o (yielded ops a.tmps) = true then Oper.wp Tryz.prog o a w K Q else E := by
  have hw : Region.wanted o (yielded ops a.tmps) = true := by simp [Region.wanted, hg]
  rw [if_pos hw]
  obtain ⟨v', w', hrun, r1, r2, r3⟩ := run_append_it o.type base v xs hown ad c ys hr hc hl hbase
  unfold Oper.wp
  simp [execOp, hop, resolve, invoke, builtin, hs, hx, hrun, Result.andThen]
  exact hK v' w' r1 r2 r3

/-- The draft behind an append to what is done. -/
theorem draft_app {w w' : World} {b : Nat} {P : Nat → Prop} {D : List Rg} {da : Option Addr} {dc : Nat} {R : Value} (hb : w.heap[b]? = some (.cells #[.slice da D.length dc, R] 92 (0, 0))) (ho : w.ownsRow (b + 1) 42 2 (.slice da D.length dc) D.length (rgs D)) (hg : w.grownBy w' (Value.slice da D.length dc).ownBlock) (hP : ∀ k, (Value.slice da D.length dc).ownBlock = some k → ¬ P k) :
    w'.heap[b]? = some (.cells #[.slice da D.length dc, R] 92 (0, 0)) ∧ Step (fun k => b ≤ k ∧ ¬ P k) w w' := by
  have hne : some b ≠ (Value.slice da D.length dc).ownBlock := fun e => by
    have := (ho.lt b e.symm).1
    omega
  refine ⟨(hg.block b (lt_of_block hb) hne).trans hb, ⟨hg.os, hg.tape, hg.output, hg.size, fun k hk hn => hg.block k hk (fun e => ?_)⟩⟩
  have := (ho.lt k e.symm).1
  exact hn ⟨by omega, hP k e.symm⟩

theorem le_dec (a b : List UInt8) : (decide (a < b) || decide (a = b)) = !decide (b < a) := by
  rw [Bool.eq_iff_iff]
  simp
  grind
/-- The draft behind the storing of both rows. -/
theorem draft_put {w : World} {b : Nat} {P : Nat → Prop} {D R : List Rg} {da a : Option Addr} {dc c : Nat} {x y : Value} (hb : w.heap[b]? = some (.cells #[x, y] 92 (0, 0))) (ho : w.ownsRow (b + 1) 42 2 (.slice da D.length dc) D.length (rgs D)) (hr : RowBelow w b a c R) (hp : ¬ P b) (hq : ∀ k, (Value.slice da D.length dc).ownBlock = some k → ¬ P k) :
    DraftAt ((w.setCell ⟨b, 0, none⟩ (.slice da D.length dc)).setCell ⟨b, 1, none⟩ (.slice a R.length c)) b P D R := by
  have hne : (Value.slice da D.length dc).ownBlock ≠ some b := fun e => by
    have := (ho.lt b e).1
    omega
  have h1 := block_setCell hb 0 (.slice da D.length dc)
  have h2 := block_setCell h1 1 (.slice a R.length c)
  refine ⟨da, dc, a, c, h2, owns_setCell (owns_setCell ho _ hne _) _ hne _, ?_, hp, hq⟩
  exact hr.step (P := P) (Step.setCell (p := ⟨b, 1, none⟩) (Step.setCell (p := ⟨b, 0, none⟩) (Step.refl _ w) (.inl ⟨Nat.le_refl _, hp⟩) _) (.inl ⟨Nat.le_refl _, hp⟩) _) (Nat.le_of_lt (lt_of_block hb))
theorem DraftAt.stepNo {w w' : World} {b : Nat} {P : Nat → Prop} {D R : List Rg} (h : DraftAt w b P D R) (hs : Step noF w w') : DraftAt w' b P D R := by
  obtain ⟨da, dc, a, c, hb, ho, hr, hpb, hpo⟩ := h
  exact ⟨da, dc, a, c, (hs.block b (lt_of_block hb) (fun x => x)).trans hb, owns_step ho hs (fun _ _ x => x), hr.step (P := P) (hs.mono (fun _ x => x.elim)) (Nat.le_of_lt (lt_of_block hb)), hpb, hpo⟩
theorem RowBelow.parts {w : World} {b g off c : Nat} {xs : List Rg} (h : RowBelow w b (some ⟨g, off, none⟩) c xs) (n : Nat) (hn : n ≤ xs.length) : xs.length ≤ c ∧ RowBelow w b (some ⟨g, off, none⟩) c (xs.take n) ∧ RowBelow w b (some ⟨g, off + n * 2, none⟩) (c - n) (xs.drop n) := by
  rcases h with ⟨h, _⟩ | ⟨g', off', h1, h2, h3, h4⟩
  · cases h
  · injection h1 with h1
    injection h1 with e1 e2
    subst e1
    subst e2
    refine ⟨h3, .inr ⟨g, off, rfl, h2, by simp; omega, fun j hj => ?_⟩, .inr ⟨g, off + n * 2, rfl, h2, by simp; omega, fun j hj => ?_⟩⟩
    · rw [List.getElem_take]
      exact h4 j (by simp at hj; omega)
    · rw [List.getElem_drop]
      have := h4 (n + j) (by simp at hj; omega)
      rw [show off + (n + j) * 2 = off + n * 2 + j * 2 by omega] at this
      exact this

theorem fresh_out {w : World} {P : Nat → Prop} {v v' : Value} (hf : Fresh w v v') (ho : ∀ k, v.ownBlock = some k → ¬ P k) (hP : ∀ j, P j → j < w.heap.size) : ∀ k, v'.ownBlock = some k → ¬ P k := fun k hk hp => by
  rcases hf with h | h
  · rw [h] at hk
    exact ho k hk hp
  · have := h k hk
    have := hP k hp
    omega
theorem row_nil {w : World} {b g off c : Nat} (hg : g < b) : RowBelow w b (some ⟨g, off, none⟩) c [] := .inr ⟨g, off, rfl, hg, Nat.zero_le _, fun j h => absurd h (by simp)⟩
theorem RowBelow.blk {w : World} {b g off c : Nat} {xs : List Rg} (h : RowBelow w b (some ⟨g, off, none⟩) c xs) : g < b := by
  rcases h with ⟨h, _⟩ | ⟨g', off', h1, h2, _⟩
  · cases h
  · injection h1 with h1
    injection h1 with e1 e2
    rw [e1]
    exact h2
set_option maxHeartbeats 2000000 in
theorem pass_any (b : Nat) (P : Nat → Prop) (D R : List Rg) (hl : D.length + R.length ≤ 1000000) (k : List UInt8) (w : World) (hP : ∀ j, P j → j < w.heap.size) (h : DraftAt w b P D R) :
    Calls Tryz.prog 76 #[.pointer (some ⟨b, 0, none⟩), .string (str k)] w fun e w' => e = .returned (.tuple #[]) ∧ DraftAt w' b P (D ++ R.take (passN k R)) (R.drop (passN k R)) ∧ Step (fun j => b ≤ j ∧ ¬ P j) w w' := by
  obtain ⟨da, dc, a, c, hb, ho, hr, hpb, hpo⟩ := h
  obtain ⟨k0, k1, z0, z1⟩ := draft_cells hb
  have hbs : b ≤ w.heap.size := Nat.le_of_lt (lt_of_block hb)
  have hL := less_str
  have hG := gt_dec
  have hE := same_str
  have HB := hid hb
  have HO := hid ho
  have HR := hid hr
  have HP0 := hid hP
  have HPB := hid hpb
  have HPO := hid hpo
  clear hb ho hr hP hpb hpo
  go_enter Tryz.func76, Tryz.ntmps76
  go_wp2_with fail
  go_loopg [4] R.length (fun kx s4 wr => ∃ (n : Nat), s4 = .int .i64 n ∧ n ≤ R.length ∧ R.length - n ≤ kx ∧ wr = w ∧ Hid (∀ j (h : j < R.length), j < n → ¬ k < R[j].lo))
  case atStart => exact ⟨0, rfl, by omega, by omega, rfl, fun j _ h => absurd h (by omega)⟩
  case round =>
    obtain ⟨n, rfl, hn, hkx, rfl, HI⟩ := hrel
    by_cases hnl : n < R.length
    · have hnz : (n : Int) < (R.length : Int) := by omega
      obtain ⟨g, off, rfl, c0, c1⟩ := (HR.out.rgs hbs).at n hnl
      have HK : Hid (¬ k < R[n].lo → ∀ j (h : j < R.length), j < n + 1 → ¬ k < R[j].lo) := fun h j hj hjn => by
        rcases Nat.lt_or_eq_of_le (Nat.le_of_lt_succ hjn) with e | e
        · exact HI.out j hj e
        · subst e; exact h
      have HP : Hid (k < R[n].lo → passN k R = n) := fun h => passN_eq k R n hn HI.out (fun _ => h)
      obtain ⟨x, hx⟩ : ∃ x, R[n].lo = x := ⟨_, rfl⟩
      rw [hx] at c0 HK HP
      clear hx c1
      by_cases hkx2 : k < x
      · have hx1 : ¬ x < k := lt_asymm' hkx2
        have hx2 : ¬ x = k := fun e => by rw [e] at hkx2; exact lt_irrefl' hkx2
        have HPN := hid (HP.out hkx2)
        have HSP := hid (HR.out.parts n hn)
        obtain ⟨hcl, hT, hDp⟩ := HSP.out
        have hT' := hid (hT.rgs hbs)
        have HDp := hid hDp
        have hlen : Hid ((R.take n).length = n) := by show _ = _; simp; omega
        have q1 : (n : Int) ≤ (c : Int) := by omega
        have q2 : (n : Int) ≤ (R.length : Int) := by omega
        have q3 : (0 : Int) ≤ (n : Int) := by omega
        have HLL : Hid (D.length + (R.take n).length ≤ 1000000000) := by show _ ≤ _; simp; omega
        have HB1 : Hid (b + 1 ≤ wr.heap.size) := lt_of_block HB.out
        clear hT hDp HSP
        go_wp2_with fail
        go_region_law (refine step_append_it rfl (.tmp 30) (.tmp 36) rfl (b + 1) (.slice da D.length dc) D (by first | rfl | (simp [Act.eval]; done)) (by exact HO.out) (some ⟨g, off, none⟩) c (R.take n) (by rw [hlen.out]; first | rfl | (simp [Act.eval]; done)) (by exact hT'.out) (by intro h; cases h) HLL.out (by exact HB1.out) ?_; intro v' w' ho' hg' hf'; obtain ⟨hb', hs'⟩ := draft_app (by exact HB.out) (by exact HO.out) hg' HPO.out; obtain ⟨e0, e1, e2, e3⟩ := draft_cells hb'; obtain ⟨ao, cc, rfl⟩ := owns_form ho'; have HB' := hid hb'; have HS' := hid hs'; have HO' := hid ho'; have HF' := hid hf'; clear hb' hs' ho' hg' hf')
        all_goals go_wp2_with fail
        all_goals go_end0
        all_goals
          refine ⟨rfl, ?_, ?_⟩
          · rw [HPN.out]
            have hrow : RowBelow w' b (some ⟨g, off + n * 2, none⟩) (c - n) (R.drop n) := HDp.out.step (((Step.refl (fun k => b ≤ k ∧ ¬ P k) wr).drew).trans HS'.out) hbs
            have := draft_put HB'.out HO'.out hrow HPB.out (fresh_out HF'.out HPO.out HP0.out)
            rw [List.length_drop, List.length_append, hlen.out] at this
            exact this
          · exact Step.setCell (p := ⟨b, 1, none⟩) (Step.setCell (p := ⟨b, 0, none⟩) (((Step.refl (fun k => b ≤ k ∧ ¬ P k) wr).drew).trans HS'.out) (.inl ⟨Nat.le_refl _, HPB.out⟩) _) (.inl ⟨Nat.le_refl _, HPB.out⟩) _
      · have HIN := hid (HK.out hkx2)
        by_cases hx2 : x = k
        · subst hx2
          go_wp2_with fail
          go_roundg (R.length - (n + 1))
          case measure => omega
          case rel => exact ⟨n + 1, by simp, by omega, Nat.le_refl _, rfl, HIN⟩
        · have hx1 : x < k := lt_or' hkx2 (fun e => hx2 e.symm)
          go_wp2_with fail
          go_roundg (R.length - (n + 1))
          case measure => omega
          case rel => exact ⟨n + 1, by simp, by omega, Nat.le_refl _, rfl, HIN⟩
    · have hnz : ¬ (n : Int) < (R.length : Int) := by omega
      have hnR : R.length ≤ n := by omega
      have HPN : Hid (passN k R = n) := passN_eq k R n hn HI.out (fun h => absurd h (by omega))
      have hr2 := HR.out
      rcases hr2 with ⟨rfl, rfl, rfl⟩ | ⟨g, off, rfl, _⟩
      · obtain rfl : n = 0 := by simpa using hn
        rw [List.length_nil] at k1
        have k1' : wr.cell? ⟨b, 1, none⟩ = some (.slice none 0 0) := k1
        have HLL : Hid (D.length + ([] : List Rg).length ≤ 1000000000) := by show _ ≤ _; simp; omega
        have HB1 : Hid (b + 1 ≤ wr.heap.size) := lt_of_block HB.out
        go_wp2_with fail
        go_region_law (refine step_append_it rfl (.tmp 30) (.tmp 36) rfl (b + 1) (.slice da D.length dc) D (by first | rfl | (simp [Act.eval]; done)) (by exact HO.out) none 0 [] (by first | rfl | (simp [Act.eval]; done)) (.inl rfl) (fun _ => rfl) HLL.out (by exact HB1.out) ?_; intro v' w' ho' hg' hf'; obtain ⟨hb', hs'⟩ := draft_app (by exact HB.out) (by exact HO.out) hg' HPO.out; obtain ⟨e0, e1, e2, e3⟩ := draft_cells hb'; obtain ⟨ao, cc, rfl⟩ := owns_form ho'; have HB' := hid hb'; have HS' := hid hs'; have HO' := hid ho'; have HF' := hid hf'; clear hb' hs' ho' hg' hf')
        all_goals go_wp2_with fail
        all_goals go_end0
        all_goals
          refine ⟨rfl, ?_, ?_⟩
          · have hrow : RowBelow w' b none 0 ([] : List Rg) := .inl ⟨rfl, rfl, rfl⟩
            have e := HO'.out
            rw [List.append_nil] at e
            have hfo := fresh_out HF'.out HPO.out HP0.out
            rw [List.append_nil] at hfo
            have := draft_put HB'.out e hrow HPB.out hfo
            simpa using this
          · exact Step.setCell (p := ⟨b, 1, none⟩) (Step.setCell (p := ⟨b, 0, none⟩) (((Step.refl (fun k => b ≤ k ∧ ¬ P k) wr).drew).trans HS'.out) (.inl ⟨Nat.le_refl _, HPB.out⟩) _) (.inl ⟨Nat.le_refl _, HPB.out⟩) _
      · have HSP := hid (HR.out.parts n hn)
        obtain ⟨hcl, hT, hDp⟩ := HSP.out
        have hT' := hid (hT.rgs hbs)
        have HDp := hid hDp
        have hlen : Hid ((R.take n).length = n) := by show _ = _; simp; omega
        have q1 : (n : Int) ≤ (c : Int) := by omega
        have q2 : (n : Int) ≤ (R.length : Int) := by omega
        have q3 : (0 : Int) ≤ (n : Int) := by omega
        have HLL : Hid (D.length + (R.take n).length ≤ 1000000000) := by show _ ≤ _; simp; omega
        have HB1 : Hid (b + 1 ≤ wr.heap.size) := lt_of_block HB.out
        clear hT hDp HSP
        go_wp2_with fail
        go_region_law (refine step_append_it rfl (.tmp 30) (.tmp 36) rfl (b + 1) (.slice da D.length dc) D (by first | rfl | (simp [Act.eval]; done)) (by exact HO.out) (some ⟨g, off, none⟩) c (R.take n) (by rw [hlen.out]; first | rfl | (simp [Act.eval]; done)) (by exact hT'.out) (by intro h; cases h) HLL.out (by exact HB1.out) ?_; intro v' w' ho' hg' hf'; obtain ⟨hb', hs'⟩ := draft_app (by exact HB.out) (by exact HO.out) hg' HPO.out; obtain ⟨e0, e1, e2, e3⟩ := draft_cells hb'; obtain ⟨ao, cc, rfl⟩ := owns_form ho'; have HB' := hid hb'; have HS' := hid hs'; have HO' := hid ho'; have HF' := hid hf'; clear hb' hs' ho' hg' hf')
        all_goals go_wp2_with fail
        all_goals go_end0
        all_goals
          refine ⟨rfl, ?_, ?_⟩
          · rw [HPN.out]
            have hnil : R.drop n = [] := List.drop_eq_nil_of_le hnR
            have elen : D.length + n = (D ++ R.take n).length := by rw [List.length_append, hlen.out]
            rw [hnil, elen]
            exact draft_put HB'.out HO'.out (row_nil HR.out.blk) HPB.out (fresh_out HF'.out HPO.out HP0.out)
          · exact Step.setCell (p := ⟨b, 1, none⟩) (Step.setCell (p := ⟨b, 0, none⟩) (((Step.refl (fun k => b ≤ k ∧ ¬ P k) wr).drew).trans HS'.out) (.inl ⟨Nat.le_refl _, HPB.out⟩) _) (.inl ⟨Nat.le_refl _, HPB.out⟩) _

end Go.Proofs.YtnalillebemglaaGreat
