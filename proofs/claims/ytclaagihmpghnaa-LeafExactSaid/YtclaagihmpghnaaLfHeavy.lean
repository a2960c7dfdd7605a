/-
  heavy: what the laws of layer 9 that take messages ask first; two rows of messages of one's own.
-/
import Derived.Test.YtclaagihmpghnaaLfK
namespace Go.Proofs.Ytclaagihmpghnaa
open Go.RowKit Go.Sort
set_option linter.unusedVariables false
set_option linter.unusedSimpArgs false
set_option maxRecDepth 20000

set_option maxHeartbeats 2000000 in
/-- heavy: true, or few messages of no great length. -/
theorem heavy_any (xs : List Mg) (hx : xs.length ≤ maxLen) (hq : ∀ x ∈ xs, x.key.length ≤ maxLen ∧ x.val.length ≤ maxLen) (a : Option Addr) (c : Nat) (w : World) (h : MsgsAt w noF a xs) :
    Calls Try.prog 10 #[.slice a xs.length c] w fun e w' => (e = .returned (.bool true) ∨ (e = .returned (.bool false) ∧ xs.length ≤ 40 ∧ ∀ x ∈ xs, x.key.length ≤ 512 ∧ x.val.length ≤ 512)) ∧ w = w' := by
  have hz := str_size
  have HR := hid h
  have HQ := hid hq
  unfold maxLen at hx
  clear h hq
  go_enter Try.func10, Try.ntmps10
  go_wp2_with fail
  go_loopg [3] 41 (fun kx s3 wr => ∃ (j : Nat), s3 = .int .i64 j ∧ j ≤ xs.length ∧ j ≤ 41 ∧ 41 - j ≤ kx ∧ wr = w ∧ Hid (∀ i (h : i < xs.length), i < j → xs[i].key.length ≤ 512 ∧ xs[i].val.length ≤ 512))
  case atStart => exact ⟨0, rfl, by omega, by omega, by omega, rfl, fun i _ h => absurd h (by omega)⟩
  case round =>
    obtain ⟨j, rfl, hj, hj2, hkx, rfl, HI⟩ := hrel
    by_cases hjl : j < xs.length
    · have hjz : (j : Int) < (xs.length : Int) := by omega
      by_cases hj41 : j < 41
      · have hjz2 : (j : Int) < 41 := by omega
        obtain ⟨g, off, rfl, _, c0, c1⟩ := HR.out.at j hjl
        have hb := HQ.out xs[j] (List.getElem_mem hjl)
        unfold maxLen at hb
        have HN : Hid (xs[j].key.length ≤ 512 → xs[j].val.length ≤ 512 → ∀ i (h : i < xs.length), i < j + 1 → xs[i].key.length ≤ 512 ∧ xs[i].val.length ≤ 512) := fun h1 h2 i hi hij => by
          rcases Nat.lt_or_eq_of_le (Nat.le_of_lt_succ hij) with e | e
          · exact HI.out i hi e
          · subst e; exact ⟨h1, h2⟩
        obtain ⟨⟨z, x, y⟩, hm⟩ : ∃ m, xs[j] = m := ⟨_, rfl⟩
        rw [hm] at c0 c1 HN hb
        clear hm
        simp only at hb
        obtain ⟨hb1, hb2⟩ := hb
        by_cases g1 : 512 < x.length
        · have gz1 : (512 : Int) < (x.length : Int) := by omega
          go_wp2_with fail
          go_ret
          exact ⟨.inl rfl, rfl⟩
        · have gz1 : ¬ (512 : Int) < (x.length : Int) := by omega
          by_cases g2 : 512 < y.length
          · have gz2 : (512 : Int) < (y.length : Int) := by omega
            go_wp2_with fail
            go_ret
            exact ⟨.inl rfl, rfl⟩
          · have gz2 : ¬ (512 : Int) < (y.length : Int) := by omega
            have HN2 := hid (HN.out (by simp; omega) (by simp; omega))
            go_wp2_with fail
            go_roundg (41 - (j + 1))
            case measure => omega
            case rel => exact ⟨j + 1, by simp, by omega, by omega, Nat.le_refl _, rfl, HN2⟩
      · have hjz2 : ¬ (j : Int) < 41 := by omega
        have hgr : (40 : Int) < (xs.length : Int) := by omega
        go_wp2_with fail
        go_ret
        exact ⟨.inl rfl, rfl⟩
    · have hjz : ¬ (j : Int) < (xs.length : Int) := by omega
      obtain rfl : j = xs.length := by omega
      by_cases hgr : 40 < xs.length
      · have hgz : (40 : Int) < (xs.length : Int) := by omega
        go_wp2_with fail
        go_ret
        exact ⟨.inl rfl, rfl⟩
      · have hgz : ¬ (40 : Int) < (xs.length : Int) := by omega
        go_wp2_with fail
        go_ret
        refine ⟨.inr ⟨rfl, by omega, fun x hx => ?_⟩, rfl⟩
        obtain ⟨i, hi, rfl⟩ := List.getElem_of_mem hx
        exact HI.out i hi hi

/-- A row of messages of one's own: its blocks are new since base. -/
def OwnMs (w : World) (base : Nat) (v : Value) (xs : List Mg) : Prop := w.ownsRow 0 58 3 v xs.length (msgs xs) ∧ ∀ k, v.ownBlock = some k → base ≤ k
theorem OwnMs.step {w w' : World} {base : Nat} {v : Value} {xs : List Mg} (h : OwnMs w base v xs) (hs : Step noF w w') : OwnMs w' base v xs := ⟨owns_step h.1 hs (fun _ _ x => x), h.2⟩
theorem OwnMs.row {w : World} {base : Nat} {v : Value} {xs : List Mg} (h : OwnMs w base v xs) : ∃ a c, v = .slice a xs.length c ∧ (a = none → c = 0) ∧ MsgsAt w noF a xs := by
  obtain ⟨a, c, rfl, _, h2⟩ := msgsAt_owns h.1 rfl
  exact ⟨a, c, rfl, owns_none h.1 a c rfl, h2⟩
theorem OwnMs.empty (w w0 : World) (hw : Step noF w0 w) : OwnMs (w.alloc (.cells #[] 58)) w0.heap.size (.slice (some ⟨w.heap.size, 0, none⟩) 0 0) [] := by
  refine ⟨⟨rfl, .inr ⟨w.heap.size, 0, #[], rfl, Nat.zero_le _, block_alloc_new w _, Nat.le_refl _, Nat.zero_le _, rfl, rfl⟩⟩, fun k hk => ?_⟩
  simp [Value.ownBlock] at hk
  have := hw.size
  omega
/-- Behind an append. -/
theorem OwnMs.grown {w w' : World} {base : Nat} {v v' : Value} {xs xs' : List Mg} (h : OwnMs w base v xs) (hb : base ≤ w.heap.size) (ho : w'.ownsRow 0 58 3 v' xs'.length (msgs xs')) (hf : Fresh w v v') : OwnMs w' base v' xs' := by
  refine ⟨ho, fun k hk => ?_⟩
  rcases hf with e | e
  · exact h.2 k (by rw [← e]; exact hk)
  · exact Nat.le_trans hb (e k hk)
/-- Two rows that don't meet. -/
def TwoMs (w : World) (base : Nat) (v1 v2 : Value) (xs ys : List Mg) : Prop := OwnMs w base v1 xs ∧ OwnMs w base v2 ys ∧ ∀ k, v1.ownBlock = some k → v2.ownBlock ≠ some k
theorem TwoMs.step {w w' : World} {base : Nat} {v1 v2 : Value} {xs ys : List Mg} (h : TwoMs w base v1 v2 xs ys) (hs : Step noF w w') : TwoMs w' base v1 v2 xs ys := ⟨h.1.step hs, h.2.1.step hs, h.2.2⟩
theorem TwoMs.symm {w : World} {base : Nat} {v1 v2 : Value} {xs ys : List Mg} (h : TwoMs w base v1 v2 xs ys) : TwoMs w base v2 v1 ys xs := ⟨h.2.1, h.1, fun k h1 h2 => h.2.2 k h2 h1⟩
theorem TwoMs.grown {w w' : World} {base : Nat} {v1 v1' v2 : Value} {xs xs' ys : List Mg} (h : TwoMs w base v1 v2 xs ys) (hb : base ≤ w.heap.size) (ho : w'.ownsRow 0 58 3 v1' xs'.length (msgs xs')) (hg : w.grownBy w' v1.ownBlock) (hf : Fresh w v1 v1') : TwoMs w' base v1' v2 xs' ys := by
  have hlt : ∀ k, v2.ownBlock = some k → k < w.heap.size := fun k hk => (h.2.1.1.lt k hk).2
  refine ⟨h.1.grown hb ho hf, ⟨owns_keep h.2.1.1 (fun k hk => hg.block k (hlt k hk) (fun e => h.2.2 k e.symm hk)), h.2.1.2⟩, fun k h1 h2 => ?_⟩
  rcases hf with e | e
  · exact h.2.2 k (by rw [← e]; exact h1) h2
  · have := e k h1
    have := hlt k h2
    omega
theorem OwnMs.after {w0 w w' : World} {base : Nat} {v : Value} {xs : List Mg} (hs : Step noF w0 w) (h : OwnMs w base v xs) (hb : w0.heap.size ≤ base) (hg : w.grownBy w' v.ownBlock) : Step noF w0 w' :=
  hs.grown hg (fun k hk => .inr (Nat.le_trans hb (h.2 k hk)))

theorem ms_new (w : World) (k : Int) (x y : List UInt8) : MsgsAt (w.alloc (.cells #[.int .i64 k, .string (str x), .string (str y)] 58)) noF (some ⟨w.heap.size, 0, none⟩) [⟨k, x, y⟩] := by
  have hb := block_alloc_new w (.cells #[.int .i64 k, .string (str x), .string (str y)] 58)
  refine .inr ⟨w.heap.size, 0, rfl, fun h => h, lt_of_block hb, fun j hj => ?_⟩
  obtain rfl : j = 0 := by simp at hj; omega
  exact ⟨by rw [cell_of_block hb]; rfl, by rw [cell_of_block hb]; rfl, by rw [cell_of_block hb]; rfl⟩
theorem OwnMs.of {w : World} {base n : Nat} {v : Value} {xs : List Mg} (h : w.ownsRow 0 58 3 v n (msgs xs)) (hn : n = xs.length) : w.ownsRow 0 58 3 v xs.length (msgs xs) := by
  subst hn
  exact h
/-- append of a row of messages, nil or not, onto a row of one's own. -/
theorem wpList_append_ms {w : World} {ops : Array Oper} {rest : List Oper} {o : Oper} {a : Act} {Q : Exit → Act → World → Prop} (hgd : o.guard = none) (s x : Operand)
    (ho : o.op = .call { callee := .builtin .append, args := #[s, x], argTypes := #[23, 23] })
    (v : Value) (xs : List Mg) (hs : a.eval s = v) (hown : w.ownsRow 0 58 3 v xs.length (msgs xs))
    (ad : Option Addr) (c : Nat) (ys : List Mg) (hx : a.eval x = .slice ad ys.length c) (hr : MsgsAt w noF ad ys) (hc : ad = none → c = 0)
    (hl : xs.length + ys.length ≤ 1000000000)
    (h : ∀ v' w', w'.ownsRow 0 58 3 v' (xs ++ ys).length (msgs (xs ++ ys)) → w.grownBy w' v.ownBlock → Fresh w v v' → wpList Try.prog ops Q rest (a.put o.dst v') w') : wpList Try.prog ops Q (o :: rest) a w := by
  obtain ⟨i0, hi, hz0, hz1, hz2⟩ := info_ms
  cases ad with
  | none =>
    obtain rfl : ys = [] := by
      rcases hr with h | ⟨b, off, h, _⟩
      · exact h
      · cases h
    obtain rfl := hc rfl
    refine wpList_append_own_none hgd s x _ ho 0 58 i0 3 Try.underlying23 hi v _ _ hs hown hx ?_
    have := h v w (by rw [List.append_nil]; exact hown) ⟨rfl, rfl, rfl, Nat.le_refl _, fun _ _ _ => rfl⟩ (.inl rfl)
    exact this
  | some ad =>
    have hn : ∀ j u, (msgs ys)[j]? = some u → w.cell? (Addr.add ad j) = some u := fun j u hj => by
      rcases hr with rfl | ⟨b, off, h1, h2⟩
      · simp [msgs] at hj
      · obtain rfl : ad = ⟨b, off, none⟩ := Option.some.inj h1
        exact msgsAt_cells h2.2.2 j u hj
    refine wpList_append_fresh hgd s x _ ho 58 i0 _ 3 40 Try.underlying23 hi hz0 hz1 hz2 rfl (by decide) v _ _ hs hown ad ys.length c (msgs ys) hx (msgs_length ys) hn (msgs_one ys) (le_max (by omega)) (by omega) ?_
    intro v' w' h1 h2 h3
    refine h v' w' ?_ h2 h3
    rw [List.length_append, show msgs (xs ++ ys) = msgs xs ++ msgs ys by simp [msgs]]
    exact h1
end Go.Proofs.Ytclaagihmpghnaa
