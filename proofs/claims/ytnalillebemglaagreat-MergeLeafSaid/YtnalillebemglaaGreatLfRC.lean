/-
  The reference of layer 9: Of.
-/
import Derived.Test.YtnalillebemglaaGreatLfRB
import Derived.Laws.OwnMore
namespace Go.Proofs.YtnalillebemglaaGreat
open Go.RowKit Go.Sort
set_option linter.unusedVariables false
set_option linter.unusedSimpArgs false
set_option maxRecDepth 20000

theorem rgs_set (xs : List Rg) (k : Nat) (h : k < xs.length) (x : Rg) : ((rgs xs).set (k * 2) (.string (str x.lo))).set (k * 2 + 1) (.string (str x.hi)) = rgs (xs.set k x) := by
  induction xs generalizing k with
  | nil => simp at h
  | cons y ys ih =>
    cases k with
    | zero => simp [rgs]
    | succ k =>
      have := ih k (by simpa using h)
      simp only [rgs, List.flatMap_cons, List.set_cons_succ] at this ⊢
      rw [show (k + 1) * 2 = (k * 2) + 1 + 1 by omega]
      simpa using this
theorem OwnIt.cells {w : World} {base g n c : Nat} {xs : List Rg} (h : OwnIt w base (.slice (some ⟨g, 0, none⟩) n c) xs) (k : Nat) (hk : k < xs.length) : w.cell? ⟨g, k * 2, none⟩ = some (.string (str xs[k].lo)) ∧ w.cell? ⟨g, k * 2 + 1, none⟩ = some (.string (str xs[k].hi)) ∧ w.frozen? ⟨g, k * 2, none⟩ = false ∧ w.frozen? ⟨g, k * 2 + 1, none⟩ = false := by
  obtain ⟨r1, r2⟩ := rgs_at xs k hk
  have h1 := World.ownsRow.cells h (g := g) rfl _ _ r1
  have h2 := World.ownsRow.cells h (g := g) rfl _ _ r2
  rw [Addr.add_lit, Nat.zero_add] at h1 h2
  obtain ⟨_, hx | ⟨g', cap, cur, hv, hb, hg, _⟩⟩ := h
  · cases hx.1
  · injection hv with hv
    injection hv with hv
    injection hv with hv
    subst hv
    exact ⟨h1, h2, frozen_of_block hg _, frozen_of_block hg _⟩
theorem OwnIt.old {w : World} {base g n c : Nat} {xs : List Rg} (h : OwnIt w base (.slice (some ⟨g, 0, none⟩) n c) xs) (k : Nat) (hk : k < xs.length) : ∃ x y, w.cell? ⟨g, k * 2, none⟩ = some x ∧ w.cell? ⟨g, k * 2 + 1, none⟩ = some y ∧ w.frozen? ⟨g, k * 2, none⟩ = false ∧ w.frozen? ⟨g, k * 2 + 1, none⟩ = false := ⟨_, _, h.cells k hk⟩
theorem OwnIt.form {w : World} {base : Nat} {v : Value} {xs : List Rg} (h : OwnIt w base v xs) (hx : 0 < xs.length) : ∃ g c, v = .slice (some ⟨g, 0, none⟩) xs.length c ∧ base ≤ g := by
  obtain ⟨_, hx | ⟨g', cap, cur, hv, hb, hg, _⟩⟩ := h
  · omega
  · exact ⟨g', cap, hv, hb⟩
theorem OwnIt.put {w : World} {base g n c : Nat} {xs : List Rg} (h : OwnIt w base (.slice (some ⟨g, 0, none⟩) n c) xs) (hn : n = xs.length) (k : Nat) (hk : k < xs.length) (x : Rg) : OwnIt ((w.setCell ⟨g, k * 2, none⟩ (.string (str x.lo))).setCell ⟨g, k * 2 + 1, none⟩ (.string (str x.hi))) base (.slice (some ⟨g, 0, none⟩) n c) (xs.set k x) := by
  subst hn
  unfold OwnIt at h ⊢
  have hl := rgs_length xs
  have h1 := owns_put h (k * 2) (by omega) (.string (str x.lo))
  have h2 := owns_put h1 (k * 2 + 1) (by rw [List.length_set]; omega) (.string (str x.hi))
  rw [rgs_set xs k hk x] at h2
  rw [List.length_set]
  exact h2
theorem Step.put2 {F : Nat → Prop} {w w' : World} (h : Step F w w') (g : Nat) (hg : w.heap.size ≤ g) (p q : Nat) (x y : Value) : Step F w ((w'.setCell ⟨g, p, none⟩ x).setCell ⟨g, q, none⟩ y) :=
  (h.setCell (p := ⟨g, p, none⟩) (.inr hg) x).setCell (p := ⟨g, q, none⟩) (.inr hg) y
/-- A row that is shifted from its end down to q. -/
def shiftL (O : List Rg) (q : Nat) (y : Rg) : List Rg := O.take q ++ y :: O.drop q
theorem shift_length (O : List Rg) (q : Nat) (y : Rg) (h : q ≤ O.length) : (shiftL O q y).length = O.length + 1 := by
  unfold shiftL
  simp
  omega
theorem shift_end (O : List Rg) (y : Rg) : shiftL O O.length y = O ++ [y] := by
  unfold shiftL
  simp
theorem shift_at (O : List Rg) (q : Nat) (y : Rg) (h : q < O.length) (h2 : q < (shiftL O (q + 1) y).length) : (shiftL O (q + 1) y)[q] = O[q] := by
  have h3 : q < (O.take (q + 1)).length := by simp; omega
  have h4 : q < (O.take (q + 1) ++ y :: O.drop (q + 1)).length := by simp; omega
  show (O.take (q + 1) ++ y :: O.drop (q + 1))[q]'h4 = _
  rw [List.getElem_append_left h3, List.getElem_take]
theorem shift_set (O : List Rg) (q : Nat) (y x : Rg) (h : q ≤ O.length) : (shiftL O q y).set q x = shiftL O q x := by
  unfold shiftL
  rw [List.set_append_right _ _ (by simp; omega)]
  simp [Nat.min_eq_left h]
theorem shift_down (O : List Rg) (q : Nat) (h : q < O.length) : shiftL O (q + 1) O[q] = shiftL O q O[q] := by
  unfold shiftL
  conv => rhs; rw [List.drop_eq_getElem_cons h]
  rw [List.take_succ_eq_append_getElem h, List.append_assoc]
  rfl
theorem shift_ins (O : List Rg) (x : Rg) : shiftL O (belowN x.lo O) x = insL x O := (insL_eq x O).symm
theorem below_max {O : List Rg} (hR : Rising O) (k : List UInt8) (q : Nat) (h : q < O.length) : (k < O[q].lo → max (belowN k O) q = q) ∧ (O[q].lo ≠ k → ¬ k < O[q].lo → max (belowN k O) (q + 1) = max (belowN k O) q) := by
  constructor
  · intro hk
    have : belowN k O ≤ q := by
      rcases Nat.lt_or_ge q (belowN k O) with h1 | h1
      · exact absurd (below_lt k O q h h1) (lt_asymm' hk)
      · exact h1
    omega
  · intro hne hk
    have : q < belowN k O := by
      rcases Nat.lt_or_ge q (belowN k O) with h1 | h1
      · exact h1
      · exact absurd (lt_or' (below_ge k O hR q h h1) hne) hk
    omega
theorem ofE_one {xs : List Rg} {j : Nat} (hj : j < xs.length) (h : itOk xs[j] = false) : ofE xs = 1 := by
  unfold ofE
  rw [if_neg]
  intro h2
  have := List.all_eq_true.1 h2 _ (List.getElem_mem hj)
  rw [h] at this
  cases this
theorem ofE_okR {xs : List Rg} (h : ∀ i (h : i < xs.length), itOk xs[i] = true) : ofE xs = if (keysL xs).Nodup then 0 else 11 := by
  unfold ofE
  rw [if_pos]
  rw [List.all_eq_true]
  intro x hx
  obtain ⟨i, hi, rfl⟩ := List.getElem_of_mem hx
  exact h i hi
theorem keys_twin {xs : List Rg} {j : Nat} (hj : j < xs.length) (h : hasKey xs[j].lo (xs.take j)) : ¬ (keysL xs).Nodup := by
  intro hn
  have e : xs = xs.take (j + 1) ++ xs.drop (j + 1) := (List.take_append_drop _ _).symm
  rw [e] at hn
  unfold keysL at hn
  rw [List.map_append, List.nodup_append] at hn
  have h1 : (keysL (xs.take j ++ [xs[j]])).Nodup := by
    rw [← List.take_succ_eq_append_getElem hj]
    exact hn.1
  exact ((nodup_snoc _ _).1 h1).2 h
theorem OwnIt.of {w : World} {base n : Nat} {v : Value} {xs : List Rg} (h : w.ownsRow base 42 2 v n (rgs xs)) (hn : n = xs.length) : OwnIt w base v xs := by
  subst hn
  exact h
/-- What the reference's Of answers. -/
def RefOf (w : World) (xs : List Rg) (e : Ending) (w' : World) : Prop :=
  (ofE xs ≠ 0 ∧ e = .returned (.tuple #[.slice none 0 0, .int .i64 (ofE xs)])) ∨ (ofE xs = 0 ∧ ∃ v, e = .returned (.tuple #[v, .int .i64 0]) ∧ OwnIt w' w.heap.size v (sortL xs))

set_option maxHeartbeats 4000000 in
theorem refOf_any (xs : List Rg) (hl : xs.length ≤ 1000000) (hS : ∀ x ∈ xs, x.lo.length ≤ maxLen ∧ x.hi.length ≤ maxLen) (a : Option Addr) (c : Nat) (w : World) (h : RgsAt w a xs) :
    Calls Tryz.prog 37 #[.slice a xs.length c] w fun e w' => RefOf w xs e w' ∧ Step noF w w' := by
  have hz := str_size
  have h0 := nil_str
  have hE := same_str
  have hLe := less_str
  have hG := gt_dec
  have HR := hid h
  have HS := hid hS
  clear h hS
  go_enter Tryz.func37, Tryz.ntmps37
  go_wp2_with fail
  go_loopw [4] (fun i wr => ∃ (j : Nat), j ≤ xs.length ∧ i = .int .i64 j ∧ Hid (∀ i (h : i < xs.length), i < j → itOk xs[i] = true) ∧ Hid (Step noF w wr)) (fun i _ => xs.length - (intOf i).toNat)
  case atStart => exact ⟨0, Nat.zero_le _, rfl, fun i _ h => absurd h (by omega), Step.refl _ _⟩
  case round =>
    obtain ⟨j, hj, rfl, HO, ST⟩ := hrel
    by_cases hjl : j < xs.length
    · have hjz : (j : Int) < (xs.length : Int) := by omega
      obtain ⟨g, off, rfl, c0, c1⟩ := (HR.out.step ST.out).at j hjl
      have H1 : Hid (itOk xs[j] = false → ofE xs = 1) := ofE_one hjl
      have HN : Hid (itOk xs[j] = true → ∀ i (h : i < xs.length), i < j + 1 → itOk xs[i] = true) := fun h1 i hi hij => by
        rcases Nat.lt_or_eq_of_le (Nat.le_of_lt_succ hij) with e | e
        · exact HO.out i hi e
        · subst e; exact h1
      have hsz := HS.out xs[j] (List.getElem_mem hjl)
      obtain ⟨⟨x, y⟩, hm⟩ : ∃ m, xs[j] = m := ⟨_, rfl⟩
      rw [hm] at c0 c1 H1 HN hsz
      clear hm
      have cI := refIs_any x
      have hok : Hid (itOk ⟨x, y⟩ = (isK x && decide (y.length ≤ 16))) := rfl
      obtain ⟨D, hD⟩ : ∃ D, isK x = D := ⟨_, rfl⟩
      rw [hD] at cI hok
      clear hD
      unfold maxLen at hsz
      simp only at hsz
      cases D
      · have H2 : Hid (ofE xs = 1) := H1.out (by rw [hok.out]; rfl)
        clear H1 HN hok
        go_wp2_with fail
        refine (cI _).mono ?_
        rintro e w2 ⟨rfl, rfl⟩
        go_wp2_with fail
        go_ret2
        exact ⟨.inl ⟨by rw [H2.out]; decide, by rw [H2.out]; rfl⟩, ST.out⟩
      · by_cases hy : y.length ≤ 16
        · have H2 := hid (HN.out (by rw [hok.out]; simp [hy]))
          have hyz : ¬ (16 : Int) < (y.length : Int) := by omega
          clear H1 HN hok
          go_wp2_with fail
          refine (cI _).mono ?_
          rintro e w2 ⟨rfl, rfl⟩
          go_wp2_with fail
          go_roundw
          case rel => exact ⟨j + 1, by omega, int_eq (by omega), H2, ST.out⟩
          case measure => simp [intOf]; omega
        · have H2 : Hid (ofE xs = 1) := H1.out (by rw [hok.out]; simp [hy])
          have hyz : (16 : Int) < (y.length : Int) := by omega
          clear H1 HN hok
          go_wp2_with fail
          refine (cI _).mono ?_
          rintro e w2 ⟨rfl, rfl⟩
          go_wp2_with fail
          go_ret2
          exact ⟨.inl ⟨by rw [H2.out]; decide, by rw [H2.out]; rfl⟩, ST.out⟩
    · obtain rfl : j = xs.length := by omega
      have HOF : Hid (ofE xs = if (keysL xs).Nodup then 0 else 11) := ofE_okR (fun i hi => HO.out i hi hi)
      clear HO
      go_wp2_with fail
      have hN0 : Hid ((keysL (xs.take 0)).Nodup) := by show List.Nodup _; simp [keysL]
      have O0 : Hid (OwnIt (wr.alloc (.cells #[] 42)) w.heap.size (.slice (some ⟨wr.heap.size, 0, none⟩) 0 0) []) := (OwnIt.empty wr).weak ST.out.size
      have S0 : Hid (Step noF w (wr.alloc (.cells #[] 42))) := ST.out.alloc _
      clear ST
      go_loopw [6, 5] (fun i v wr => ∃ (j : Nat), j ≤ xs.length ∧ i = .int .i64 j ∧ Hid ((keysL (xs.take j)).Nodup) ∧ Hid (OwnIt wr w.heap.size v (sortL (xs.take j))) ∧ Hid (Step noF w wr)) (fun i _ _ => xs.length - (intOf i).toNat)
      case atStart => exact ⟨0, Nat.zero_le _, rfl, hN0, O0, S0⟩
      case round =>
        obtain ⟨j, hj, rfl, HN, HO, ST⟩ := hrel
        by_cases hjl : j < xs.length
        · have hjz : (j : Int) < (xs.length : Int) := by omega
          obtain ⟨g, off, rfl, c0, c1⟩ := (HR.out.step ST.out).at j hjl
          have HC : Hid (∀ w', Step noF w w' → w'.cell? ⟨g, off + j * 2, none⟩ = some (.string (str xs[j].lo)) ∧ w'.cell? ⟨g, off + j * 2 + 1, none⟩ = some (.string (str xs[j].hi))) := fun w' hs => by
            obtain ⟨g', off', e, d0, d1⟩ := (HR.out.step hs).at j hjl
            injection e with e
            injection e with e1 e2
            subst e1
            subst e2
            exact ⟨d0, d1⟩
          have HOR : Hid (Rising (sortL (xs.take j))) := sortL_rising _ HN.out
          have HOL : Hid ((sortL (xs.take j)).length = j) := by show _ = _; rw [sortL_length, List.length_take]; omega
          have HTW : Hid (hasKey xs[j].lo (sortL (xs.take j)) → ofE xs = 11) := fun h => by
            rw [HOF.out, if_neg (keys_twin hjl ((hasKey_sort _ _).1 h))]
          have HNX : Hid (¬ hasKey xs[j].lo (sortL (xs.take j)) → (keysL (xs.take (j + 1))).Nodup) := fun h => by
            rw [List.take_succ_eq_append_getElem hjl]
            exact (nodup_snoc _ _).2 ⟨HN.out, fun h2 => h ((hasKey_sort _ _).2 h2)⟩
          have HIN : Hid (sortL (xs.take (j + 1)) = insL xs[j] (sortL (xs.take j))) := sortL_take xs j hjl
          obtain ⟨O, hO⟩ : ∃ O, sortL (xs.take j) = O := ⟨_, rfl⟩
          rw [hO] at HOR HOL HTW HNX HIN HO
          obtain ⟨⟨x, y⟩, hm⟩ : ∃ m, xs[j] = m := ⟨_, rfl⟩
          rw [hm] at c0 c1 HTW HNX HIN HC
          clear hm hO
          simp only at HTW HNX c0 c1
          have hBl : belowN x O ≤ j := by have := belowN_le x O; rw [HOL.out] at this; exact this
          obtain ⟨B, hB⟩ : ∃ B, belowN x O = B := ⟨_, rfl⟩
          have HB := hid hB
          rw [hB] at hBl
          clear hB
          have HOW := HO
          obtain ⟨va, vc, hv, _, _, _⟩ := HO.out.row
          rw [HOL.out] at hv
          have hjle : j ≤ 1000000 := by omega
          have ej : IntKind.i64.wrap ((j : Int) - 1) = (j : Int) - 1 := by rw [IntKind.wrap_i64]; omega
          subst hv
          go_wp2_with fail
          have hb2 := hjl
          go_loopw [8, 7] (fun s8 s7 wr => ∃ (q : Nat), q ≤ j ∧ s8 = .int .i64 ((q : Int) - 1) ∧ s7 = .int .i64 ((max B q : Nat) : Int) ∧ Hid (∀ p (h : p < O.length), q ≤ p → O[p].lo ≠ x) ∧ Hid (OwnIt wr w.heap.size (.slice va j vc) O) ∧ Hid (Step noF w wr)) (fun s8 _ _ => (intOf s8 + 1).toNat)
          case atStart => exact ⟨j, Nat.le_refl _, int_eq (by omega), int_eq (by omega), (fun p h hp => by have := HOL.out; omega), HO, ST⟩
          case round =>
            obtain ⟨q, hq, h8, rfl, HNE, HO, ST⟩ := hrel
            have HTW2 := HTW
            by_cases hq0 : q = 0
            · have e8 : u8 = .int .i64 (-1) := by rw [h8, hq0]; rfl
              have e7 : max B q = B := by omega
              have HNK : Hid (¬ hasKey x O) := fun ⟨z, hz, e⟩ => by
                obtain ⟨p, hp, rfl⟩ := List.getElem_of_mem hz
                exact HNE.out p hp (by omega) e
              rw [e7]
              subst e8
              clear h8 hq0 e7 HNE HTW HTW2
              have HZ : Hid (RgsAt (wr.alloc (.cells #[.string (str []), .string (str [])] 42)) (some ⟨wr.heap.size, 0, none⟩) [⟨[], []⟩]) := rg_new wr [] []
              have HOZ : Hid ((wr.alloc (.cells #[.string (str []), .string (str [])] 42)).ownsRow w.heap.size 42 2 (.slice va j vc) O.length (rgs O)) := HO.out.step ((Step.refl noF wr).alloc _)
              have HSZ : Hid (w.heap.size ≤ (wr.alloc (.cells #[.string (str []), .string (str [])] 42)).heap.size) := (ST.out.alloc _).size
              have HLL : Hid (O.length + 1 ≤ 1000000000) := by show _ ≤ _; rw [HOL.out]; omega
              have SA : Hid (Step noF w (wr.alloc (.cells #[.string (str []), .string (str [])] 42))) := ST.out.alloc _
              go_wp2_with (at_builtin; refine wpList_append_it rfl _ _ rfl w.heap.size _ O rfl HOZ.out (some ⟨wr.heap.size, 0, none⟩) 1 [⟨[], []⟩] rfl HZ.out (by intro h; cases h) HLL.out HSZ.out ?_)
              intro v' w3 o3 g3
              have S3 : Hid (Step noF w w3) := OwnIt.after (xs := O) SA.out HOZ.out (Nat.le_refl _) g3
              have O3 : Hid (OwnIt w3 w.heap.size v' (O ++ [⟨[], []⟩])) := OwnIt.of o3 (by simp)
              clear o3 g3 SA HOZ HZ HSZ HLL HO ST
              obtain ⟨g2, c2, hv, _⟩ := O3.out.form (by simp)
              obtain ⟨n1, hn1⟩ : ∃ n1, (O ++ [(⟨[], []⟩ : Rg)]).length = n1 := ⟨_, rfl⟩
              have hn1j : n1 = j + 1 := by rw [← hn1, List.length_append, HOL.out]; rfl
              rw [hn1] at hv
              subst hv
              have O4 : Hid (OwnIt w3 w.heap.size (.slice (some ⟨g2, 0, none⟩) n1 c2) (shiftL O j ⟨[], []⟩)) := by
                have := O3.out
                rw [← shift_end, HOL.out] at this
                exact this
              clear O3 hn1
              subst hn1j
              have ez : (j : Int) + 1 - 1 = (j : Int) := by omega
              have ew : IntKind.i64.wrap (j : Int) = (j : Int) := by rw [IntKind.wrap_i64]; omega
              go_wp2_with fail
              go_loopw [9] (fun s9 wr => ∃ (q : Nat) (z : Rg), B ≤ q ∧ q ≤ j ∧ s9 = .int .i64 (q : Int) ∧ Hid (OwnIt wr w.heap.size (.slice (some ⟨g2, 0, none⟩) (j + 1) c2) (shiftL O q z)) ∧ Hid (Step noF w wr)) (fun s9 _ => (intOf s9).toNat)
              case atStart => exact ⟨j, ⟨[], []⟩, hBl, Nat.le_refl _, rfl, O4, S3⟩
              case round =>
                obtain ⟨q, z, hBq, hqj, rfl, OQ, SQ⟩ := hrel
                have hbase : Hid (w.heap.size ≤ g2) := by
                  have h1 := OQ.out.lt g2 rfl
                  exact h1.1
                by_cases hqB : B < q
                · obtain ⟨m, rfl⟩ : ∃ m, q = m + 1 := ⟨q - 1, by omega⟩
                  have hqz : (B : Int) < (m : Int) + 1 := by omega
                  have hmO : m < O.length := by have := HOL.out; omega
                  have hsl := hid (shift_length O (m + 1) z (by omega))
                  obtain ⟨p0, p1, _, _⟩ := OQ.out.cells m (by rw [hsl.out]; omega)
                  rw [shift_at O m z hmO] at p0 p1
                  obtain ⟨vx, vy, q0, q1, f0, f1⟩ := OQ.out.old (m + 1) (by rw [hsl.out]; omega)
                  have HP := hid (OQ.out.put (by rw [hsl.out, HOL.out]) (m + 1) (by rw [hsl.out]; omega) O[m])
                  rw [shift_set O (m + 1) z _ (by omega), shift_down O m hmO] at HP
                  have SP := fun x y => hid (SQ.out.put2 g2 hbase.out ((m + 1) * 2) ((m + 1) * 2 + 1) x y)
                  obtain ⟨⟨ox, oy⟩, hom⟩ : ∃ z, O[m] = z := ⟨_, rfl⟩
                  rw [hom] at p0 p1 HP
                  clear hom hsl
                  simp only at p0 p1
                  have mz : (m : Int) + 1 - 1 = (m : Int) := by omega
                  have mw : IntKind.i64.wrap (m : Int) = (m : Int) := by rw [IntKind.wrap_i64]; omega
                  have m1 : (m : Int) < (j : Int) + 1 := by omega
                  have m2 : (m : Int) + 1 < (j : Int) + 1 := by omega
                  have m3 : (0 : Int) ≤ (m : Int) + 1 := by omega
                  have m4 : ((m : Int) + 1).toNat = m + 1 := by omega
                  go_wp2_with fail
                  go_roundw
                  case rel => exact ⟨m, ⟨ox, oy⟩, by omega, by omega, rfl, HP, SP _ _⟩
                  case measure => simp [intOf]
                · obtain rfl : q = B := by omega
                  have hqz : ¬ (q : Int) < (q : Int) := by omega
                  have hsl := hid (shift_length O q z (by rw [HOL.out]; omega))
                  obtain ⟨vx, vy, q0, q1, f0, f1⟩ := OQ.out.old q (by rw [hsl.out, HOL.out]; omega)
                  have HP := hid (OQ.out.put (by rw [hsl.out, HOL.out]) q (by rw [hsl.out, HOL.out]; omega) ⟨x, y⟩)
                  rw [shift_set O q z _ (by rw [HOL.out]; omega)] at HP
                  have HP2 : Hid (shiftL O q ⟨x, y⟩ = sortL (xs.take (j + 1))) := by
                    show _ = _
                    rw [HIN.out, ← shift_ins]
                    show _ = shiftL O (belowN x O) _
                    rw [HB.out]
                  rw [HP2.out] at HP
                  have HN2 := hid (HNX.out HNK.out)
                  have SP := fun x y => hid (SQ.out.put2 g2 hbase.out (q * 2) (q * 2 + 1) x y)
                  have m1 : (q : Int) < (j : Int) + 1 := by omega
                  obtain ⟨c0', c1'⟩ : wr.cell? ⟨g, off + j * 2, none⟩ = some (.string (str x)) ∧ wr.cell? ⟨g, off + j * 2 + 1, none⟩ = some (.string (str y)) := HC.out wr SQ.out
                  clear c0 c1
                  go_wp2_with fail
                  go_roundw
                  case rel => exact ⟨j + 1, by omega, int_eq (by omega), HN2, HP, SP _ _⟩
                  case measure => simp [intOf]; omega
            · obtain ⟨m, rfl⟩ : ∃ m, q = m + 1 := ⟨q - 1, by omega⟩
              have e8 : u8 = .int .i64 (m : Int) := by rw [h8]; exact int_eq (by omega)
              subst e8
              have hmO : m < O.length := by have := HOL.out; omega
              have hmj : (m : Int) < (j : Int) := by omega
              have hm0 : (0 : Int) ≤ (m : Int) := by omega
              obtain ⟨g2, c2, hv, _⟩ := HO.out.form (by omega)
              rw [HOL.out] at hv
              injection hv with hv1 _ hv2
              subst hv1
              subst hv2
              obtain ⟨p0, p1, _, _⟩ := HO.out.cells m hmO
              have HBM := hid (below_max HOR.out x m hmO)
              have HKM : Hid (O[m].lo = x → hasKey x O) := fun e => ⟨O[m], List.getElem_mem hmO, e⟩
              have HNM : Hid (O[m].lo ≠ x → ∀ p (h : p < O.length), m ≤ p → O[p].lo ≠ x) := fun hne p hp hmp => by
                rcases Nat.lt_or_eq_of_le hmp with e | e
                · exact HNE.out p hp (by omega)
                · subst e; exact hne
              rw [HB.out] at HBM
              obtain ⟨⟨ox, oy⟩, hom⟩ : ∃ z, O[m] = z := ⟨_, rfl⟩
              rw [hom] at p0 p1 HBM HKM HNM
              clear hom h8 hq0 HNE
              simp only at p0 p1 HBM HKM HNM
              have mw : IntKind.i64.wrap ((m : Int) - 1) = (m : Int) - 1 := by rw [IntKind.wrap_i64]; omega
              obtain ⟨c0', c1'⟩ : wr.cell? ⟨g, off + j * 2, none⟩ = some (.string (str x)) ∧ wr.cell? ⟨g, off + j * 2 + 1, none⟩ = some (.string (str y)) := HC.out wr ST.out
              clear c0 c1
              by_cases hx1 : ox = x
              · have hdx : decide (ox = x) = true := decide_eq_true hx1
                have H2 : Hid (ofE xs = 11) := HTW.out (HKM.out hx1)
                subst hx1
                go_wp2_with fail
                go_quiet (fail)
                go_wp2_with fail
                go_ret2
                exact ⟨.inl ⟨by rw [H2.out]; decide, by rw [H2.out]; rfl⟩, ST.out.drewN _⟩
              · have HNM2 := hid (HNM.out hx1)
                by_cases hx2 : x < ox
                · have HB2 := hid (HBM.out.1 hx2)
                  have d1 : decide (ox < x) = false := decide_eq_false (lt_asymm' hx2)
                  have d2 : ¬ ox < x := lt_asymm' hx2
                  go_wp2_with fail
                  go_quiet (fail)
                  go_wp2_with fail
                  go_quiet (fail)
                  go_wp2_with fail
                  go_roundw
                  case rel => exact ⟨m, by omega, int_eq (by omega), int_eq (by rw [HB2.out]), HNM2, HO.out.step ((Step.refl noF _).drewN _), ST.out.drewN _⟩
                  case measure => simp [intOf]
                · have HB2 := hid (HBM.out.2 hx1 hx2)
                  have d1 : decide (ox < x) = true := decide_eq_true (lt_or' hx2 (fun e => hx1 e.symm))
                  have d2 : ox < x := lt_or' hx2 (fun e => hx1 e.symm)
                  go_wp2_with fail
                  go_quiet (fail)
                  go_wp2_with fail
                  go_quiet (fail)
                  go_wp2_with fail
                  go_roundw
                  case rel => exact ⟨m, by omega, int_eq (by omega), int_eq (by rw [HB2.out]), HNM2, HO.out.step ((Step.refl noF _).drewN _), ST.out.drewN _⟩
                  case measure => simp [intOf]
        · obtain rfl : j = xs.length := by omega
          have H2 : Hid (ofE xs = 0) := by
            have := HN.out
            rw [List.take_of_length_le (Nat.le_refl _)] at this
            rw [HOF.out, if_pos this]
            rfl
          have HO2 : Hid (OwnIt wr w.heap.size u5 (sortL xs)) := by
            have := HO.out
            rw [List.take_of_length_le (Nat.le_refl _)] at this
            exact this
          go_wp2_with fail
          go_ret2
          exact ⟨.inr ⟨H2.out, _, rfl, HO2.out⟩, ST.out⟩
end Go.Proofs.YtnalillebemglaaGreat
