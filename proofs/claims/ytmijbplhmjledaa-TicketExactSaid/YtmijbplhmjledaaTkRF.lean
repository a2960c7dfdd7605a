/-
  The document's pool: Use; rows of numbers that are the same.
-/
import Derived.Test.YtmijbplhmjledaaTkRC
import Derived.Test.YtmijbplhmjledaaTkJ
namespace Go.Proofs.Ytmijbplhmjledaa
open Go.RowKit
set_option linter.unusedVariables false
set_option linter.unusedSimpArgs false

/-- Blocks that were free and aren't. -/
def tkn (l l' : List Bool) (j : Nat) : Bool := l.getD j false && !l'.getD j false
def useC (l l' : List Bool) : Nat → Nat
  | 0 => 0
  | j + 1 => useC l l' j + if tkn l l' j then 1 else 0
def useI (l l' : List Bool) (is : List Int) : Nat → List Int
  | 0 => is
  | j + 1 => if tkn l l' j then (useI l l' is j).set j 1 else useI l l' is j
theorem useC_le (l l' : List Bool) : ∀ j, useC l l' j ≤ j
  | 0 => Nat.le_refl _
  | j + 1 => by have := useC_le l l' j; rw [useC]; split <;> omega
theorem useC_eq {l l' : List Bool} (hl : l'.length = l.length) (hs : ∀ k, l'.getD k false = true → l.getD k false = true) : ∀ j, j ≤ l.length → useC l l' j + (l'.take j).count true = (l.take j).count true
  | 0, _ => by simp [useC]
  | j + 1, h => by
    have ih := useC_eq hl hs j (by omega)
    rw [useC, take_snoc' _ _ (show j < l.length by omega), take_snoc' _ _ (show j < l'.length by omega), List.count_append, List.count_append, ← getD_lt false (show j < l.length by omega), ← getD_lt false (show j < l'.length by omega)]
    unfold tkn
    have h1 := hs j
    cases ha : l.getD j false <;> cases hb : l'.getD j false
    · simp; exact ih
    · rw [hb, ha] at h1; exact absurd (h1 rfl) (by decide)
    · simp; omega
    · simp; omega
theorem useC_free {l l' : List Bool} (hl : l'.length = l.length) (hs : ∀ k, l'.getD k false = true → l.getD k false = true) : (useC l l' l.length : Int) = freeL l - freeL l' := by
  have := useC_eq hl hs l.length (Nat.le_refl _)
  rw [List.take_length, List.take_of_length_le (by omega)] at this
  rw [freeL_eq, freeL_eq]; omega
theorem useI_len (l l' : List Bool) (is : List Int) : ∀ j, (useI l l' is j).length = is.length
  | 0 => rfl
  | j + 1 => by rw [useI]; split; rw [List.length_set, useI_len l l' is j]; exact useI_len l l' is j
theorem useI_at (l l' : List Bool) (is : List Int) (k : Nat) : ∀ j, j ≤ is.length → (useI l l' is j).getD k 0 = if k < j ∧ tkn l l' k = true then 1 else is.getD k 0
  | 0, _ => by rw [useI, if_neg (by omega)]
  | j + 1, h => by
    rw [useI]
    cases ht : tkn l l' j
    · rw [if_neg (by decide), useI_at l l' is k j (by omega)]
      by_cases h3 : k < j ∧ tkn l l' k = true
      · rw [if_pos h3, if_pos ⟨by omega, h3.2⟩]
      · rw [if_neg h3, if_neg]
        rintro ⟨h4, h5⟩
        by_cases e : k = j
        · rw [e, ht] at h5; cases h5
        · exact h3 ⟨by omega, h5⟩
    · rw [if_pos rfl, getD_set _ _ _ _ _ (by rw [useI_len]; omega), useI_at l l' is k j (by omega)]
      by_cases e : k = j
      · rw [if_pos e, if_pos ⟨by omega, by rw [e]; exact ht⟩]
      · rw [if_neg e]
        by_cases h3 : k < j ∧ tkn l l' k = true
        · rw [if_pos h3, if_pos ⟨by omega, h3.2⟩]
        · rw [if_neg h3, if_neg (fun x => h3 ⟨by omega, x.2⟩)]
theorem useI_all {t : Tk} (hw : Wf t) {l' : List Bool} (hl : l'.length = t.l.length) (hs : ∀ k, l'.getD k false = true → t.l.getD k false = true) : useI t.l l' (kindsL t.l t.d) (kindsL t.l t.d).length = kindsL l' t.d := by
  refine ext_getI (by rw [useI_len, kindsL_len, kindsL_len, hl]) (fun k hk => ?_)
  rw [useI_len, kindsL_len] at hk
  rw [useI_at _ _ _ _ _ (Nat.le_refl _), kindsL_len, kindsL_at _ _ _ hk, kindsL_at _ _ _ (by rw [hl]; exact hk)]
  unfold tkn kindAt
  have h1 := hs k
  cases ha : t.l.getD k false
  · cases hb : l'.getD k false
    · simp
    · rw [hb, ha] at h1; exact absurd (h1 rfl) (by decide)
  · rw [hw.apart k ha]
    cases hb : l'.getD k false <;> simp [hk]
theorem kind_three {t : Tk} (hw : Wf t) (k : Nat) : kindAt t.l t.d k = 3 ↔ t.l.getD k false = true := by
  unfold kindAt
  cases ha : t.l.getD k false
  · cases t.d.getD k false <;> simp
  · rw [hw.apart k ha]; simp

set_option maxHeartbeats 4000000 in
theorem ruse_any (w : World) (u : Nat) (G : Nat → Prop) (t : Tk) (hw : Wf t) (h : Rf w u G t) (hl : t.hs.length ≤ 700000) (a : Option Addr) (c n : Nat) (xs : List (Int × Int)) (hn : xs.length = n) (hx : ExtAt w a xs) (hb : ∀ x ∈ xs, x.1 ≤ 9223372036854775807) (hxl : xs.length ≤ 9223372036854775807) (E : Int) (t' : Tk) (e1 : useE t xs = E) (e2 : useT t xs = t') :
    Calls Try.prog 33 #[.pointer (some ⟨u, 0, none⟩), .slice a n c] w fun e w' => e = .returned (.int .i64 E) ∧ Step G w w' ∧ Rf w' u (Grew G w w') t' := by
  subst hn
  have HP := hid h
  have HX := hid (And.intro hx (And.intro hb hxl))
  have cf := rfrees_any w u G t hw _ _ h
  have HW := hid hw
  have HE1 := hid e1
  have HE2 := hid e2
  clear h hx hb hxl e1 e2 hw
  go_enter Try.func33, Try.ntmps33
  go_wp2_with fail
  refine cf.mono ?_
  rintro e w1 ⟨gf, rfl, s1, hrow⟩
  have cs := refSet_any w1 _ t.l hrow false a c xs.length xs rfl (HX.out.1.step s1) HX.out.2.1 HX.out.2.2
  obtain ⟨E0, hE0⟩ : ∃ E0, setE false t.l xs = E0 := ⟨_, rfl⟩
  rw [hE0] at cs
  have HE0 := hid hE0
  clear hrow hE0 cf
  go_wp2_with fail
  refine cs.mono ?_
  rintro e w2 ⟨rv, rfl, hr2, s2⟩
  have S2 := hid (s1.trans s2)
  have HR2 := hid hr2
  by_cases k0 : E0 = 0
  · subst k0
    obtain ⟨l', hl'⟩ : ∃ l', setL false t.l xs = l' := ⟨_, rfl⟩
    rw [hl'] at HR2
    have HL := hid (show l'.length = t.l.length by rw [← hl']; exact setL_len _ _ _)
    have HSUB : Hid (∀ k, l'.getD k false = true → t.l.getD k false = true) := fun k hk => take_sub (xs := xs) k (by rw [hl']; exact hk)
    have HUE : Hid (E = if freeL l' - heldL t.hs - t.r < 0 then 9 else 0) := by
      show _ = _
      rw [← HE1.out, useE, if_pos HE0.out, hl']
    have HUT : Hid (t' = if E = 0 then ⟨l', t.d, t.r, t.hs⟩ else t) := by
      show _ = _
      rw [← HE2.out, useT, HE1.out, hl']
    clear hl' hr2 s1 s2 cs
    have hn2 := HW.out.n2
    obtain ⟨_, _, gl, cl, rfl, hcl, hrl⟩ := id HR2.out
    obtain ⟨ia, ic, sa, sc, hb, ho, hs, g1, g2, g3, g4⟩ := IsRf.len (HP.out.step S2.out)
    have HB := hid hb
    have HO := hid ho
    have HS := hid hs
    have HGG := hid (And.intro g1 (And.intro g2 (And.intro g3 g4)))
    have HKL := hid (kindsL_len t.l t.d)
    have HRL := hid hrl
    obtain ⟨c0, _, _⟩ := cells3 hb
    obtain ⟨N, hN⟩ : ∃ N, t.l.length = N := ⟨_, rfl⟩
    have HN := hid hN
    rw [HKL.out, hN] at c0 HB HO HGG
    rw [HL.out, hN] at hcl
    rw [hN] at hn2
    have hll : l'.length = N := HL.out.trans hN
    rw [hll]
    have HLL := hid hll
    clear hb ho hs g1 g2 g3 g4 hrl hN hll
    have h3 : Hid (∀ j, j < N → ((kindsL t.l t.d).getD j 0 = 3 ↔ t.l.getD j false = true)) := fun j hj => by rw [kindsL_at _ _ _ (by rw [HN.out]; exact hj)]; exact kind_three HW.out j
    go_wp2_with fail
    go_loopw [7, 8] (fun cv i wr => ∃ j : Nat, j ≤ N ∧ i = .int .i64 j ∧ cv = .int .i64 (useC t.l l' j) ∧ wr = w2) (fun _ i _ => N - (intOf i).toNat)
    case atStart => exact ⟨0, Nat.zero_le _, rfl, rfl, rfl⟩
    case round =>
      obtain ⟨j, hj, rfl, rfl, rfl⟩ := hrel
      have hcle := useC_le t.l l' j
      by_cases hjn : j < N
      · have hji : (j : Int) < (N : Int) := by omega
        have ho' : wr.ownsRow 0 3 1 (.slice ia N ic) (kindsL t.l t.d).length (intsOf (kindsL t.l t.d)) := by rw [HKL.out, HN.out]; exact HO.out
        obtain ⟨gi, c', he, hcl2, hc, hfz⟩ := owns_cell ho' j (by rw [HKL.out, HN.out]; exact hjn)
        rw [HKL.out, HN.out] at he
        injection he with he1 he2 he3
        subst he1 he3
        have hcb : wr.cell? ⟨gl, j, none⟩ = some (.bool (l'.getD j false)) := by
          have := HRL.out.cell j (by rw [bools_length, HLL.out]; exact hjn)
          rw [bools_at, ← getD_lt false (by rw [HLL.out]; exact hjn)] at this
          exact this
        have hiff := h3.out j hjn
        have hcc : Hid (useC t.l l' (j + 1) = useC t.l l' j + if tkn t.l l' j then 1 else 0) := rfl
        obtain ⟨C, hC⟩ : ∃ C, useC t.l l' j = C := ⟨_, rfl⟩
        obtain ⟨y, hy⟩ : ∃ y, (kindsL t.l t.d).getD j 0 = y := ⟨_, rfl⟩
        rw [hy] at hc hiff
        rw [hC] at hcc hcle ⊢
        clear ho' hy hC
        unfold tkn at hcc
        by_cases e : y = 3
        · subst e
          rw [hiff.1 rfl] at hcc
          cases hb : l'.getD j false
          · rw [hb] at hcb hcc
            clear hiff hb
            go_wp2_with fail
            go_roundw
            case rel => exact ⟨j + 1, by omega, int_eq (by omega), int_eq (by rw [hcc.out]; simp), (by first | trivial | rfl)⟩
            case measure => simp [intOf]; omega
          · rw [hb] at hcb hcc
            clear hiff hb
            go_wp2_with fail
            go_roundw
            case rel => exact ⟨j + 1, by omega, int_eq (by omega), int_eq (by rw [hcc.out]; simp), (by first | trivial | rfl)⟩
            case measure => simp [intOf]; omega
        · have hlf : t.l.getD j false = false := by
            cases hb : t.l.getD j false with
            | false => rfl
            | true => exact absurd (hiff.2 hb) e
          rw [hlf] at hcc
          clear hiff hlf
          go_wp2_with fail
          go_roundw
          case rel => exact ⟨j + 1, by omega, int_eq (by omega), int_eq (by rw [hcc.out]; simp), (by first | trivial | rfl)⟩
          case measure => simp [intOf]; omega
      · obtain rfl : j = N := by omega
        have hCC : (useC t.l l' j : Int) = freeL t.l - freeL l' := by rw [← HN.out]; exact useC_free HL.out HSUB.out
        obtain ⟨C, hC⟩ : ∃ C, useC t.l l' j = C := ⟨_, rfl⟩
        rw [hC] at hCC hcle ⊢
        obtain ⟨L, hL⟩ : ∃ L, leftT t = L := ⟨_, rfl⟩
        have clf := rleft_any wr u G t HW.out (HP.out.step S2.out) hl L hL
        have hdec : freeL l' - heldL t.hs - t.r < 0 ↔ L < (C : Int) := by rw [← hL]; unfold leftT; omega
        by_cases k1 : L < (C : Int)
        · have hE9 : Hid (E = 9 ∧ t' = t) := by
            have e9 : E = 9 := by rw [HUE.out, if_pos (hdec.2 k1)]
            exact ⟨e9, by rw [HUT.out, e9]; rfl⟩
          clear hC hCC hdec hL
          go_wp2_with fail
          refine clf.mono ?_
          rintro e w3 ⟨rfl, s3⟩
          go_wp2_with fail
          go_ret
          rw [hE9.out.1, hE9.out.2]
          exact ⟨rfl, rf_same HP.out (S2.out.trans s3)⟩
        · have hE0' : Hid (E = 0 ∧ t' = ⟨l', t.d, t.r, t.hs⟩) := by
            have e9 : E = 0 := by rw [HUE.out, if_neg (fun x => k1 (hdec.1 x))]
            exact ⟨e9, by rw [HUT.out, if_pos e9]⟩
          have HA := hid (useI_all HW.out HL.out HSUB.out)
          clear hC hCC hdec hL
          go_wp2_with fail
          refine clf.mono ?_
          rintro e w3 ⟨rfl, s3⟩
          obtain ⟨is, his⟩ : ∃ is, kindsL t.l t.d = is := ⟨_, rfl⟩
          have HBw := hid ((s3.block u (lt_of_block HB.out) (fun x => x)).trans HB.out)
          have HOw := hid (owns_step HO.out s3 (fun _ _ x => x))
          have HSw := hid (owns_step HS.out s3 (fun _ _ x => x))
          have HRLw := hid (HRL.out.step s3 (fun x => x))
          have HG3 : Hid (∀ k, G k → k < w3.heap.size) := fun k hk => Nat.lt_of_lt_of_le (HP.out.1 k hk) (S2.out.trans s3).size
          have S3 := hid (S2.out.trans s3)
          rw [his] at HA HOw h3 HKL
          have HNE : Hid (∀ k, (Value.slice ia j ic).ownBlock = some k → k ≠ u ∧ k ≠ gl) := fun k hk => by
            obtain ⟨A, hA⟩ := owns_block HOw.out k hk
            obtain ⟨B, r, hB, _⟩ := HRLw.out
            exact ⟨ne_of_types hA HBw.out (by decide), ne_of_types hA hB (by decide)⟩
          clear s3 clf
          go_wp2_with fail
          go_loopw [9] (fun i wr2 => ∃ q : Nat, q ≤ j ∧ i = .int .i64 q ∧ Step (fun k => (Value.slice ia j ic).ownBlock = some k) w3 wr2 ∧ wr2.ownsRow 0 3 1 (.slice ia j ic) j (intsOf (useI t.l l' is q))) (fun i _ => j - (intOf i).toNat)
          case atStart => exact ⟨0, Nat.zero_le _, rfl, Step.refl _ _, HOw.out⟩
          case round =>
            obtain ⟨q, hq, rfl, hst, hown⟩ := hrel
            have hbu := (hst.block u (lt_of_block HBw.out) (fun e => (HNE.out u e).1 rfl)).trans HBw.out
            obtain ⟨c0', _, _⟩ := cells3 hbu
            by_cases hqn : q < j
            · have hqi : (q : Int) < (j : Int) := by omega
              have hlu : (useI t.l l' is q).length = j := by rw [useI_len, HKL.out, HN.out]
              have ho' : wr.ownsRow 0 3 1 (.slice ia j ic) (useI t.l l' is q).length (intsOf (useI t.l l' is q)) := by rw [hlu]; exact hown
              obtain ⟨gi, c', he, hcl2, hc, hfz⟩ := owns_cell ho' q (by rw [hlu]; exact hqn)
              rw [hlu] at he
              injection he with he1 he2 he3
              subst he1 he3
              rw [useI_at _ _ _ _ _ (by rw [HKL.out, HN.out]; omega), if_neg (by omega)] at hc
              have hrow := HRLw.out.step hst (fun e => (HNE.out gl e).2 rfl)
              have hcb : wr.cell? ⟨gl, q, none⟩ = some (.bool (l'.getD q false)) := by
                have := hrow.cell q (by rw [bools_length, HLL.out]; exact hqn)
                rw [bools_at, ← getD_lt false (by rw [HLL.out]; exact hqn)] at this
                exact this
              have hiff := h3.out q hqn
              have hcc : Hid (useI t.l l' is (q + 1) = if tkn t.l l' q then (useI t.l l' is q).set q 1 else useI t.l l' is q) := rfl
              obtain ⟨y, hy⟩ : ∃ y, is.getD q 0 = y := ⟨_, rfl⟩
              rw [hy] at hc hiff
              have HST := hid hst
              have HOW := hid hown
              have HLU := hid hlu
              clear ho' hy hrow hst hown hbu hlu
              unfold tkn at hcc
              by_cases e : y = 3
              · subst e
                rw [hiff.1 rfl] at hcc
                cases hb : l'.getD q false
                · rw [hb] at hcb hcc
                  clear hiff hb
                  go_wp2_with fail
                  go_roundw
                  case rel =>
                    refine ⟨q + 1, by omega, int_eq (by omega), HST.out.setCell (p := ⟨gi, q, none⟩) (.inl rfl) _, ?_⟩
                    have e2 : useI t.l l' is (q + 1) = (useI t.l l' is q).set q 1 := by rw [hcc.out]; rfl
                    rw [e2, ← intsOf_set]
                    exact owns_put HOW.out q (by rw [intsOf_length, HLU.out]; exact hqn) _
                  case measure => simp [intOf]; omega
                · rw [hb] at hcb hcc
                  clear hiff hb
                  go_wp2_with fail
                  go_roundw
                  case rel => exact ⟨q + 1, by omega, int_eq (by omega), HST.out, by rw [hcc.out]; exact HOW.out⟩
                  case measure => simp [intOf]; omega
              · have hlf : t.l.getD q false = false := by
                  cases hb : t.l.getD q false with
                  | false => rfl
                  | true => exact absurd (hiff.2 hb) e
                rw [hlf] at hcc
                clear hiff hlf
                go_wp2_with fail
                go_roundw
                case rel => exact ⟨q + 1, by omega, int_eq (by omega), HST.out, by rw [hcc.out]; exact HOW.out⟩
                case measure => simp [intOf]; omega
            · obtain rfl : q = j := by omega
              go_wp2_with fail
              go_ret
              rw [hE0'.out.1, hE0'.out.2]
              obtain ⟨p1, p2, p3, p4⟩ := HGG.out
              have hil : is.length = q := HKL.out.trans HN.out
              have x := IsRf.newIs (is := is) (sz := t.hs) (is' := useI t.l l' is q) (sv := .slice sa t.hs.length sc) HG3.out HBw.out (by rw [hil]; exact HOw.out) HSw.out p1 p2 p3 p4 (hst.mono (fun k hk => .inl (.inr hk))) hbu (by rw [useI_len, hil]; exact hown) (.inl rfl)
              have e3 : useI t.l l' is q = kindsL l' t.d := by rw [← hil]; exact HA.out
              rw [e3] at x
              exact ⟨rfl, rf_after HP.out.1 S3.out x⟩
  · have hbad := set_bad (b := false) (l := t.l) (xs := xs) (by rw [HE0.out]; exact k0)
    have hEt : Hid (E = E0 ∧ t' = t) := by
      have e9 : E = E0 := by rw [← HE1.out, useE, HE0.out, if_neg k0]
      exact ⟨e9, by rw [← HE2.out, useT, HE1.out, e9, if_neg k0]⟩
    clear hbad hr2 HR2
    go_wp2_with fail
    go_ret
    rw [hEt.out.1, hEt.out.2]
    exact ⟨rfl, rf_same HP.out S2.out⟩

set_option maxHeartbeats 1000000 in
theorem ints_any (w : World) (a b : Option Addr) (c d n m : Nat) (zs : List Int) (hn : zs.length = n) (hm : zs.length = m) (h1 : RowAt w noF a (intsOf zs)) (h2 : RowAt w noF b (intsOf zs)) (hl : zs.length ≤ 1000000) :
    Calls Try.prog 20 #[.slice a n c, .slice b m d] w fun e w' => e = .returned (.bool true) ∧ Step noF w w' := by
  subst hn
  subst hm
  have H1 := hid h1
  have H2 := hid h2
  clear h1 h2
  go_enter Try.func20, Try.ntmps20
  go_wp2_with fail
  go_loopw [5] (fun i wr => ∃ j : Nat, j ≤ zs.length ∧ i = .int .i64 j ∧ Step noF w wr) (fun i _ => zs.length - (intOf i).toNat)
  case atStart => exact ⟨0, Nat.zero_le _, rfl, Step.refl _ _⟩
  case round =>
    obtain ⟨j, hj, rfl, hst⟩ := hrel
    by_cases hjn : j < zs.length
    · have hji : (j : Int) < (zs.length : Int) := by omega
      obtain ⟨b1, off1, rfl, y1⟩ := row_int (H1.out.step hst) j hjn
      obtain ⟨b2, off2, rfl, y2⟩ := row_int (H2.out.step hst) j hjn
      obtain ⟨z, hz⟩ : ∃ z, zs[j] = z := ⟨_, rfl⟩
      rw [hz] at y1 y2
      clear hz
      go_wp2_with fail
      go_quiet (fail)
      go_wp2
      go_roundw
      case rel => exact ⟨j + 1, by omega, int_eq (by omega), hst.drewN _⟩
      case measure => simp [intOf]; omega
    · obtain rfl : j = zs.length := by omega
      go_wp2_with fail
      go_ret
      exact ⟨rfl, hst⟩
end Go.Proofs.Ytmijbplhmjledaa
