/-
  A merger in memory: add, New.
-/
import Derived.Test.YtnalillebemglaaGreatMgE
namespace Go.Proofs.YtnalillebemglaaGreat
open Go.RowKit Go.Sort
set_option linter.unusedVariables false
set_option linter.unusedSimpArgs false
set_option maxRecDepth 20000

theorem own_en {w : World} {base : Nat} {v : Value} {r : List Mg} {e : TypeId} (h : w.ownsRow base e 3 v r.length (msgs r)) (hr : r ≠ []) : ∃ g c, v = .slice (some ⟨g, 0, none⟩) r.length c ∧ r.length ≤ c ∧ base ≤ g ∧ MsgsAt w noF (some ⟨g, 0, none⟩) r := by
  obtain ⟨a, c, rfl, h1, h2, h3⟩ := owns_msgs h
  cases a with
  | none =>
    rcases h3 with h3 | ⟨b, off, e, _⟩
    · exact absurd h3 hr
    · cases e
  | some ad =>
    rcases h.2 with ⟨hv, _⟩ | ⟨g', cap, cur, hv, hb, _⟩
    · injection hv with hv; cases hv
    · injection hv with hv _ _
      injection hv with hv
      subst hv
      exact ⟨g', c, rfl, h1, hb, h3⟩
theorem QhAt.low {w : World} {p : Nat} {v lv : Value} {es : List Ent} (h : QhAt w p v lv es) : ∀ k, ownF p v k → k < w.heap.size := fun k hk => by
  rcases hk with rfl | hk
  · exact lt_of_block h.1
  · exact (h.2.1.lt k hk).2
theorem QhAt.setLeft {w : World} {p : Nat} {v lv : Value} {es : List Ent} (h : QhAt w p v lv es) (lv' : Value) : QhAt (w.setCell ⟨p, 1, none⟩ lv') p v lv' es := by
  have hs : Step (oneF p) w (w.setCell ⟨p, 1, none⟩ lv') := (Step.refl (oneF p) w).setCell (p := ⟨p, 1, none⟩) (.inl (show oneF p p from rfl)) lv'
  refine ⟨block_setCell h.1 1 lv', owns_setCell h.2.1 ⟨p, 1, none⟩ h.2.2.1 lv', h.2.2.1, fun e he => (h.2.2.2 e he).step hs (fun k hk => .inl hk)⟩
theorem QhAt.leftC {w : World} {p : Nat} {v lv : Value} {es : List Ent} (h : QhAt w p v lv es) : w.cell? ⟨p, 1, none⟩ = some lv ∧ w.frozen? ⟨p, 1, none⟩ = false := ⟨by rw [cell_of_block h.1]; rfl, frozen_of_block h.1 1⟩
theorem msgs_out {w : World} {G : Nat → Prop} {g : Nat} {r : List Mg} (h : MsgsAt w noF (some ⟨g, 0, none⟩) r) (hG : ¬ G g) : MsgsAt w G (some ⟨g, 0, none⟩) r := by
  rcases h with h | ⟨b, off, e, _, hb, hc⟩
  · exact .inl h
  · refine .inr ⟨b, off, e, ?_, hb, hc⟩
    injection e with e
    injection e with e1 _
    rw [← e1]; exact hG

/-- Behind add of one more run. -/
def AddPost (p : Nat) (v : Value) (L : Nat) (es : List Ent) (j : Nat) (r : List Mg) (w w' : World) : Prop :=
  Step (ownF p v) w w' ∧ ∃ v' es', QhAt w' p v' (.int .i64 ((L + r.length : Nat) : Int)) es' ∧ hpN es' es'.length ∧ (∀ k, ownF p v' k → ownF p v k ∨ w.heap.size ≤ k) ∧ ((r = [] ∧ es' = es) ∨ (r ≠ [] ∧ ∃ x : Ent, x.pl = j ∧ x.ms = r ∧ es'.Perm (es ++ [x])))
set_option maxHeartbeats 4000000 in
theorem mAdd_any (w : World) (p : Nat) (v : Value) (L : Nat) (hL : L ≤ 1000000000) (es : List Ent) (h : QhAt w p v (.int .i64 L) es) (hl : es.length ≤ 900000) (hh : hpN es es.length) (hne : ∀ e ∈ es, e.ms ≠ [])
    (j : Nat) (r : List Mg) (hr : r.length ≤ 1000000) (a : Option Addr) (c : Nat) (hc : a = none → c = 0) (hm : MsgsAt w noF a r) :
    Calls Tryz.prog 29 #[.pointer (some ⟨p, 0, none⟩), .int .i64 j, .slice a r.length c] w fun e w' => e = .returned (.tuple #[]) ∧ AddPost p v L es j r w w' := by
  by_cases h0 : r = []
  · subst h0
    have HQ := hid h
    have HH := hid hh
    clear h hh hne hm
    go_enter Tryz.func29, Tryz.ntmps29
    go_wp2_with fail
    refine bodyPost_ret (results_none rfl _ _ _) rfl ?_
    exact ⟨rfl, Step.refl _ _, v, es, HQ.out, HH.out, fun k hk => .inl hk, .inl ⟨rfl, rfl⟩⟩
  · have cC := fun W (hW : Step noF w W) => cloneMs_any r hr a c W (hm.step hW (fun _ x => x)) hc
    have cP : ∀ W v2, Step noF w W → W.ownsRow w.heap.size 37 3 v2 r.length (msgs r) → Calls Tryz.prog 58 #[.iface 100 (.pointer (some ⟨p, 0, none⟩)), .iface 102 (.agg #[.int .i64 j, v2])] W fun e w' => e = .returned (.tuple #[]) ∧ Step (ownF p v) w w' ∧ ∃ g c ms, QpAt w' p g c (.int .i64 L) ms ∧ (v.ownBlock = some g ∨ w.heap.size ≤ g) ∧ (∃ x : Ent, x.pl = j ∧ x.ms = r ∧ ms.Perm (es ++ [x])) ∧ hpN ms ms.length := fun W v2 hW ho => by
      obtain ⟨g, c2, rfl, h1, h2, h3⟩ := own_en ho h0
      have hx : EnAt W (ownF p v) ⟨j, r, g, 0, c2⟩ := ⟨hr, h1, msgs_out h3 (fun hg => by have := h.low g hg; omega)⟩
      refine (qhpush_any W p v _ es (h.step hW) hl hh hne ⟨j, r, g, 0, c2⟩ hx h0).mono ?_
      rintro e w' ⟨rfl, s, g2, c3, ms, q1, q2, q3, q4⟩
      refine ⟨rfl, (hW.mono (fun _ x => x.elim)).trans s, g2, c3, ms, q1, ?_, ⟨_, rfl, rfl, q3⟩, q4⟩
      rcases q2 with q2 | q2
      · exact .inl q2
      · exact .inr (Nat.le_trans hW.size q2)
    obtain ⟨n, hn⟩ : ∃ n, r.length = n := ⟨_, rfl⟩
    have hn0 : 0 < n := by rw [← hn]; exact List.length_pos_iff.2 h0
    have hnz : ¬ (n : Int) = 0 := by omega
    have hnz2 : ((n : Int) == 0) = false := by rw [beq_eq_false_iff_ne]; exact hnz
    have hLz : (L : Int) + (n : Int) ≤ 2000000000 := by omega
    have HN := hid hn
    rw [hn] at cC cP ⊢
    have hpl := lt_of_block h.1
    have hbp := h.1
    clear h hh hne hm hn hr
    go_enter Tryz.func29, Tryz.ntmps29
    go_wp2_with fail
    go_region_law (first
      | (refine step_calls rfl rfl Tryz.func46 (by kernel_rfl) (by kernel_rfl) (args := #[.slice a n c]) (by first | rfl | (simp [Act.eval, Act.put]; done)) ?_; refine (cC _ (by first | exact Step.refl noF w | exact (Step.refl noF w).drew | exact (Step.refl noF w).drewN _)).mono ?_; rintro e w4 ⟨v2, rfl, o2, s4⟩; obtain ⟨av, cv, rfl⟩ := owns_form o2; have S4 : Hid (Step noF w w4) := (by first | exact s4 | exact ((Step.refl noF w).drew).trans s4 | exact ((Step.refl noF w).drewN _).trans s4); have O4 : Hid (w4.ownsRow w.heap.size 37 3 (.slice av n cv) n (msgs r)) := o2; clear s4 o2; refine ⟨_, rfl, ?_⟩)
      | (refine step_calls rfl rfl Tryz.func58 (by kernel_rfl) (by kernel_rfl) (args := #[.iface 100 (.pointer (some ⟨p, 0, none⟩)), .iface 102 (.agg #[.int .i64 j, .slice av n cv])]) (by first | rfl | (simp [Act.eval, Act.put]; done)) ?_; refine (cP _ (.slice av n cv) (by first | exact S4.out | exact S4.out.drew | exact S4.out.drewN _) (by first | exact O4.out | exact owns_step O4.out ((Step.refl noF _).drew) (fun _ _ x => x) | exact owns_step O4.out ((Step.refl noF _).drewN _) (fun _ _ x => x))).mono ?_; rintro e w5 ⟨rfl, s5, g, c3, ms, q1, q2, q3, q4⟩; have HQ5 := hid (And.intro s5 (And.intro q1 (And.intro q2 (And.intro q3 q4)))); obtain ⟨l1, l2⟩ := q1.heap.leftC; clear s5 q1 q2 q3 q4; refine ⟨_, rfl, ?_⟩))
    all_goals go_wp2_with fail
    all_goals go_end0
    all_goals
      obtain ⟨s5, q1, q2, q3, q4⟩ := HQ5.out
      refine ⟨rfl, s5.setCell (p := ⟨p, 1, none⟩) (.inl (.inl rfl)) _, .slice (some ⟨g, 0, none⟩) ms.length c3, ms, ?_, q4, ?_, .inr ⟨h0, q3⟩⟩
      · have := q1.heap.setLeft (.int .i64 ((L : Int) + (n : Int)))
        rw [HN.out]
        exact this
      · intro k hk
        rw [ownF_eq] at hk
        rcases hk with rfl | rfl
        · exact .inl (.inl rfl)
        · rcases q2 with q2 | q2
          · exact .inl (.inr q2)
          · exact .inr q2

theorem leftR_take (rs : List (List Mg)) (j : Nat) (hj : j < rs.length) : leftR (rs.take (j + 1)) = leftR (rs.take j) + rs[j].length := by
  unfold leftR
  rw [List.take_succ_eq_append_getElem hj, List.flatten_append, List.length_append]
  simp
theorem leftR_le (rs : List (List Mg)) (n : Nat) (h : ∀ r ∈ rs, r.length ≤ n) : leftR rs ≤ rs.length * n := by
  unfold leftR
  induction rs with
  | nil => simp
  | cons r rs ih =>
    rw [List.flatten_cons, List.length_append, List.length_cons, Nat.add_mul]
    have := h r (List.mem_cons_self ..)
    have := ih (fun q hq => h q (List.mem_cons_of_mem _ hq))
    omega
/-- The merger that is being made, j runs behind. -/
def MakeAt (w : World) (n p : Nat) (rs : List (List Mg)) : Prop := ∃ v es, QhAt w p v (.int .i64 (leftR rs)) es ∧ hpN es es.length ∧ Holds rs es ∧ es.length ≤ rs.length ∧ ∀ k, ownF p v k → n ≤ k
theorem MakeAt.merger {w : World} {n p : Nat} {rs : List (List Mg)} (h : MakeAt w n p rs) : ∃ F, MerAt w F w.heap.size p rs ∧ ∀ k, F k → n ≤ k := by
  obtain ⟨v, es, h1, h2, h3, h4, h5⟩ := h
  exact ⟨ownF p v, ⟨v, es, h1, h2, h3, h4, fun _ x => x, h1.low, Nat.le_refl _, fun e he => (h1.2.2.2 e he).more⟩, h5⟩
theorem MakeAt.add {w w' w0 : World} {n p : Nat} {rs : List (List Mg)} {v : Value} {es : List Ent} (h : QhAt w p v (.int .i64 (leftR rs)) es) (h3 : Holds rs es) (h4 : es.length ≤ rs.length) (h5 : ∀ k, ownF p v k → n ≤ k) (hn : n ≤ w.heap.size) (r : List Mg) (ha : AddPost p v (leftR rs) es rs.length r w w') : MakeAt w' n p (rs ++ [r]) := by
  obtain ⟨_, v', es', q1, q2, q3, q4⟩ := ha
  have hl : leftR (rs ++ [r]) = leftR rs + r.length := by unfold leftR; simp
  refine ⟨v', es', by rw [hl]; exact q1, q2, ?_, ?_, fun k hk => ?_⟩
  · rcases q4 with ⟨rfl, rfl⟩ | ⟨hr, x, hx, rfl, hp⟩
    · exact h3.skip
    · exact (h3.add x hx hr).perm hp
  · rcases q4 with ⟨rfl, rfl⟩ | ⟨hr, x, hx, rfl, hp⟩
    · rw [List.length_append]; omega
    · rw [hp.length_eq, List.length_append, List.length_append]; simp; omega
  · rcases q3 k hk with h | h
    · exact h5 k h
    · omega
set_option maxHeartbeats 4000000 in
theorem mNew_any (rs : List (List Mg)) (hF : FewR rs) (a : Option Addr) (c : Nat) (w : World) (h : RunsAt w a rs) :
    Calls Tryz.prog 9 #[.slice a rs.length c] w fun e w' => Step noF w w' ∧ ((chkR rs ≠ 0 ∧ e = .returned (.tuple #[.pointer none, .int .i64 (chkR rs)])) ∨ (chkR rs = 0 ∧ ∃ p F, e = .returned (.tuple #[.pointer (some ⟨p, 0, none⟩), .int .i64 0]) ∧ MerAt w' F w'.heap.size p rs ∧ ∀ k, F k → w.heap.size ≤ k)) := by
  have HR := hid h
  have HFE := hid hF
  have hrl : rs.length ≤ 1000 := hF.1
  have cW := containsWr_any rs hF a c w h
  have cT := fun W (hW : Step noF w W) => containsTu_any rs hF a c W (h.step hW)
  obtain ⟨A, hA⟩ : ∃ A, rs.all isR = A := ⟨_, rfl⟩
  obtain ⟨B, hB⟩ : ∃ B, rs.all upR = B := ⟨_, rfl⟩
  rw [hA] at cW
  rw [hB] at cT
  have HC : Hid (chkR rs = if A then (if B then 0 else 11) else 1) := by
    show _ = _
    rw [← hA, ← hB]
    rfl
  clear h hF hA hB
  go_enter Tryz.func9, Tryz.ntmps9
  go_wp2_with fail
  refine cW.mono ?_
  rintro e w2 ⟨rfl, s2⟩
  have S2 := hid s2
  cases A
  · have HC1 : Hid (chkR rs = 1) := HC.out
    go_wp2_with fail
    go_ret2
    refine ⟨S2.out, .inl ⟨by rw [HC1.out]; decide, by rw [HC1.out]; rfl⟩⟩
  · go_wp2_with fail
    refine (cT _ S2.out).mono ?_
    rintro e w3 ⟨rfl, s3⟩
    have S3 := hid (S2.out.trans s3)
    clear s2 s3 S2
    cases B
    · have HC1 : Hid (chkR rs = 11) := HC.out
      go_wp2_with fail
      go_ret2
      refine ⟨S3.out, .inl ⟨by rw [HC1.out]; decide, by rw [HC1.out]; rfl⟩⟩
    · have HC1 : Hid (chkR rs = 0) := HC.out
      have hw3 := S3.out.size
      have HNEW : Hid (MakeAt (w3.alloc (.cells #[.slice none 0 0, .int .i64 0] 66)) w.heap.size w3.heap.size []) := by
        have hb := block_alloc_new w3 (.cells #[.slice none 0 0, .int .i64 0] 66)
        refine ⟨.slice none 0 0, [], ⟨hb, ⟨rfl, .inl ⟨rfl, rfl⟩⟩, (fun e => by cases e), (fun e he => by simp at he)⟩, (fun k _ hk => absurd hk (Nat.not_lt_zero _)), holds_nil, Nat.le_refl _, fun k hk => ?_⟩
        rcases hk with rfl | hk
        · exact hw3
        · cases hk
      clear cW cT
      go_wp2_with fail
      go_loopg [14] 1000 (fun kx s14 wr => ∃ (j : Nat), s14 = .int .i64 j ∧ j ≤ rs.length ∧ rs.length - j ≤ kx ∧ Hid (Step noF w wr) ∧ Hid (MakeAt wr w.heap.size w3.heap.size (rs.take j)))
      case atStart => exact ⟨0, rfl, by omega, by omega, S3.out.alloc _, HNEW.out⟩
      case round =>
        obtain ⟨j, rfl, hj, hkx, HS, HM⟩ := hrel
        by_cases hjl : j < rs.length
        · have hjz : (j : Int) < (rs.length : Int) := by omega
          obtain ⟨b, off, rfl, aj, cj, r0, hcj, hlc, hm⟩ := (HR.out.step HS.out).at j hjl
          have hb := HFE.out.2 rs[j] (List.getElem_mem hjl)
          obtain ⟨v, es, q1, q2, q3, q4, q5⟩ := HM.out
          have hlt := leftR_le (rs.take j) 100000 (fun r hr => (HFE.out.2 r (List.mem_of_mem_take hr)).1)
          rw [List.length_take, Nat.min_eq_left hj] at hlt q4
          have hmul : j * 100000 ≤ 1000 * 100000 := Nat.mul_le_mul_right _ (by omega)
          have cA := mAdd_any wr w3.heap.size v (leftR (rs.take j)) (by omega) es q1 (by omega) q2 (fun e he => (q3.2.1 e he).2) j rs[j] (by omega) aj cj hcj hm
          have HQ := hid (And.intro q1 (And.intro q3 (And.intro q4 q5)))
          have HTK : Hid (rs.take (j + 1) = rs.take j ++ [rs[j]]) := List.take_succ_eq_append_getElem hjl
          obtain ⟨r, hr⟩ : ∃ r, rs[j] = r := ⟨_, rfl⟩
          rw [hr] at r0 cA HTK
          obtain ⟨n, hn⟩ : ∃ n, r.length = n := ⟨_, rfl⟩
          rw [hn] at r0 cA
          clear hr hm hb hlt hmul q1 q2 q3 q4 q5 hlc hn
          go_wp2_with fail
          refine cA.mono ?_
          rintro e w5 ⟨rfl, ha⟩
          have HA := hid ha
          clear ha cA
          go_wp2_with fail
          go_roundg (rs.length - (j + 1))
          case measure => omega
          case rel =>
            obtain ⟨q1, q3, q4, q5⟩ := HQ.out
            refine ⟨j + 1, by simp, by omega, Nat.le_refl _, ((HS.out.mono (fun _ x => x.elim)).trans HA.out.1).mono (fun k hk => .inr (q5 k hk)), ?_⟩
            · show MakeAt _ _ _ _
              rw [HTK.out]
              refine MakeAt.add (w0 := w) q1 q3 (by rw [List.length_take]; omega) q5 HS.out.size r ?_
              rw [List.length_take, Nat.min_eq_left hj]
              exact HA.out
        · have hjz : ¬ (j : Int) < (rs.length : Int) := by omega
          obtain rfl : j = rs.length := by omega
          have HM2 : Hid (MakeAt wr w.heap.size w3.heap.size rs) := by
            have := HM.out
            rw [List.take_of_length_le (Nat.le_refl _)] at this
            exact this
          go_wp2_with fail
          go_ret2
          obtain ⟨F, m1, m2⟩ := HM2.out.merger
          exact ⟨HS.out, .inr ⟨HC1.out, w3.heap.size, rfl, F, m1, m2⟩⟩
end Go.Proofs.YtnalillebemglaaGreat
