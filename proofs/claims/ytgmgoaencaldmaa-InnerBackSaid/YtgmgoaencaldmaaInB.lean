/-
  An inner node in memory; what the small functions of package inner do: build, Len, Kids, Pivots, Buff, has, withBuff, refOf, lowOf, pivotAhead, Range.
-/
import Derived.Test.YtgmgoaencaldmaaInA
import Derived.BigQuiet
import Derived.BigRegion
import Derived.Deep.RegionWith
import Derived.Deep.RegionLaw
namespace Go.Proofs.Ytgmgoaencaldmaa
open Go.RowKit Go.Sort
set_option linter.unusedVariables false
set_option linter.unusedSimpArgs false
set_option maxRecDepth 20000

/-- A row in memory, by a slice with room. -/
def SlAt (w : World) (a : Option Addr) (n c : Nat) (cs : List Value) : Prop := n ≤ c ∧ NilOk w a c ∧ RowAt w noF a cs
theorem SlAt.step {w w' : World} {a : Option Addr} {n c : Nat} {cs : List Value} (h : SlAt w a n c cs) (hs : Step noF w w') : SlAt w' a n c cs := ⟨h.1, h.2.1.step hs, rowAt_step h.2.2 hs (fun _ _ h => h)⟩
/-- An inner node. -/
def InnerAt (w : World) (p : Nat) (d : Nd) : Prop := ∃ (ka pa : Option Addr) (kc pc q : Nat), w.heap[p]? = some (.cells #[.slice ka d.kids.length kc, .slice pa d.pivs.length pc, .pointer (some ⟨q, 0, none⟩)] 71 (0, 0)) ∧ SlAt w ka d.kids.length kc (intsOf d.kids) ∧ SlAt w pa d.pivs.length pc (texts d.pivs) ∧ BuffAt w q d.ms
theorem InnerAt.step {w w' : World} {p : Nat} {d : Nd} (h : InnerAt w p d) (hs : Step noF w w') : InnerAt w' p d := by
  obtain ⟨ka, pa, kc, pc, q, h1, h2, h3, h4⟩ := h
  exact ⟨ka, pa, kc, pc, q, (hs.block p (lt_of_block h1) (fun x => x)).trans h1, h2.step hs, h3.step hs, h4.step hs⟩
theorem InnerAt.lt {w : World} {p : Nat} {d : Nd} (h : InnerAt w p d) : p < w.heap.size := by
  obtain ⟨ka, pa, kc, pc, q, h1, _⟩ := h
  exact lt_of_block h1
theorem InnerAt.cell {w : World} {p : Nat} {d : Nd} (h : InnerAt w p d) : ∃ (ka pa : Option Addr) (kc pc q : Nat), w.cell? ⟨p, 0, none⟩ = some (.slice ka d.kids.length kc) ∧ w.cell? ⟨p, 1, none⟩ = some (.slice pa d.pivs.length pc) ∧ w.cell? ⟨p, 2, none⟩ = some (.pointer (some ⟨q, 0, none⟩)) ∧ SlAt w ka d.kids.length kc (intsOf d.kids) ∧ SlAt w pa d.pivs.length pc (texts d.pivs) ∧ BuffAt w q d.ms := by
  obtain ⟨ka, pa, kc, pc, q, h1, h2⟩ := h
  exact ⟨ka, pa, kc, pc, q, by rw [cell_of_block h1]; rfl, by rw [cell_of_block h1]; rfl, by rw [cell_of_block h1]; rfl, h2⟩
theorem innerAt_new {w : World} {ka pa : Option Addr} {kc pc q : Nat} {d : Nd} (h2 : SlAt w ka d.kids.length kc (intsOf d.kids)) (h3 : SlAt w pa d.pivs.length pc (texts d.pivs)) (h4 : BuffAt w q d.ms) :
    InnerAt (w.alloc (.cells #[.slice ka d.kids.length kc, .slice pa d.pivs.length pc, .pointer (some ⟨q, 0, none⟩)] 71)) w.heap.size d := by
  have hs : Step noF w (w.alloc (.cells #[.slice ka d.kids.length kc, .slice pa d.pivs.length pc, .pointer (some ⟨q, 0, none⟩)] 71)) := (Step.refl noF w).alloc _
  exact ⟨ka, pa, kc, pc, q, block_alloc_new w _, h2.step hs, h3.step hs, h4.step hs⟩

theorem good_parts (ks : List Int) (ps : List (List UInt8)) : goodN ks ps = (decide (ps.length + 1 = ks.length) && kidsOk ks && upK ps ps.length) := by
  unfold goodN kidsOk
  congr 2
  by_cases h : ps.length + 1 = ks.length
  · have : ks ≠ [] := fun e => by rw [e] at h; simp at h
    simp [h, this]
  · simp [h]
/-- What is made of kids, pivots and a buffer. -/
def MadeN (w : World) (d : Nd) (e : Ending) : Prop := (goodN d.kids d.pivs = false ∧ e = .returned (.tuple #[.pointer none, .int .i64 1])) ∨ (goodN d.kids d.pivs = true ∧ ∃ p, e = .returned (.tuple #[.pointer (some ⟨p, 0, none⟩), .int .i64 0]) ∧ InnerAt w p d)
set_option maxHeartbeats 1000000 in
theorem build_any (ks : List Int) (ps : List (List UInt8)) (ms : List Mg) (hkl : ks.length ≤ 1000000) (hpl : ps.length ≤ 1000000) (ka pa : Option Addr) (kc pc q : Nat) (w : World) (hk : SlAt w ka ks.length kc (intsOf ks)) (hp : SlAt w pa ps.length pc (texts ps)) (hb : BuffAt w q ms) :
    Calls Try.prog 27 #[.slice ka ks.length kc, .slice pa ps.length pc, .pointer (some ⟨q, 0, none⟩)] w fun e w' => MadeN w' ⟨ks, ps, ms⟩ e ∧ Step noF w w' := by
  have cK := containsI_any ks hkl ka kc w hk.2.2
  have cR := fun w' (hs : Step noF w w') => rising_any ps hpl pa pc w' (hp.step hs).2.2
  have HG := hid (good_parts ks ps)
  have HN := fun w' (hs : Step noF w w') => hid (innerAt_new (d := ⟨ks, ps, ms⟩) (hk.step hs) (hp.step hs) (hb.step hs))
  simp only at HN
  clear hk hp hb
  obtain ⟨n, hn⟩ : ∃ n, ps.length = n := ⟨_, rfl⟩
  obtain ⟨m, hm⟩ : ∃ m, ks.length = m := ⟨_, rfl⟩
  rw [hm] at cK hkl
  rw [hn] at cR hpl
  rw [hn, hm] at HG
  simp only [hn, hm] at HN
  rw [hn, hm]
  clear hn hm
  have rw1 : IntKind.i64.wrap ((m : Int) - 1) = (m : Int) - 1 := by rw [IntKind.wrap_i64]; omega
  by_cases hl : n + 1 = m
  · have em : (m : Int) - 1 = (n : Int) := by omega
    have HL := hid hl
    cases hk : kidsOk ks
    · have HF : Hid (goodN ks ps = false) := by show _ = _; rw [HG.out, hk]; simp
      rw [hk] at cK
      clear hk hl
      go_enter Try.func27, Try.ntmps27
      go_wp2_with fail
      refine cK.mono ?_
      rintro e w2 ⟨rfl, s2⟩
      have S2 := hid s2
      clear s2
      go_wp2_with fail
      go_ret2
      exact ⟨.inl ⟨HF.out, rfl⟩, S2.out⟩
    · rw [hk] at cK
      cases hu : upK ps n
      · have HF : Hid (goodN ks ps = false) := by show _ = _; rw [HG.out, hk, hu]; simp
        rw [hu] at cR
        clear hk hu hl
        go_enter Try.func27, Try.ntmps27
        go_wp2_with fail
        refine cK.mono ?_
        rintro e w2 ⟨rfl, s2⟩
        have S2 := hid s2
        clear s2
        go_wp2_with fail
        refine (cR _ S2.out).mono ?_
        rintro e w3 ⟨rfl, s3⟩
        have S3 := hid (S2.out.trans s3)
        clear s3
        go_wp2_with fail
        go_ret2
        exact ⟨.inl ⟨HF.out, rfl⟩, S3.out⟩
      · have HF : Hid (goodN ks ps = true) := by show _ = _; rw [HG.out, hk, hu]; simp [HL.out]
        rw [hu] at cR
        clear hk hu hl
        go_enter Try.func27, Try.ntmps27
        go_wp2_with fail
        refine cK.mono ?_
        rintro e w2 ⟨rfl, s2⟩
        have S2 := hid s2
        clear s2
        go_wp2_with fail
        refine (cR _ S2.out).mono ?_
        rintro e w3 ⟨rfl, s3⟩
        have S3 := hid (S2.out.trans s3)
        clear s3
        go_wp2_with fail
        go_ret2
        exact ⟨.inr ⟨HF.out, _, rfl, (HN _ S3.out).out⟩, S3.out.alloc _⟩
  · have HF : Hid (goodN ks ps = false) := by show _ = _; rw [HG.out]; simp [hl]
    have hz : ¬ (n : Int) = (m : Int) - 1 := by omega
    have hz2 : ((n : Int) == (m : Int) - 1) = false := by rw [beq_eq_false_iff_ne]; exact hz
    clear hl
    go_enter Try.func27, Try.ntmps27
    go_wp2_with fail
    go_ret2
    exact ⟨.inl ⟨HF.out, rfl⟩, Step.refl _ _⟩

theorem lenN_any (p : Nat) (d : Nd) (w : World) (h : InnerAt w p d) : Calls Try.prog 19 #[.pointer (some ⟨p, 0, none⟩)] w fun e w' => e = .returned (.int .i64 d.kids.length) ∧ w = w' := by
  obtain ⟨ka, pa, kc, pc, q, h1, h2, h3, _⟩ := h.cell
  clear h h2 h3
  go_enter Try.func19, Try.ntmps19
  go_wp2
  go_ret
  exact ⟨rfl, rfl⟩
theorem lenN_nil (w : World) : Calls Try.prog 19 #[.pointer none] w fun e w' => e = .returned (.int .i64 0) ∧ w = w' := by
  go_enter Try.func19, Try.ntmps19
  go_wp2
  go_ret
  exact ⟨rfl, rfl⟩
theorem kidsN_nil (w : World) : Calls Try.prog 24 #[.pointer none] w fun e w' => e = .returned (.slice none 0 0) ∧ w = w' := by
  go_enter Try.func24, Try.ntmps24
  go_wp2
  go_ret
  exact ⟨rfl, rfl⟩
theorem buffN_nil (w : World) : Calls Try.prog 15 #[.pointer none] w fun e w' => e = .returned (.pointer none) ∧ w = w' := by
  go_enter Try.func15, Try.ntmps15
  go_wp2
  go_ret
  exact ⟨rfl, rfl⟩
theorem kidsN_any (p : Nat) (d : Nd) (hl : d.kids.length ≤ 1000000) (w : World) (h : InnerAt w p d) : Calls Try.prog 24 #[.pointer (some ⟨p, 0, none⟩)] w fun e w' => ∃ a c, e = .returned (.slice a d.kids.length c) ∧ Hid (SlAt w' a d.kids.length c (intsOf d.kids)) ∧ Hid (Step noF w w') := by
  obtain ⟨ka, pa, kc, pc, q, h1, h2, h3, hk, _, _⟩ := h.cell
  have hc := cloneI_any d.kids hl ka kc w hk.2.2 hk.2.1.1
  clear h h2 h3 hk
  go_enter Try.func24, Try.ntmps24
  go_wp2_with fail
  refine hc.mono ?_
  rintro e w' ⟨v, rfl, ho, hs⟩
  obtain ⟨a, c, rfl, o1, o2, o3⟩ := ho.row
  have HO : Hid (SlAt w' a d.kids.length c (intsOf d.kids)) := ⟨o1, o2, o3⟩
  have HS := hid hs
  clear ho o1 o2 o3 hs
  go_wp2_with fail
  go_ret
  exact ⟨a, c, rfl, HO, HS⟩
theorem buffN_any (p : Nat) (d : Nd) (w : World) (h : InnerAt w p d) : Calls Try.prog 15 #[.pointer (some ⟨p, 0, none⟩)] w fun e w' => ∃ q, e = .returned (.pointer (some ⟨q, 0, none⟩)) ∧ Hid (BuffAt w q d.ms) ∧ w = w' := by
  obtain ⟨ka, pa, kc, pc, q, h1, h2, h3, _, _, hb⟩ := h.cell
  have HB := hid hb
  clear h h1 h2 hb
  go_enter Try.func15, Try.ntmps15
  go_wp2
  go_ret
  exact ⟨q, rfl, HB, rfl⟩
/-- Whether there is a kid at that place. -/
def hasZ (n : Nat) (z : Int) : Bool := decide (0 ≤ z) && decide (z < (n : Int))
theorem hasN_any (p : Nat) (d : Nd) (z : Int) (w : World) (h : InnerAt w p d) : Calls Try.prog 30 #[.pointer (some ⟨p, 0, none⟩), .int .i64 z] w fun e w' => e = .returned (.bool (hasZ d.kids.length z)) ∧ w = w' := by
  have cL := lenN_any p d w h
  obtain ⟨n, hn⟩ : ∃ n, d.kids.length = n := ⟨_, rfl⟩
  rw [hn] at cL ⊢
  clear h hn
  by_cases h0 : 0 ≤ z
  · have HZ : Hid (hasZ n z = decide (z < (n : Int))) := by show _ = _; unfold hasZ; simp [h0]
    go_enter Try.func30, Try.ntmps30
    go_wp2_with fail
    refine cL.mono ?_
    rintro e w' ⟨rfl, rfl⟩
    go_wp2_with fail
    go_ret
    exact ⟨by rw [HZ.out]; rfl, rfl⟩
  · have HZ : Hid (hasZ n z = false) := by show _ = _; unfold hasZ; simp [h0]
    go_enter Try.func30, Try.ntmps30
    go_wp2_with fail
    go_ret
    exact ⟨by rw [HZ.out]; rfl, rfl⟩
theorem hasN_nil (z : Int) (w : World) : Calls Try.prog 30 #[.pointer none, .int .i64 z] w fun e w' => e = .returned (.bool false) ∧ w = w' := by
  have cL := lenN_nil w
  by_cases h0 : 0 ≤ z
  · have hn : ¬ z < 0 := by omega
    have hd : decide (z < 0) = false := decide_eq_false hn
    go_enter Try.func30, Try.ntmps30
    go_wp2_with fail
    refine cL.mono ?_
    rintro e w' ⟨rfl, rfl⟩
    go_wp2_with fail
    go_ret
    exact ⟨by first | rfl | simp [hn], rfl⟩
  · go_enter Try.func30, Try.ntmps30
    go_wp2_with fail
    go_ret
    exact ⟨rfl, rfl⟩
set_option maxHeartbeats 1000000 in
theorem withBuff_any (p q2 : Nat) (d : Nd) (ms : List Mg) (w : World) (h : InnerAt w p d) (hb : BuffAt w q2 ms) : Calls Try.prog 31 #[.pointer (some ⟨p, 0, none⟩), .pointer (some ⟨q2, 0, none⟩)] w fun e w' => ∃ p', e = .returned (.pointer (some ⟨p', 0, none⟩)) ∧ InnerAt w' p' ⟨d.kids, d.pivs, ms⟩ ∧ Step noF w w' := by
  obtain ⟨ka, pa, kc, pc, q, h1, h2, h3, hk, hp, _⟩ := h.cell
  have HN := fun w' (hs : Step noF w w') => hid (innerAt_new (d := ⟨d.kids, d.pivs, ms⟩) (hk.step hs) (hp.step hs) (hb.step hs))
  simp only at HN
  obtain ⟨n, hn⟩ : ∃ n, d.kids.length = n := ⟨_, rfl⟩
  obtain ⟨m, hm⟩ : ∃ n, d.pivs.length = n := ⟨_, rfl⟩
  rw [hn] at h1
  rw [hm] at h2
  simp only [hn, hm] at HN
  clear h h3 hk hp hb
  go_enter Try.func31, Try.ntmps31
  go_wp2_with fail
  go_region_law (fail)
  all_goals go_wp2_with fail
  all_goals go_ret
  all_goals exact ⟨_, rfl, by first | exact (HN _ ((Step.refl noF w).drewN _)).out | exact (HN _ (Step.refl noF w).drew).out | exact (HN _ (Step.refl noF w)).out, by first | exact ((Step.refl noF w).drewN _).alloc _ | exact ((Step.refl noF w).drew).alloc _ | exact (Step.refl noF w).alloc _⟩
end Go.Proofs.Ytgmgoaencaldmaa
