/-
  A write of every kind; that a device stays well formed, and its counts small; the calls with their results by equation.
-/
import Derived.Test.YthgcpeibjnflaaaDevH
namespace Go.Proofs.Ythgcpeibjnflaaa
open Go.RowKit
set_option linter.unusedVariables false

theorem write_any (w : World) (R : Nat → Nat) (o p : Nat) (d : Dv) (h : IsDev w R o p d) (hw : Wf d) (z : Int) (b : List UInt8) (hb : b.length ≤ 100000) :
    Calls Try.prog 20 #[.pointer (some ⟨p, 0, none⟩), .int .i64 z, .string (str b)] w fun e w' => e = .returned (.int .i64 (wrE d z b)) ∧ Step (Rng R o) w w' ∧ ∃ R', (∀ k, k < w.heap.size → R' k = R k) ∧ IsDev w' R' o p (wrD d z b) := by
  by_cases hok : (wrOk d z b && goB d) = true
  · have h1 : inB d z = true ∧ b.length = 256 ∧ goB d = true := by simpa [wrOk, and_assoc] using hok
    have e : wrE d z b = 0 := by simp [wrE, h1.1, h1.2.1, h1.2.2]
    rw [e]
    exact write_good w R o p d h hw z b h1.1 h1.2.1 h1.2.2
  · refine (write_bad w R o p d h hw z b hb (by simpa using hok)).mono ?_
    rintro e w' ⟨h1, h2, h3⟩
    exact ⟨h1, h2, R, fun _ _ => rfl, h3⟩

/-- At most i writes that aren't safe, and counts of at most i. -/
def Few (d : Dv) (i : Nat) : Prop := d.loose.length ≤ i ∧ d.reads ≤ i ∧ d.writes ≤ i ∧ d.flushes ≤ i
theorem Few.mono {d : Dv} {i j : Nat} (h : Few d i) (hj : i ≤ j) : Few d j := ⟨by have := h.1; omega, by have := h.2.1; omega, by have := h.2.2.1; omega, by have := h.2.2.2; omega⟩

theorem newD_wf (xs : List (List UInt8)) (h1 : 1 ≤ xs.length) (h2 : xs.length ≤ 512) (h3 : ∀ x ∈ xs, x.length = 256) : Wf (newD xs) := ⟨h1, h2, h3, fun x hx => by simp [newD] at hx, Nat.zero_le _, Nat.zero_le _, Nat.zero_le _, Nat.zero_le _, fun n ks h => by simp [newD] at h⟩
theorem newD_few (xs : List (List UInt8)) : Few (newD xs) 0 := ⟨Nat.le_refl _, Nat.le_refl _, Nat.le_refl _, Nat.le_refl _⟩
theorem cutD_few (d : Dv) (ks : List Bool) (i : Nat) (h : Few d i) : Few (cutD d ks) i := by
  cases hon : d.on
  · have e : cutD d ks = d := by simp [cutD, hon]
    rw [e]; exact h
  · have e : cutD d ks = { d with safe := cutN d.safe d.loose ks d.loose.length, loose := [], on := false } := by simp [cutD, hon]
    rw [e]; exact ⟨Nat.zero_le _, h.2.1, h.2.2.1, h.2.2.2⟩
theorem goD_few (d : Dv) (i : Nat) (h : Few d i) : Few (goD d) i := by
  cases hon : d.on
  · have e : goD d = d := by simp [goD, hon]
    rw [e]; exact h
  · cases hf : d.fuse with
    | none =>
      have e : goD d = d := by simp [goD, hon, hf]
      rw [e]; exact h
    | some x =>
      obtain ⟨n, ks⟩ := x
      cases n with
      | zero =>
        have e : goD d = cutD d ks := by simp [goD, hon, hf]
        rw [e]; exact cutD_few d ks i h
      | succ n =>
        have e : goD d = { d with fuse := some (n, ks) } := by simp [goD, hon, hf]
        rw [e]; exact h
theorem comeD_wf (d : Dv) (hw : Wf d) : Wf (comeD d) := by
  unfold comeD
  split
  · exact hw
  · exact ⟨hw.n1, hw.n2, hw.s, hw.l, hw.ll, hw.cr, hw.cw, hw.cf, fun n ks h => by cases h⟩
theorem comeD_few (d : Dv) (i : Nat) (h : Few d i) : Few (comeD d) i := by
  unfold comeD
  split
  · exact h
  · exact h
theorem readD_wf (d : Dv) (z : Int) (hw : Wf d) (i : Nat) (h : Few d i) (hi : i < 1000) : Wf (readD d z) := by
  unfold readD
  split
  · exact ⟨hw.n1, hw.n2, hw.s, hw.l, hw.ll, by have := h.2.1; show d.reads + 1 ≤ 1000; omega, hw.cw, hw.cf, hw.fu⟩
  · exact hw
theorem readD_few (d : Dv) (z : Int) (i : Nat) (h : Few d i) : Few (readD d z) (i + 1) := by
  unfold readD
  split
  · exact ⟨by have := h.1; show d.loose.length ≤ i + 1; omega, by have := h.2.1; show d.reads + 1 ≤ i + 1; omega, by have := h.2.2.1; show d.writes ≤ i + 1; omega, by have := h.2.2.2; show d.flushes ≤ i + 1; omega⟩
  · exact h.mono (by omega)
theorem flushL_256 (s : List (List UInt8)) (ws : List (Nat × List UInt8)) (hs : ∀ x ∈ s, x.length = 256) (hl : ∀ x ∈ ws, x.2.length = 256) : ∀ x ∈ flushL s ws, x.length = 256 := by
  induction ws generalizing s with
  | nil => exact hs
  | cons y ws ih =>
    refine ih (s.set y.1 y.2) (fun x hx => ?_) (fun x hx => hl x (List.mem_cons_of_mem _ hx))
    rcases mem_set hx with rfl | hx
    · exact hl y List.mem_cons_self
    · exact hs x hx
theorem flD_wf (d : Dv) (hw : Wf d) (i : Nat) (h : Few d i) (hi : i < 1000) : Wf (flD d) := by
  have h1 := goD_wf d hw
  have h2 := goD_few d i h
  unfold flD
  split
  · refine ⟨by show 1 ≤ (flushL _ _).length; rw [flushL_length]; exact h1.n1, by show (flushL _ _).length ≤ 512; rw [flushL_length]; exact h1.n2, flushL_256 _ _ h1.s (fun x hx => (h1.l x hx).2), fun x hx => by simp [flushD] at hx, Nat.zero_le _, h1.cr, h1.cw, ?_, h1.fu⟩
    have := h2.2.2.2
    show (goD d).flushes + 1 ≤ 1000
    omega
  · exact h1
theorem flD_few (d : Dv) (i : Nat) (h : Few d i) : Few (flD d) (i + 1) := by
  have h2 := goD_few d i h
  unfold flD
  split
  · exact ⟨Nat.zero_le _, by have := h2.2.1; show (goD d).reads ≤ i + 1; omega, by have := h2.2.2.1; show (goD d).writes ≤ i + 1; omega, by have := h2.2.2.2; show (goD d).flushes + 1 ≤ i + 1; omega⟩
  · exact h2.mono (by omega)
theorem wrD_wf (d : Dv) (z : Int) (b : List UInt8) (hw : Wf d) (i : Nat) (h : Few d i) (hi : i < 1000) : Wf (wrD d z b) := by
  have h1 := goD_wf d hw
  have h2 := goD_few d i h
  unfold wrD
  split
  · rename_i hc
    split
    · rename_i hg
      obtain ⟨e1, e2, e3, _⟩ := goD_same d hg
      have hc : (0 ≤ z ∧ z < (d.safe.length : Int)) ∧ b.length = 256 := by simpa [inB] using hc
      refine ⟨h1.n1, h1.n2, h1.s, fun x hx => ?_, by have := h2.1; simp; omega, h1.cr, by have := h.2.2.1; show d.writes + 1 ≤ 1000; omega, h1.cf, h1.fu⟩
      simp only [List.mem_append, List.mem_singleton] at hx
      rcases hx with hx | rfl
      · exact h1.l x hx
      · exact ⟨by show z.toNat < (goD d).safe.length; rw [e1]; omega, hc.2⟩
    · exact h1
  · exact hw
theorem wrD_few (d : Dv) (z : Int) (b : List UInt8) (i : Nat) (h : Few d i) : Few (wrD d z b) (i + 1) := by
  have h2 := goD_few d i h
  unfold wrD
  split
  · split
    · exact ⟨by have := h2.1; simp; omega, by have := h2.2.1; show (goD d).reads ≤ i + 1; omega, by have := h.2.2.1; show d.writes + 1 ≤ i + 1; omega, by have := h2.2.2.2; show (goD d).flushes ≤ i + 1; omega⟩
    · exact h2.mono (by omega)
  · exact h.mono (by omega)
theorem fuseD_wf (d : Dv) (z : Int) (ks : List Bool) (hw : Wf d) (hz : z ≤ 9223372036854775807) (hk : ks.length ≤ 1000) : Wf (fuseD d z ks) := by
  refine ⟨hw.n1, hw.n2, hw.s, hw.l, hw.ll, hw.cr, hw.cw, hw.cf, fun n ks' h => ?_⟩
  have h : (if 0 ≤ z then some (z.toNat, ks) else none) = some (n, ks') := h
  split at h
  · injection h with h
    injection h with h1 h2
    subst h1 h2
    exact ⟨by omega, hk⟩
  · cases h
theorem fuseD_few (d : Dv) (z : Int) (ks : List Bool) (i : Nat) (h : Few d i) : Few (fuseD d z ks) i := h

/-- Roles that agree, one after another. -/
theorem agree {R R' R'' : Nat → Nat} {a b : World} {F : Nat → Prop} (s : Step F a b) (h : ∀ k, k < a.heap.size → R' k = R k) (h' : ∀ k, k < b.heap.size → R'' k = R' k) : ∀ k, k < a.heap.size → R'' k = R k :=
  fun k hk => (h' k (Nat.lt_of_lt_of_le hk s.size)).trans (h k hk)
/-- What happens on a device that is new is nothing to what was there. -/
theorem Step.fresh {R : Nat → Nat} {o : Nat} {a b c : World} {F : Nat → Prop} (s : Step F a b) (k : Step (Rng R o) b c) (hR : ∀ q, q < a.heap.size → ¬ (o < R q ∧ R q ≤ o + 6)) : Step F a c :=
  s.then k (fun i hi => by rcases Nat.lt_or_ge i a.heap.size with h | h; exact absurd hi (hR i h); exact .inr h)

theorem read_call (w : World) (R : Nat → Nat) (o p : Nat) (d : Dv) (h : IsDev w R o p d) (hw : Wf d) (z : Int) (r : ByteArray) (e0 : Int) (d' : Dv) (h1 : str (readV d z) = r) (h2 : readE d z = e0) (h3 : readD d z = d') :
    Calls Try.prog 17 #[.pointer (some ⟨p, 0, none⟩), .int .i64 z] w fun e w' => e = .returned (.tuple #[.string r, .int .i64 e0]) ∧ Step (Rng R o) w w' ∧ IsDev w' R o p d' := by
  subst h1 h2 h3
  exact read_any w R o p d h hw z
theorem write_call (w : World) (R : Nat → Nat) (o p : Nat) (d : Dv) (h : IsDev w R o p d) (hw : Wf d) (z : Int) (b : List UInt8) (hb : b.length ≤ 100000) (X : ByteArray) (hX : str b = X) (e0 : Int) (d' : Dv) (h2 : wrE d z b = e0) (h3 : wrD d z b = d') :
    Calls Try.prog 20 #[.pointer (some ⟨p, 0, none⟩), .int .i64 z, .string X] w fun e w' => e = .returned (.int .i64 e0) ∧ Step (Rng R o) w w' ∧ ∃ R', (∀ k, k < w.heap.size → R' k = R k) ∧ IsDev w' R' o p d' := by
  subst hX h2 h3
  exact write_any w R o p d h hw z b hb
theorem cut_call (w : World) (R : Nat → Nat) (o p : Nat) (d : Dv) (h : IsDev w R o p d) (hw : Wf d) (a : Option Addr) (n c : Nat) (ks : List Bool) (hn : n = ks.length) (hc : ks.length ≤ c) (hkl : ks.length ≤ 1000) (hr : RowAt w (fun k => o < R k ∧ R k ≤ o + 3) a (bools ks)) (d' : Dv) (h3 : cutD d ks = d') :
    Calls Try.prog 13 #[.pointer (some ⟨p, 0, none⟩), .slice a n c] w fun e w' => e = .returned (.tuple #[]) ∧ Step (Rng R o) w w' ∧ IsDev w' R o p d' := by
  subst hn h3
  exact cut_any w R o p d h hw a c ks hc hkl hr
theorem come_call (w : World) (R : Nat → Nat) (o p : Nat) (d : Dv) (h : IsDev w R o p d) (d' : Dv) (h3 : comeD d = d') : Calls Try.prog 16 #[.pointer (some ⟨p, 0, none⟩)] w fun e w' => e = .returned (.tuple #[]) ∧ Step (Rng R o) w w' ∧ IsDev w' R o p d' := by
  subst h3
  exact come_any w R o p d h
theorem flush_call (w : World) (R : Nat → Nat) (o p : Nat) (d : Dv) (h : IsDev w R o p d) (hw : Wf d) (e0 : Int) (d' : Dv) (h2 : flE d = e0) (h3 : flD d = d') : Calls Try.prog 10 #[.pointer (some ⟨p, 0, none⟩)] w fun e w' => e = .returned (.int .i64 e0) ∧ Step (Rng R o) w w' ∧ IsDev w' R o p d' := by
  subst h2 h3
  exact flush_any w R o p d h hw
theorem block_call (z : Int) (b : UInt8) (hz : z = b.toNat) (X : ByteArray) (hX : str (blk b) = X) (w : World) : Calls Try.prog 19 #[.int .u8 z] w fun e w' => e = .returned (.string X) ∧ Step noF w w' := by
  subst hz hX
  exact block_any b w
end Go.Proofs.Ythgcpeibjnflaaa
