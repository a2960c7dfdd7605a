/-
  What 'through', 'More' and 'Sum' of package crc do, over whatever world in which the two tables stand.
-/
import Derived.Test.YthdcmobnookhdaaDoorRows
import Derived.Test.YthdcmobnookhdaaDoorBase
import Derived.Test.YthdcmobnookhdaaDoorCrcMath
import Derived.Deep.QuietTactic
import Derived.BigQuiet
import Derived.Handy
namespace Go.Proofs.YthdcmobnookhdaaDoor
open Go.RowKit
set_option linter.unusedVariables false

/-- The two tables stand where their initialisers laid them. -/
def Tabs (w : World) : Prop := (∀ j, j < 16 → w.cell? ⟨0, j, none⟩ = some (.int .u32 ((lowT.getD j 0 : Nat) : Int))) ∧ ∀ j, j < 16 → w.cell? ⟨1, j, none⟩ = some (.int .u32 ((highT.getD j 0 : Nat) : Int))
theorem Tabs.step {w w' : World} (h : Tabs w) (hs : Step noF w w') : Tabs w' :=
  ⟨fun j hj => (hs.cell (fun h => h) (World.block_lt_of_cell? _ _ (h.1 j hj))).trans (h.1 j hj), fun j hj => (hs.cell (fun h => h) (World.block_lt_of_cell? _ _ (h.2 j hj))).trans (h.2 j hj)⟩

set_option maxHeartbeats 1000000 in
theorem through_any (r : Nat) (hr : r < 4294967296) (s : ByteArray) (hs : s.size ≤ 9223372036854775807) (w : World) (ht : Tabs w) :
    Calls Tryd.prog 50 #[.int .u32 r, .string s] w fun e w' => e = .returned (.int .u32 ((crcRun r s.data.toList : Nat) : Int)) ∧ Step noF w w' := by
  have HT := hid ht
  clear ht
  go_enter Tryd.func50, Tryd.ntmps50
  go_wp2
  go_loopw [0, 9] (fun x i wr => ∃ j : Nat, j ≤ s.size ∧ i = .int .i64 j ∧ x = .int .u32 ((crcRun r (s.data.toList.take j) : Nat) : Int) ∧ Step noF w wr) (fun _ i _ => s.size - (intOf i).toNat)
  case atStart => exact ⟨0, Nat.zero_le _, rfl, rfl, Step.refl _ _⟩
  case round =>
    obtain ⟨j, hj, rfl, rfl, hst⟩ := hrel
    by_cases hlt : j < s.size
    · obtain ⟨R, hR⟩ : ∃ R, crcRun r (s.data.toList.take j) = R := ⟨_, rfl⟩
      have hRl : R < 4294967296 := by rw [← hR]; exact crcRun_lt _ _ hr
      have hb : s[j].toNat < 256 := s[j].toNat_lt
      obtain ⟨t, ht⟩ : ∃ t, R ^^^ s[j].toNat = t := ⟨_, rfl⟩
      have htl : t < 4294967296 := by rw [← ht]; exact xor_lt32 hRl (by omega)
      have e1 : bits .xor .u32 (R : Int) ((s[j].toNat : Int) % 4294967296) = (t : Int) := by
        rw [show ((s[j].toNat : Int) % 4294967296) = (s[j].toNat : Int) by omega, u32_xor_nat _ _ hRl (by omega), ht]
      obtain ⟨i0, hi0⟩ : ∃ i0, t % 16 = i0 := ⟨_, rfl⟩
      obtain ⟨i1, hi1⟩ : ∃ i1, t / 16 % 16 = i1 := ⟨_, rfl⟩
      have l0 : i0 < 16 := by omega
      have l1 : i1 < 16 := by omega
      have k0 : (i0 : Int) < 16 := by omega
      have k1 : (i1 : Int) < 16 := by omega
      have e2 : bits .and .u32 (t : Int) 15 = (i0 : Int) := by rw [← hi0, ← nat_mask4]; exact u32_and_nat _ 15 htl (by decide)
      have e3 : bits .and .u32 ((t : Int) / 16) 15 = (i1 : Int) := by rw [← hi1, ← nat_mask4, show ((t : Int) / 16) = ((t / 16 : Nat) : Int) by omega]; exact u32_and_nat _ 15 (by omega) (by decide)
      obtain ⟨lo, hlo⟩ : ∃ lo, lowT.getD i0 0 = lo := ⟨_, rfl⟩
      obtain ⟨hi, hhi⟩ : ∃ hi, highT.getD i1 0 = hi := ⟨_, rfl⟩
      have llo : lo < 4294967296 := by rw [← hlo]; exact lowT_lt _
      have lhi : hi < 4294967296 := by rw [← hhi]; exact highT_lt _
      have c0 : wr.cell? ⟨0, i0, none⟩ = some (.int .u32 (lo : Int)) := by rw [(HT.out.step hst).1 _ l0, hlo]
      have c1 : wr.cell? ⟨1, i1, none⟩ = some (.int .u32 (hi : Int)) := by rw [(HT.out.step hst).2 _ l1, hhi]
      obtain ⟨q, hq⟩ : ∃ q, R / 256 ^^^ lo = q := ⟨_, rfl⟩
      obtain ⟨z, hz⟩ : ∃ z, stepN R s[j].toNat = z := ⟨_, rfl⟩
      have e4 : bits .xor .u32 ((R : Int) / 256) (lo : Int) = (q : Int) := by rw [← hq, show ((R : Int) / 256) = ((R / 256 : Nat) : Int) by omega]; exact u32_xor_nat _ _ (by omega) llo
      have e5 : bits .xor .u32 (q : Int) (hi : Int) = (z : Int) := by rw [← hq, u32_xor_nat _ _ (xor_lt32 (by omega) llo) lhi, ← hz, ← step_table R s[j].toNat hb, ht, hi0, hi1, hlo, hhi]
      have HS : Hid (crcRun r (s.data.toList.take (j + 1)) = z) := by
        show _ = _
        have h2 : j < s.data.toList.length := by rw [list_len]; exact hlt
        rw [List.take_succ_eq_append_getElem h2, crcRun_append, hR, ← hz]
        rfl
      have HR := hid hR
      rw [hR]
      clear ht hlo hhi llo lhi hR hi0 hi1 hq hz htl hRl hb
      go_wp2
      go_quiet (fail)
      go_wp2
      go_roundw
      case rel => exact ⟨j + 1, by omega, by go_num, int_eq (by rw [HS.out]), hst.drewN _⟩
      case measure => simp [intOf]; omega
    · go_wp2
      go_ret
      have e : s.data.toList.take j = s.data.toList := List.take_of_length_le (by rw [list_len]; omega)
      rw [e]
      exact ⟨rfl, hst⟩

set_option maxHeartbeats 1000000 in
theorem more_any (m : Nat) (hm : m < 4294967296) (ts : List ByteArray) (hl : ts.length ≤ 9223372036854775807) (hts : ∀ t ∈ ts, t.size ≤ 9223372036854775807) (a : Option Addr) (cap : Nat) (w : World) (ht : Tabs w) (hr : RowAt w noF a (strsOf ts)) :
    Calls Tryd.prog 43 #[.int .u32 m, .slice a ts.length cap] w fun e w' => e = .returned (.int .u32 ((moreN m (ts.flatMap (·.data.toList)) : Nat) : Int)) ∧ Step noF w w' := by
  have HT := hid ht
  have HR := hid hr
  clear ht hr
  obtain ⟨R0, hR0⟩ : ∃ R0, 4294967295 ^^^ m = R0 := ⟨_, rfl⟩
  have hR0l : R0 < 4294967296 := by rw [← hR0]; exact xor_lt32 (by decide) hm
  have hsg : IntKind.u32.signed = false := rfl
  have e0 : bits .xor .u32 IntKind.u32.max (m : Int) = (R0 : Int) := by rw [← hR0]; exact u32_xor_nat 4294967295 m (by decide) hm
  have HR0 := hid hR0
  clear hR0
  go_enter Tryd.func43, Tryd.ntmps43
  go_wp2
  go_loopw [5, 12] (fun x i wr => ∃ j : Nat, j ≤ ts.length ∧ i = .int .i64 j ∧ x = .int .u32 ((crcRun R0 ((ts.take j).flatMap (·.data.toList)) : Nat) : Int) ∧ Step noF w wr) (fun _ i _ => ts.length - (intOf i).toNat)
  case atStart => exact ⟨0, Nat.zero_le _, rfl, by simp [crcRun_nil], Step.refl _ _⟩
  case round =>
    obtain ⟨j, hj, rfl, rfl, hst⟩ := hrel
    by_cases hlt : j < ts.length
    · obtain ⟨R, hR⟩ : ∃ R, crcRun R0 ((ts.take j).flatMap (·.data.toList)) = R := ⟨_, rfl⟩
      have hRl : R < 4294967296 := by rw [← hR]; exact crcRun_lt _ _ hR0l
      obtain ⟨b, off, rfl, hc⟩ := RowAt.at HR.out j hlt
      have hc1 : wr.cell? ⟨b, off + j, none⟩ = some (.string ts[j]) := (hst.cell (p := ⟨b, off + j, none⟩) (fun h => h) (World.block_lt_of_cell? w _ hc)).trans hc
      have hsz := hts ts[j] (List.getElem_mem hlt)
      have HS : Hid (crcRun R0 ((ts.take (j + 1)).flatMap (·.data.toList)) = crcRun R ts[j].data.toList) := by
        show _ = _
        rw [List.take_succ_eq_append_getElem hlt, List.flatMap_append, crcRun_append, hR]
        simp
      rw [hR]
      clear hR hc
      generalize ts[j] = t at *
      have HC := HT.out.step hst
      go_wp2_with (go_at_call 50; refine (through_any R hRl t hsz _ HC).mono ?_; rintro e w1 ⟨rfl, s1⟩)
      go_roundw
      case rel => exact ⟨j + 1, by omega, by go_num, int_eq (by rw [HS.out]), hst.trans s1⟩
      case measure => simp [intOf]; omega
    · obtain ⟨R, hR⟩ : ∃ R, crcRun R0 ((ts.take j).flatMap (·.data.toList)) = R := ⟨_, rfl⟩
      have hRl : R < 4294967296 := by rw [← hR]; exact crcRun_lt _ _ hR0l
      obtain ⟨z, hz⟩ : ∃ z, 4294967295 ^^^ R = z := ⟨_, rfl⟩
      have e1 : bits .xor .u32 IntKind.u32.max (R : Int) = (z : Int) := by rw [← hz]; exact u32_xor_nat 4294967295 R (by decide) hRl
      have HS : Hid (z = moreN m (ts.flatMap (·.data.toList))) := by
        show _ = _
        rw [← hz, ← hR, List.take_of_length_le (by omega)]
        unfold moreN
        rw [HR0.out]
      rw [hR]
      clear hR hz
      go_wp2
      go_ret
      exact ⟨ret_int (by rw [HS.out]), hst⟩

set_option maxHeartbeats 400000 in
theorem sum_any (ts : List ByteArray) (hl : ts.length ≤ 9223372036854775807) (hts : ∀ t ∈ ts, t.size ≤ 9223372036854775807) (a : Option Addr) (cap : Nat) (w : World) (ht : Tabs w) (hr : RowAt w noF a (strsOf ts)) :
    Calls Tryd.prog 32 #[.slice a ts.length cap] w fun e w' => e = .returned (.int .u32 ((moreN 0 (ts.flatMap (·.data.toList)) : Nat) : Int)) ∧ Step noF w w' := by
  have h := fun w ht hr => more_any 0 (by decide) ts hl hts a cap w ht hr
  go_enter Tryd.func32, Tryd.ntmps32
  go_wp2_with (go_at_call 43; refine (h _ ht hr).mono ?_; rintro e w1 ⟨rfl, s1⟩)
  go_ret
  exact ⟨rfl, s1⟩

theorem more_call (m : Nat) (hm : m < 4294967296) (ts : List ByteArray) (len : Nat) (hlen : len = ts.length) (hl : ts.length ≤ 1000) (hts : ∀ t ∈ ts, t.size ≤ 9223372036854775807) (a : Option Addr) (cap : Nat) (w : World) (ht : Tabs w) (hr : RowAt w noF a (strsOf ts)) (z : Nat) (hz : moreN m (ts.flatMap (·.data.toList)) = z) :
    Calls Tryd.prog 43 #[.int .u32 m, .slice a len cap] w fun e w' => e = .returned (.int .u32 (z : Int)) ∧ Step noF w w' := by
  subst hlen hz
  exact more_any m hm ts (by omega) hts a cap w ht hr
theorem sum_call (ts : List ByteArray) (len : Nat) (hlen : len = ts.length) (hl : ts.length ≤ 1000) (hts : ∀ t ∈ ts, t.size ≤ 9223372036854775807) (a : Option Addr) (cap : Nat) (w : World) (ht : Tabs w) (hr : RowAt w noF a (strsOf ts)) (z : Nat) (hz : moreN 0 (ts.flatMap (·.data.toList)) = z) :
    Calls Tryd.prog 32 #[.slice a len cap] w fun e w' => e = .returned (.int .u32 (z : Int)) ∧ Step noF w w' := by
  subst hlen hz
  exact sum_any ts (by omega) hts a cap w ht hr
end Go.Proofs.YthdcmobnookhdaaDoor
