/-
  What the reference's Next does, and whether a range is empty, of both.
-/
import Derived.Test.YtilinbmocmodhaaKeyE
import Derived.Test.YtilinbmocmodhaaRowIn
namespace Go.Proofs.Ytilinbmocmodhaa
open Go.RowKit
set_option linter.unusedVariables false
set_option linter.unusedSimpArgs false

theorem run_index_str {P : Program} (t : TypeId) (h : P.underlying t = some .string) (l : List UInt8) (i : Nat) (hi : i < l.length) (w : World) : (Instr.index t (.string (str l)) (.int .i64 (i : Int))).run P w = .ok (.int .u8 (l[i].toNat : Int)) w := by
  have hi2 : (0 : Int) ≤ (i : Int) ∧ (i : Int) < (str l).size := by rw [str_size]; omega
  rw [run_index_string w t (str l) .i64 (i : Int) h, dif_pos hi2]
  congr 3
theorem run_take_str {P : Program} (t : TypeId) (h : P.underlying t = some .string) (l : List UInt8) (i : Nat) (hi : i ≤ l.length) (w : World) : (Instr.slice t (.string (str l)) none (some (.int .i64 (i : Int))) none).run P w = .ok (.string (str (l.take i))) w := by
  rw [run_slice_string_to_if w t (str l) .i64 (i : Int) h, if_pos (by rw [str_size]; omega)]
  rw [str_extract]
  simp

set_option maxHeartbeats 1000000 in
set_option maxRecDepth 100000 in
theorem refNext_in (k : List UInt8) (hk : k.length = 8) (w : World) : Calls Try.prog 36 #[.string (str k)] w fun e w' => e = .returned (optV (upL k 8)) ∧ Step noF w w' := by
  have hz := str_size
  have hK : isK k = true := by simp [isK, hk]; intro h; simp [h] at hk
  have h0 := nil_str
  go_enter Try.func36, Try.ntmps36
  go_wp2_with (go_at_call 34; refine (refIs_any _ _).mono ?_; rintro e w' ⟨rfl, rfl⟩)
  go_loopw [4] (fun v wr => ∃ n : Nat, n ≤ 8 ∧ v = .int .i64 (n : Int) ∧ Hid (upL k 8 = upL k n) ∧ w = wr) (fun v _ => (intOf v).toNat)
  case atStart => exact ⟨8, Nat.le_refl _, rfl, rfl, rfl⟩
  case round =>
    obtain ⟨n, hn, rfl, hU, rfl⟩ := hrel
    cases n with
    | zero =>
      have hE : Hid (upL k 8 = none) := hU.out
      go_wp2_with fail
      go_ret2
      exact ⟨ret_opt (by rw [hE.out]; rfl) (by rw [hE.out]; rfl), Step.refl _ _⟩
    | succ m =>
      have hm : m < k.length := by omega
      have e1 : ((m + 1 : Nat) : Int) - 1 = m := by omega
      have hg : Hid (k.getD m 0 = k[m]) := by show _ = _; simp [List.getD, List.getElem?_eq_getElem hm]
      have hlt := UInt8.toNat_lt k[m]
      obtain ⟨x, hx⟩ : ∃ x, k[m].toNat = x := ⟨_, rfl⟩
      have hix : ∀ wx : World, (Instr.index 9 (.string (str k)) (.int .i64 (m : Int))).run Try.prog wx = .ok (.int .u8 (x : Int)) wx := fun wx => by rw [← hx]; exact run_index_str _ Try.underlying9 k m hm wx
      have hsl : ∀ wx : World, (Instr.slice 9 (.string (str k)) none (some (.int .i64 (m : Int))) none).run Try.prog wx = .ok (.string (str (k.take m))) wx := fun wx => run_take_str _ Try.underlying9 k m (by omega) wx
      have HX := hid hx
      rw [hx] at hlt
      clear hx hz e1 hK
      by_cases h255 : x = 255
      · subst h255
        have hU2 : Hid (upL k 8 = upL k m) := by
          show _ = _
          have hb : k[m] = 255 := by apply UInt8.toNat_inj.1; rw [HX.out]; rfl
          rw [hU.out, upL, hg.out, if_pos hb]
        go_wp2_with fail
        go_roundw
        case rel => exact ⟨m, by omega, by first | rfl | exact int_eq (by omega), hU2.out, by first | trivial | rfl⟩
        case measure => simp [intOf]
      · have hx2 : x < 255 := by omega
        obtain ⟨b, hb⟩ : ∃ b, k[m] + 1 = b := ⟨_, rfl⟩
        have hbv : (b.toNat : Int) = (x : Int) + 1 := by
          rw [← hb, UInt8.toNat_add, HX.out]
          have : (1 : UInt8).toNat = 1 := rfl
          rw [this]
          omega
        have hcv : ∀ (wx : World) (g : Nat), wx.cell? ⟨g, 0, none⟩ = some (.int .u8 ((x : Int) + 1)) → (convert 49 9 (.slice (some ⟨g, 0, none⟩) 1 1)).run Try.prog wx = .ok (.string (str [b])) wx := by
          intro wx g hc
          refine run_convert_bytes_back wx 49 9 5 ⟨g, 0, none⟩ 1 [b] Try.underlying49 Try.underlying5 Try.underlying9 (fun j hj => ?_)
          obtain rfl : j = 0 := by simpa using hj
          rw [Addr.add_lit, hc]
          simp [hbv]
        have hadd : Op.stringOp .add (str (k.take m)) (str [b]) = pure (.string (str (k.take m ++ [b]))) := by
          have : (str (k.take m)).size + (str [b]).size ≤ 9 := by rw [str_size, str_size]; simp; omega
          unfold Op.stringOp
          simp only
          rw [if_neg (by have : IntKind.i64.max = 9223372036854775807 := rfl; omega), str_app]
        have hxw : IntKind.u8.wrap ((x : Int) + 1) = (x : Int) + 1 := by simp [IntKind.wrap, IntKind.bits, IntKind.signed]; omega
        have hU2 : Hid (upL k 8 = some (k.take m ++ [b])) := by
          show _ = _
          have h : ¬ k[m] = 255 := fun h => h255 (by rw [← HX.out, h]; rfl)
          rw [hU.out, upL, hg.out, if_neg h, hb]
        clear hbv hb
        go_wp2_with fail
        go_region
        go_wp2_with fail
        go_ret2
        exact ⟨ret_opt (by rw [hU2.out]; rfl) (by rw [hU2.out]; rfl), ((Step.refl noF w).alloc _).drew⟩
theorem leastFrom_any (s : List UInt8) (w : World) : Calls Try.prog 35 #[.string (str s)] w fun e w' => e = .returned (optV (firstL s)) ∧ Step noF w w' := by
  have h0 := nil_str
  have h1 := zero_str
  have hE := same_str
  by_cases hs : s = []
  · have HN : Hid (firstL s = some [0]) := by show _ = _; simp [firstL, hs]
    go_enter Try.func35, Try.ntmps35
    go_wp2
    go_ret2
    exact ⟨ret_opt (by rw [HN.out]; rfl) (by rw [HN.out]; rfl), Step.refl _ _⟩
  · by_cases h8 : s.length ≤ 8
    · have hK : isK s = true := by simp [isK, hs, h8]
      have HN : Hid (firstL s = some s) := by show _ = _; simp [firstL, hs, h8]
      go_enter Try.func35, Try.ntmps35
      go_wp2_with (go_at_call 23; refine (is_any _ _).mono ?_; rintro e w' ⟨rfl, rfl⟩)
      go_ret2
      exact ⟨ret_opt (by rw [HN.out]; rfl) (by rw [HN.out]; rfl), Step.refl _ _⟩
    · have hK : isK s = false := by simp [isK, hs, h8]
      have HN : Hid (firstL s = upL (s.take 8) 8) := by show _ = _; simp [firstL, hs, h8]
      have hsl : ∀ wx : World, (Instr.slice 9 (.string (str s)) none (some (.int .i64 8)) none).run Try.prog wx = .ok (.string (str (s.take 8))) wx := fun wx => run_take_str _ Try.underlying9 s 8 (by omega) wx
      have hl : (s.take 8).length = 8 := by rw [List.length_take]; omega
      obtain ⟨o, ho⟩ : ∃ o, upL (s.take 8) 8 = o := ⟨_, rfl⟩
      have hn := next_in (s.take 8) hl
      rw [ho] at hn
      unfold optV at hn
      have HN2 : Hid (firstL s = o) := HN.out.trans ho
      clear HN ho hl
      go_enter Try.func35, Try.ntmps35
      go_wp2_with (first | (go_at_call 23; refine (is_any _ _).mono ?_; rintro e w' ⟨rfl, rfl⟩) | (go_at_call 21; refine (hn _).mono ?_; rintro e w2 ⟨rfl, s2⟩))
      go_ret2
      exact ⟨ret_opt (by rw [HN2.out]) (by rw [HN2.out]), s2⟩
theorem isEmpty_any (r : Rg) (w : World) : Calls Try.prog 17 #[r.val] w fun e w' => e = .returned (.bool r.none) ∧ Step noF w w' := by
  have e0 : r.val = .agg #[.string (str r.lo), .string (str r.hi)] := rfl
  rw [e0]
  obtain ⟨o, ho⟩ : ∃ o, firstL r.lo = o := ⟨_, rfl⟩
  have hl := leastFrom_any r.lo
  rw [ho] at hl
  unfold optV at hl
  have HO := hid ho
  clear ho
  cases o with
  | none =>
    have HE : Hid (r.none = true) := by show _ = _; simp [Rg.none, HO.out, hasO]
    simp only [txt0, Option.getD_none, Option.isSome_none] at hl
    go_enter Try.func17, Try.ntmps17
    go_wp2_with (go_at_call 35; refine (hl _).mono ?_; rintro e w2 ⟨rfl, s2⟩)
    go_ret
    exact ⟨ret_bool (by rw [HE.out]), ((Step.refl noF w).alloc _).trans s2⟩
  | some k =>
    have HE : Hid (r.none = !r.has k) := by show _ = _; simp [Rg.none, HO.out, hasO]
    simp only [txt0, Option.getD_some, Option.isSome_some] at hl
    have hc := has_any r k
    rw [e0] at hc
    go_enter Try.func17, Try.ntmps17
    go_wp2_with fail
    refine (hl _).mono ?_
    rintro e w2 ⟨rfl, s2⟩
    have c0 : w2.cell? ⟨w.heap.size, 0, none⟩ = some (.string (str r.lo)) := s2.after (by simp)
    have c1 : w2.cell? ⟨w.heap.size, 1, none⟩ = some (.string (str r.hi)) := s2.after (by simp)
    go_wp2_with fail
    refine (hc _).mono ?_
    rintro e w3 ⟨rfl, s3⟩
    go_wp2_with fail
    go_ret
    exact ⟨ret_bool (by rw [HE.out]), (((Step.refl noF w).alloc _).trans s2).trans s3⟩
theorem refEmpty_any (r : Rg) (w : World) : Calls Try.prog 18 #[r.val] w fun e w' => e = .returned (.bool r.none) ∧ Step noF w w' := by
  have e0 : r.val = .agg #[.string (str r.lo), .string (str r.hi)] := rfl
  have h0 := nil_str
  have h1 := zero_str
  have hE := same_str
  have hz := str_size
  rw [e0]
  by_cases hs : r.lo = []
  · have HE : Hid (r.none = !r.has [0]) := by show _ = _; simp [Rg.none, firstL, hs, hasO]
    have hc := refHas_any r [0]
    rw [e0, hs] at hc
    rw [hs]
    clear hs
    go_enter Try.func18, Try.ntmps18
    go_wp2_with (go_at_call 16; refine (hc _).mono ?_; rintro e w2 ⟨rfl, s2⟩)
    go_ret
    exact ⟨ret_bool (by rw [HE.out]), ((Step.refl noF w).alloc _).trans s2⟩
  · by_cases h8 : r.lo.length ≤ 8
    · have HE : Hid (r.none = !r.has r.lo) := by show _ = _; simp [Rg.none, firstL, hs, h8, hasO]
      have hc := refHas_any r r.lo
      rw [e0] at hc
      go_enter Try.func18, Try.ntmps18
      go_wp2_with (go_at_call 16; refine (hc _).mono ?_; rintro e w2 ⟨rfl, s2⟩)
      go_ret
      exact ⟨ret_bool (by rw [HE.out]), ((Step.refl noF w).alloc _).trans s2⟩
    · have HN : Hid (firstL r.lo = upL (r.lo.take 8) 8) := by show _ = _; simp [firstL, hs, h8]
      have hsl : ∀ wx : World, (Instr.slice 9 (.string (str r.lo)) none (some (.int .i64 8)) none).run Try.prog wx = .ok (.string (str (r.lo.take 8))) wx := fun wx => run_take_str _ Try.underlying9 r.lo 8 (by omega) wx
      have hl : (r.lo.take 8).length = 8 := by rw [List.length_take]; omega
      obtain ⟨o, ho⟩ : ∃ o, upL (r.lo.take 8) 8 = o := ⟨_, rfl⟩
      have hn := refNext_in (r.lo.take 8) hl
      rw [ho] at hn
      unfold optV at hn
      have HN2 : Hid (firstL r.lo = o) := HN.out.trans ho
      clear HN ho hl
      cases o with
      | none =>
        have HE : Hid (r.none = true) := by show _ = _; simp [Rg.none, HN2.out, hasO]
        simp only [txt0, Option.getD_none, Option.isSome_none] at hn
        go_enter Try.func18, Try.ntmps18
        go_wp2_with (go_at_call 36; refine (hn _).mono ?_; rintro e w2 ⟨rfl, s2⟩)
        go_ret
        exact ⟨ret_bool (by rw [HE.out]), ((Step.refl noF w).alloc _).trans s2⟩
      | some k =>
        have HE : Hid (r.none = !r.has k) := by show _ = _; simp [Rg.none, HN2.out, hasO]
        simp only [txt0, Option.getD_some, Option.isSome_some] at hn
        have hc := refHas_any r k
        rw [e0] at hc
        go_enter Try.func18, Try.ntmps18
        go_wp2_with fail
        refine (hn _).mono ?_
        rintro e w2 ⟨rfl, s2⟩
        have c0 : w2.cell? ⟨w.heap.size, 0, none⟩ = some (.string (str r.lo)) := s2.after (by simp)
        have c1 : w2.cell? ⟨w.heap.size, 1, none⟩ = some (.string (str r.hi)) := s2.after (by simp)
        go_wp2_with fail
        refine (hc _).mono ?_
        rintro e w3 ⟨rfl, s3⟩
        go_wp2_with fail
        go_ret
        exact ⟨ret_bool (by rw [HE.out]), (((Step.refl noF w).alloc _).trans s2).trans s3⟩
end Go.Proofs.Ytilinbmocmodhaa
