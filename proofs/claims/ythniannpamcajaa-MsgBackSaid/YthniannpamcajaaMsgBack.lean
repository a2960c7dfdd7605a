/-
  MsgBack.
-/
import Derived.Test.YthniannpamcajaaMsgF
import Derived.Test.YthniannpamcajaaMsgAwake
import Derived.BigRegion
import Derived.Deep.RegionWith
namespace Go.Proofs.Ythniannpamcajaa
open Go.RowKit
set_option linter.unusedVariables false
set_option linter.unusedSimpArgs false

theorem bytesAll_drop (ms : List Mg) (j : Nat) (hj : j < ms.length) : bytesAll (ms.drop j) = ms[j].bytes ++ bytesAll (ms.drop (j + 1)) := by
  rw [List.drop_eq_getElem_cons hj]
  rfl
theorem is_take (ms : List Mg) (j : Nat) (hj : j < ms.length) (h : ∀ m ∈ ms.take j, m.is = true) (h2 : ms[j].is = true) : ∀ m ∈ ms.take (j + 1), m.is = true := by
  intro m hm
  rw [List.take_succ_eq_append_getElem hj] at hm
  rcases List.mem_append.1 hm with hm | hm
  · exact h m hm
  · simp at hm
    rw [hm]
    exact h2
theorem back_long (ms : List Mg) (a : Option Addr) (cap : Nat) (w : World) (h : 20 < ms.length) :
    Calls Try.prog 7 #[.slice a ms.length cap] w fun e w' => e = .returned (.bool true) ∧ Step noF w w' := by
  go_enter Try.func7, Try.ntmps7
  go_wp2_with fail
  refine (awake_any _).mono ?_
  rintro e w1 ⟨rfl, s1⟩
  go_wp2_with fail
  go_ret
  exact ⟨rfl, s1⟩

set_option maxHeartbeats 8000000 in
set_option maxRecDepth 100000 in
theorem back_in (ms : List Mg) (hms : ∀ m ∈ ms, m.val.length ≤ maxLen) (a : Option Addr) (cap : Nat) (w : World) (hr : MsgsAt w noF a ms) (hl : ms.length ≤ 20) :
    Calls Try.prog 7 #[.slice a ms.length cap] w fun e w' => e = .returned (.bool true) ∧ Step noF w w' := by
  have hE := same_str
  have HR := hid hr
  have HM := hid hms
  clear hr hms
  go_enter Try.func7, Try.ntmps7
  go_wp2_with fail
  refine (awake_any _).mono ?_
  rintro e w1 ⟨rfl, s1⟩
  have S1 := hid s1
  clear s1
  go_wp2_with fail
  go_loopw [3, 4] (fun wt i wr => ∃ (j : Nat), j ≤ ms.length ∧ i = .int .i64 j ∧ wt = .int .i64 ((bytesAll (ms.take j)).length : Nat) ∧ (∀ m ∈ ms.take j, m.is = true) ∧ Step noF w wr) (fun _ i _ => ms.length - (intOf i).toNat)
  case atStart => exact ⟨0, Nat.zero_le _, rfl, rfl, fun m hm => by simp at hm, S1.out⟩
  case round =>
    obtain ⟨j, hj, rfl, rfl, hall, st⟩ := hrel
    have ST := hid st
    have HA := hid hall
    have hbl : Hid ((bytesAll (ms.take j)).length ≤ 540) := by
      show _ ≤ _
      have h1 := bytesAll_length (ms.take j) hall
      have h3 : (ms.take j).length ≤ 20 := by rw [List.length_take]; omega
      omega
    clear st hall S1
    by_cases hjl : j < ms.length
    · have hR2 : MsgsAt wr noF a ms := HR.out.step ST.out (fun _ h => h)
      obtain ⟨g, off, rfl, hgF, hgl, c0, c1, c2⟩ := hR2.at2 j hjl
      have HG := hid hgl
      have HI := hid (HM.out ms[j] (List.getElem_mem hjl))
      have HT := hid (bytesAll_take ms j hjl)
      have HX := hid (is_take ms j hjl HA.out)
      obtain ⟨⟨k, x, y⟩, hm⟩ : ∃ m, ms[j] = m := ⟨_, rfl⟩
      rw [hm] at c0 c1 c2 HI HT HX
      clear hm hR2 hgF hgl
      have cI := mis_any ⟨k, x, y⟩ HI.out
      have e0 : (Mg.mk k x y).value = .agg #[.int .i64 k, .string (str x), .string (str y)] := rfl
      rw [e0] at cI
      obtain ⟨bl, hbl'⟩ : ∃ bl, (bytesAll (ms.take j)).length = bl := ⟨_, rfl⟩
      rw [hbl'] at hbl
      have HBL := hid hbl'
      rw [hbl']
      clear hbl'
      cases hi : (Mg.mk k x y).is
      · rw [hi] at cI
        clear hi
        go_wp2_with fail
        refine (cI _).mono ?_
        rintro e w2 ⟨rfl, s2⟩
        have S2 := hid (ST.out.trans s2)
        clear s2
        go_wp2_with fail
        go_ret
        exact ⟨rfl, S2.out⟩
      · have hxl := Mg.key_le hi
        have hyl := Mg.val_le hi
        have cW := weight_any ⟨k, x, y⟩ (by omega) (by omega)
        rw [e0, ← Mg.bytes_length] at cW
        obtain ⟨q, hq⟩ : ∃ q, (Mg.mk k x y).bytes.length = q := ⟨_, rfl⟩
        have hq2 : Hid (q ≤ 27) := by show _ ≤ _; rw [← hq, Mg.bytes_length]; simp at hxl hyl ⊢; omega
        rw [hq] at cW
        have HQ := hid hq
        have HX2 := hid (HX.out hi)
        rw [hi] at cI
        have b1 := hq2.out
        have b2 := hbl.out
        clear hi hxl hyl hq
        go_wp2_with fail
        refine (cI _).mono ?_
        rintro e w2 ⟨rfl, s2⟩
        have S2 := hid (ST.out.trans s2)
        have d0 := s2.after c0
        have d1 := s2.after c1
        have d2 := s2.after c2
        clear s2 c0 c1 c2
        go_wp2_with fail
        refine (cW _).mono ?_
        rintro e w3 ⟨rfl, s3⟩
        have S3 := hid (S2.out.trans s3)
        clear s3 d0 d1 d2
        go_wp2_with fail
        go_roundw
        case rel => exact ⟨j + 1, by omega, int_eq (by omega), int_eq (by rw [HT.out, List.length_append, HBL.out, HQ.out]; omega), HX2.out, S3.out⟩
        case measure => simp [intOf]; omega
    · obtain rfl : j = ms.length := by omega
      rw [List.take_of_length_le (Nat.le_refl _)]
      rw [List.take_of_length_le (Nat.le_refl _)] at HA hbl
      have hR3 : MsgsAt (wr.alloc (.cells #[.slice none 0 0] 46)) (oneF wr.heap.size) a ms := ((HR.out.step ST.out (fun _ h => h)).foot (fun k hk (h : k = wr.heap.size) => by omega)).step ((Step.refl noF wr).alloc _) (fun _ h => h.elim)
      have cW := write_good ms HA.out (by omega) a cap wr.heap.size (oneF wr.heap.size) [] _ (newOut wr) (by simp) hR3
      rw [List.nil_append] at cW
      obtain ⟨B, hB⟩ : ∃ B, bytesAll ms = B := ⟨_, rfl⟩
      rw [hB] at cW hbl ⊢
      obtain ⟨bl, hbl'⟩ : ∃ bl, B.length = bl := ⟨_, rfl⟩
      rw [hbl'] at hbl
      have HBL := hid hbl'
      rw [hbl']
      have b2 := hbl.out
      have HBB := hid hB
      have hsz : Hid (w.heap.size ≤ wr.heap.size) := ST.out.size
      clear hR3 hbl' hB
      go_wp2_with fail
      refine cW.mono ?_
      rintro e w2 ⟨rfl, F2, s2, o2, f2⟩
      have S2 : Hid (Step noF w w2) := (ST.out.alloc _).then s2 (fun i (h : i = wr.heap.size) => .inr (by have := hsz.out; omega))
      have O2 := hid o2
      clear s2 o2 f2
      go_wp2_with fail
      refine (len_call _ F2 B _ O2.out bl (by rw [HBL.out])).mono ?_
      rintro e w' ⟨rfl, rfl⟩
      go_wp2_with fail
      refine (bytes_any _ F2 B _ O2.out).mono ?_
      rintro e w' ⟨rfl, rfl⟩
      go_wp2_with fail
      refine (of_any B _).mono ?_
      rintro e w3 ⟨rfl, s3, i3, z3⟩
      have S3 := hid (S2.out.trans s3)
      have I3 := hid i3
      have hq2 : Hid (w.heap.size ≤ w2.heap.size) := S2.out.size
      clear s3 i3 z3
      obtain ⟨q, hq⟩ : ∃ q, w2.heap.size = q := ⟨_, rfl⟩
      rw [hq] at I3 hq2
      go_wp2_with fail
      try rw [hq]
      clear hq
      go_loopw [7] (fun i wr => ∃ (j : Nat), j ≤ ms.length ∧ i = .int .i64 j ∧ IsIn wr q (bytesAll (ms.drop j)) 0 ∧ Step noF w wr) (fun i _ => ms.length - (intOf i).toNat)
      case atStart => exact ⟨0, Nat.zero_le _, rfl, by rw [List.drop_zero, HBB.out]; exact I3.out, S3.out⟩
      case round =>
        obtain ⟨j, hj, rfl, inn, st⟩ := hrel
        have STT := hid st
        have IN := hid inn
        clear st inn I3 S3
        by_cases hjl : j < ms.length
        · have hR2 : MsgsAt wr noF a ms := HR.out.step STT.out (fun _ h => h)
          have hR4 : MsgsAt w noF a ms := HR.out
          obtain ⟨g', off', ha', hgF', hgl', _⟩ := hR4.at2 j hjl
          obtain ⟨g, off, ha, hgF, hgl, c0, c1, c2⟩ := hR2.at2 j hjl
          obtain ⟨rfl, rfl⟩ : g = g' ∧ off = off' := by
            rw [ha] at ha'
            injection ha' with h
            injection h with h1 h2
            exact ⟨h1, h2⟩
          subst ha
          have hgq : Hid (¬ oneF q g) := fun e => by have h1 : g = q := e; have := hq2.out; omega
          have HG := hid hgl
          have HI := hid (HA.out ms[j] (List.getElem_mem hjl))
          have HD := hid (bytesAll_drop ms j hjl)
          have HLE : Hid ((ms[j].bytes ++ bytesAll (ms.drop (j + 1))).length ≤ maxLen) := by
            show _ ≤ _
            rw [← HD.out]
            have h1 := bytesAll_length (ms.drop j) (fun m hm => HA.out m (List.mem_of_mem_drop hm))
            have h3 : (ms.drop j).length ≤ 20 := by rw [List.length_drop]; omega
            unfold maxLen
            omega
          obtain ⟨⟨k, x, y⟩, hm⟩ : ∃ m, ms[j] = m := ⟨_, rfl⟩
          rw [hm] at c0 c1 c2 HI HD HLE
          have IN2 : Hid (IsIn wr q ((Mg.mk k x y).bytes ++ bytesAll (ms.drop (j + 1))) 0) := by
            show IsIn _ _ _ _
            rw [← HD.out]
            exact IN.out
          have cR := fun (u : World) (hu : IsIn u q ((Mg.mk k x y).bytes ++ bytesAll (ms.drop (j + 1))) 0) => read_good ⟨k, x, y⟩ HI.out (bytesAll (ms.drop (j + 1))) q u hu HLE.out
          have e0 : (Mg.mk k x y).value = .agg #[.int .i64 k, .string (str x), .string (str y)] := rfl
          rw [e0] at cR
          clear hm hR2 hR4 hgF hgF' ha' hgl hgl' e0
          go_wp2_with fail
          go_region_with (go_at_call 26; refine (cR _ (by exact IN2.out)).mono ?_; rintro e w4 ⟨rfl, s4, i4⟩; have d0 := (s4.cell (p := ⟨g, off + j * 3, none⟩) hgq.out HG.out).trans c0; have d1 := (s4.cell (p := ⟨g, off + j * 3 + 1, none⟩) hgq.out HG.out).trans c1; have d2 := (s4.cell (p := ⟨g, off + j * 3 + 2, none⟩) hgq.out HG.out).trans c2; have I4 := hid i4; have S4 : Hid (Step noF w w4) := STT.out.drew.then s4 (fun i (h : i = q) => .inr (by have := hq2.out; omega)); clear s4 i4 c0 c1 c2)
          all_goals
            go_wp2_with fail
            go_roundw
            case rel => exact ⟨j + 1, by omega, int_eq (by omega), I4.out, S4.out⟩
            case measure => simp [intOf]; omega
        · obtain rfl : j = ms.length := by omega
          have IN2 : Hid (IsIn wr q [] 0) := by
            have := IN.out
            rw [List.drop_of_length_le (Nat.le_refl _)] at this
            exact this
          go_wp2_with fail
          refine (end_call q [] 0 _ IN2.out 0 rfl).mono ?_
          rintro e w' ⟨rfl, rfl⟩
          go_wp2_with fail
          go_ret
          exact ⟨rfl, STT.out⟩
theorem back_walk (ms : List Mg) (hms : ∀ m ∈ ms, m.val.length ≤ maxLen) (a : Option Addr) (cap : Nat) (w : World) (hr : MsgsAt w noF a ms) :
    Calls Try.prog 7 #[.slice a ms.length cap] w fun e w' => e = .returned (.bool true) ∧ Step noF w w' := by
  by_cases h : ms.length ≤ 20
  · exact back_in ms hms a cap w hr h
  · exact back_long ms a cap w (by omega)
end Go.Proofs.Ythniannpamcajaa
