/-
  The law BuffExact: of every two rows of messages the buffer, and what it is with more, are the document's.
-/
import Derived.Test.YtipgbpopcamllaaBfAw
import Derived.Test.YtipgbpopcamllaaBfRA
import Derived.Test.YtipgbpopcamllaaBfExR
import Derived.Deep.Cut
namespace Go.Proofs.Ytipgbpopcamllaa
open Go.RowKit Go.Sort
set_option linter.unusedVariables false
set_option linter.unusedSimpArgs false
set_option maxRecDepth 20000

theorem list_rowB (p : Nat) (xs : List Mg) (hl : xs.length ≤ 1000000) (w : World) (h : BuffAt w p xs) :
    Calls Try.prog 10 #[.pointer (some ⟨p, 0, none⟩)] w fun e w' => ∃ a c, e = .returned (.slice a xs.length c) ∧ Hid (MsgsAt w' noF a xs) ∧ Hid (Step noF w w') := by
  refine (listB_any p xs hl w h).mono ?_
  rintro e w' ⟨v, rfl, o, s⟩
  obtain ⟨a, c, rfl, _, _, r⟩ := owns_msgs o
  exact ⟨a, c, rfl, r, s⟩
theorem take_rowB (p : Nat) (xs : List Mg) (hl : xs.length ≤ 1000000) (hR : RisingM xs) (hG : GoodM xs) (r : Rg) (w : World) (h : BuffAt w p xs) :
    Calls Try.prog 14 #[.pointer (some ⟨p, 0, none⟩), .agg #[.string (str r.lo), .string (str r.hi)]] w fun e w' => ∃ a c, e = .returned (.slice a (takeM r xs).length c) ∧ Hid (a = none → c = 0) ∧ Hid (MsgsAt w' noF a (takeM r xs)) ∧ Hid (Step noF w w') := by
  refine (takeB_any p xs hl hR hG r w h).mono ?_
  rintro e w' ⟨v, rfl, o, s⟩
  obtain ⟨a, c, rfl, _, n, r⟩ := owns_msgs o
  exact ⟨a, c, rfl, n.1, r, s⟩
theorem refTake_rowB (xs : List Mg) (hl : xs.length ≤ 1000000) (r : Rg) (bb : Bool) (a : Option Addr) (c : Nat) (w : World) (h : MsgsAt w noF a xs) :
    Calls Try.prog 15 #[.slice a xs.length c, .agg #[.string (str r.lo), .string (str r.hi)], .bool bb] w fun e w' => ∃ a' c', e = .returned (.slice a' (pickM r bb xs).length c') ∧ Hid (MsgsAt w' noF a' (pickM r bb xs)) ∧ Hid (Step noF w w') := by
  refine (refTakeB_any xs hl r bb a c w h).mono ?_
  rintro e w' ⟨v, rfl, o, s⟩
  obtain ⟨a', c', rfl, _, r'⟩ := o.msv
  exact ⟨a', c', rfl, r', s⟩
theorem refSame_yesB (xs : List Mg) (hl : xs.length ≤ 1000000) (a1 a2 : Option Addr) (c1 c2 : Nat) (w : World) (h1 : MsgsAt w noF a1 xs) (h2 : MsgsAt w noF a2 xs) :
    Calls Try.prog 9 #[.slice a1 xs.length c1, .slice a2 xs.length c2] w fun e w' => e = .returned (.bool true) ∧ Hid (Step noF w w') := by
  refine (refSameB_any xs xs ⟨hl, hl⟩ a1 a2 c1 c2 w h1 h2).mono ?_
  rintro e w' ⟨rfl, s⟩
  exact ⟨by rw [(sameM_iff _ _).2 rfl], s⟩
theorem findM_snoc (k : List UInt8) (x : Mg) : ∀ xs : List Mg, findM k xs = none → findM k (xs ++ [x]) = if x.key = k then some x else none
  | [], _ => rfl
  | y :: ys, h => by
    rw [findM] at h
    split at h
    · cases h
    · rename_i hy
      rw [List.cons_append, findM, if_neg hy, findM_snoc k x ys h]
theorem findM_keep (k : List UInt8) (x : Mg) : ∀ (xs : List Mg) (z : Mg), findM k xs = some z → findM k (xs ++ [x]) = some z
  | [], z, h => by simp [findM] at h
  | y :: ys, z, h => by
    rw [findM] at h
    rw [List.cons_append, findM]
    split at h
    · rename_i hy
      rw [if_pos hy]; exact h
    · rename_i hy
      rw [if_neg hy]; exact findM_keep k x ys z h
theorem findM_step (k : List UInt8) (xs : List Mg) (hR : RisingM xs) (j : Nat) (hj : j < xs.length) : findM k (xs.take (j + 1)) = if xs[j].key = k then some xs[j] else findM k (xs.take j) := by
  rw [List.take_succ_eq_append_getElem hj]
  cases hf : findM k (xs.take j) with
  | none => rw [findM_snoc k _ _ hf]
  | some z =>
    rw [findM_keep k _ _ z hf]
    by_cases hk : xs[j].key = k
    · exfalso
      obtain ⟨h1, h2⟩ := findM_mem hf
      obtain ⟨t, ht, e⟩ := List.getElem_of_mem h1
      rw [List.getElem_take] at e
      simp at ht
      have := List.pairwise_iff_getElem.1 hR t j (by omega) hj (by omega)
      rw [e, h2, hk] at this
      exact lt_irrefl' this
    · rw [if_neg hk]

set_option maxHeartbeats 8000000 in
theorem buffExact_any (ms0 : List Mg) (hx0 : ms0.length ≤ maxLen) (hq0 : ∀ m ∈ ms0, m.key.length ≤ maxLen ∧ m.val.length ≤ maxLen) (ms1 : List Mg) (hx1 : ms1.length ≤ maxLen) (hq1 : ∀ m ∈ ms1, m.key.length ≤ maxLen ∧ m.val.length ≤ maxLen) (k : List UInt8) (hk : k.length ≤ maxLen) (r : Rg) (hrl : r.lo.length ≤ maxLen) (hrh : r.hi.length ≤ maxLen)
    (a0 : Option Addr) (c0 : Nat) (hc0 : a0 = none → c0 = 0) (a1 : Option Addr) (c1 : Nat) (hc1 : a1 = none → c1 = 0) (w : World) (h0 : MsgsAt w noF a0 ms0) (h1 : MsgsAt w noF a1 ms1) :
    Calls Try.prog 3 #[.slice a0 ms0.length c0, .slice a1 ms1.length c1, .string (str k), .agg #[.string (str r.lo), .string (str r.hi)]] w fun e w' => e = .returned (.bool true) ∧ Step noF w w' := by
  have hE := same_str
  have hz := str_size
  have hn0 := nil_str
  unfold maxLen at hk hrl hrh
  have HX0 := hid hx0
  have HX1 := hid hx1
  have HQ0 := hid hq0
  have HQ1 := hid hq1
  have HC0 := hid hc0
  have HC1 := hid hc1
  have HR0 := hid h0
  have HR1 := hid h1
  clear hx0 hx1 hq0 hq1 hc0 hc1 h0 h1
  go_enter Try.func3, Try.ntmps3
  go_wp2_with fail
  refine (awakeB_any _).mono ?_
  rintro e w1 ⟨rfl, s1⟩
  have b0 := s1.after (two_new w (.string (str r.lo)) (.string (str r.hi)) 24).1
  have b1 := s1.after (two_new w (.string (str r.lo)) (.string (str r.hi)) 24).2
  have S1 : Hid (Step noF w w1) := ((Step.refl noF w).alloc _).trans s1
  clear s1
  go_wp2_with fail
  refine (heavyB_any ms0 HX0.out HQ0.out a0 c0 w1 (HR0.out.stepB S1.out)).mono ?_
  rintro e w1' ⟨hg, rfl⟩
  rcases hg with rfl | ⟨rfl, hl0, _⟩
  · go_wp2_with fail
    go_ret
    exact ⟨rfl, S1.out⟩
  go_wp2_with fail
  refine (heavyB_any ms1 HX1.out HQ1.out a1 c1 w1 (HR1.out.stepB S1.out)).mono ?_
  rintro e w1' ⟨hg, rfl⟩
  rcases hg with rfl | ⟨rfl, hl1, _⟩
  · go_wp2_with fail
    go_ret
    exact ⟨rfl, S1.out⟩
  by_cases gk : 512 < k.length
  · have gkz : (512 : Int) < (k.length : Int) := by omega
    go_wp2_with fail
    go_ret
    exact ⟨rfl, S1.out⟩
  have gkz : ¬ (512 : Int) < (k.length : Int) := by omega
  by_cases gl : 512 < r.lo.length
  · have glz : (512 : Int) < (r.lo.length : Int) := by omega
    go_wp2_with fail
    go_ret
    exact ⟨rfl, S1.out⟩
  have glz : ¬ (512 : Int) < (r.lo.length : Int) := by omega
  by_cases gh : 512 < r.hi.length
  · have ghz : (512 : Int) < (r.hi.length : Int) := by omega
    go_wp2_with fail
    go_ret
    exact ⟨rfl, S1.out⟩
  have ghz : ¬ (512 : Int) < (r.hi.length : Int) := by omega
  go_wp2_with fail
  have cO := ofB_any ms0 (fun m hm => (HQ0.out m hm).2) (by omega) a0 c0 HC0.out w1 (HR0.out.stepB S1.out)
  refine cO.mono ?_
  rintro e w2 ⟨ho, s2⟩
  have S2 := hid (S1.out.trans s2)
  have T2 := hid s2
  clear s2 cO gk gkz gl glz gh ghz
  have cV := refWithB_any [] List.Pairwise.nil (fun _ h => by simp at h) ms0 (by simp; omega) none 0 (fun _ => rfl) a0 c0 w2 (.inl rfl) (HR0.out.stepB S2.out)
  rw [List.length_nil] at cV
  rcases ho with ⟨hall, rfl⟩ | ⟨hall, p, rfl, hb2⟩
  · have HALL := hid hall
    clear hall
    go_wp2_with fail
    refine cV.mono ?_
    rintro e w3 ⟨hv, s3⟩
    rcases hv with ⟨_, rfl⟩ | ⟨h1, _⟩
    · have S3 := hid (S2.out.trans s3)
      clear s3 cV
      go_wp2_with fail
      go_ret
      exact ⟨rfl, S3.out⟩
    · exact absurd h1 (by rw [HALL.out]; simp)
  have HALL := hid hall
  have HG0 : Hid (GoodM ms0) := List.all_eq_true.1 hall
  have hgr := putsM_all ms0 HG0.out [] (fun _ h => by simp at h) List.Pairwise.nil
  have hUl := putsM_len ms0 []
  obtain ⟨U, hU⟩ : ∃ U, putsM ms0 [] = U := ⟨_, rfl⟩
  rw [hU] at hgr hb2 hUl cV
  have HGU := hid hgr.1
  have HRU := hid hgr.2
  have hUl2 : U.length ≤ 40 := by simp at hUl; omega
  have HSU := hid (good_small hgr.1 (by omega))
  have B2 := hid hb2
  clear hall hgr hb2 hUl hU
  go_wp2_with fail
  refine cV.mono ?_
  rintro e w3 ⟨hv, s3⟩
  rcases hv with ⟨h1, _⟩ | ⟨_, v3, rfl, ua, uc, rfl, hun, hum⟩
  · exact absurd HALL.out (by rw [h1]; simp)
  have S3 := hid (S2.out.trans s3)
  have B3 := hid (B2.out.step s3)
  have UN := hid hun
  have UR := hid hum
  have b0' := (T2.out.trans s3).after b0
  have b1' := (T2.out.trans s3).after b1
  clear s3 hun hum cV B2 S2 T2 b0 b1
  go_wp2_with fail
  refine (list_rowB p U (by omega) w3 B3.out).mono ?_
  rintro e w4 ⟨a4, d4, rfl, r4, t4⟩
  go_wp2_with fail
  refine (refSame_yesB U (by omega) a4 ua d4 uc w4 r4.out (UR.out.stepB t4.out)).mono ?_
  rintro e w5 ⟨rfl, t5⟩
  have T5 := hid (t4.out.trans t5.out)
  clear r4 t4 t5
  go_wp2_with fail
  refine (lenB_any p U w5 (B3.out.step T5.out)).mono ?_
  rintro e w5' ⟨rfl, rfl⟩
  have cW1 := weightB_any p U HSU.out w5 (B3.out.step T5.out)
  have cW2 := fun w' (hs : Step noF w3 w') => refWeightB_any U HSU.out ua uc w' (UR.out.stepB hs)
  obtain ⟨W, hW⟩ : ∃ W, wtM U = W := ⟨_, rfl⟩
  rw [hW] at cW1 cW2
  clear hW
  go_wp2_with fail
  refine cW1.mono ?_
  rintro e w6 ⟨rfl, t6⟩
  have T6 := hid (T5.out.trans t6)
  clear t6 cW1
  go_wp2_with fail
  refine (cW2 w6 T6.out).mono ?_
  rintro e w7 ⟨rfl, t7⟩
  have T7 := hid (T6.out.trans t7)
  have d0 := T7.out.after b0'
  have d1 := T7.out.after b1'
  have B7 := hid (B3.out.step T7.out)
  have S7 := hid (S3.out.trans T7.out)
  have U7 := hid (UR.out.stepB T7.out)
  clear t7 cW2 b0' b1' T5 T6 T7 B3 S3 UR
  have st8 : Step noF w7 (w7.alloc (.cells #[.string (str r.lo), .string (str r.hi)] 37)) := (Step.refl noF w7).alloc _
  obtain ⟨x0, x1⟩ := two_new w7 (.string (str r.lo)) (.string (str r.hi)) 37
  have e0 := st8.after d0
  have e1 := st8.after d1
  have B8 := hid (B7.out.step st8)
  have S8 := hid (S7.out.trans st8)
  have U8 := hid (U7.out.stepB st8)
  go_upto_region 12 with fail
  go_cut [116] from 98 (fun s116 wx => s116 = .bool false ∧ Hid (Step noF (w7.alloc (.cells #[.string (str r.lo), .string (str r.hi)] 37)) wx))
  case first =>
    change Code.wp _ (Code.region 12 ((Try.f3.body.bind (regionOps 12)).getD #[]) true) _ _ _
    refine bfex_go p w.heap.size w7.heap.size uc ua r.lo r.hi (takeM r U) (dropM r U) U (by have := takeM_len r U; omega) (by have := dropM_len r U; omega) _ _ rfl rfl rfl rfl rfl (fun w' hs => ⟨hs.after e0, hs.after e1, hs.after x0, hs.after x1, ?_, ?_, ?_, ?_, ?_, ?_⟩) ?_
    · refine (take_rowB p U (by omega) HRU.out HGU.out r w' (B8.out.step hs)).mono ?_
      rintro e w'' ⟨a9, c9, rfl, _, r9, t9⟩
      exact ⟨_, rfl, t9.out, a9, c9, rfl, r9.out⟩
    · refine (refTake_rowB U (by omega) r true ua uc w' (U8.out.stepB hs)).mono ?_
      rw [pickM_true]
      rintro e w'' ⟨a9, c9, rfl, r9, t9⟩
      exact ⟨_, rfl, t9.out, a9, c9, rfl, r9.out⟩
    · intro xs a k1 b k2 hxl h1 h2
      refine (refSame_yesB xs hxl a b k1 k2 w' h1 h2).mono ?_
      rintro e w'' ⟨rfl, t9⟩
      exact ⟨rfl, t9.out⟩
    · refine (withoutB_any p U (by omega) HRU.out HGU.out r w' (B8.out.step hs)).mono ?_
      rintro e w'' ⟨q, rfl, hq, t9⟩
      exact ⟨_, rfl, t9, q, 0, rfl, hq⟩
    · intro q hq
      refine (list_rowB q (dropM r U) (by have := dropM_len r U; omega) w' hq).mono ?_
      rintro e w'' ⟨a9, c9, rfl, r9, t9⟩
      exact ⟨_, rfl, t9.out, a9, c9, rfl, r9.out⟩
    · refine (refTake_rowB U (by omega) r false ua uc w' (U8.out.stepB hs)).mono ?_
      rw [pickM_false]
      rintro e w'' ⟨a9, c9, rfl, r9, t9⟩
      exact ⟨_, rfl, t9.out, a9, c9, rfl, r9.out⟩
    · intro aa w' hs hd hz hfr h116
      obtain ⟨g, rfl, hg⟩ := meet_BE aa _ bfexDl hd rfl hz hfr
      have h116' : g 116 = .bool false := (hg 116).trans h116
      clear hg h116 hfr hd hz
      go_wp2_with fail
      go_meet
      exact ⟨h116', hs⟩
  case rest =>
    obtain ⟨rfl, T9⟩ := hcut
    have S9 := hid (S8.out.trans T9.out)
    have B9 := hid (B8.out.step T9.out)
    have U9 := hid (U8.out.stepB T9.out)
    clear x0 x1 e0 e1 d0 d1 T9 st8 S8 B8 U8 S7 B7 U7
    go_wp2_with fail
    have cw := withB_any p U HRU.out HGU.out ms1 (fun m hm => (HQ1.out m hm).2) (by omega) a1 c1 HC1.out wc B9.out (HR1.out.stepB S9.out)
    refine cw.mono ?_
    rintro e wd ⟨hw, td⟩
    have SD := hid (S9.out.trans td)
    have BD := hid (B9.out.step td)
    have UD := hid (U9.out.stepB td)
    clear td cw S9 B9 U9
    have cV := refWithB_any U HRU.out HGU.out ms1 (by omega) ua uc UN.out a1 c1 wd UD.out (HR1.out.stepB SD.out)
    rcases hw with ⟨hall, rfl⟩ | ⟨hall, q, rfl, hq⟩
    · have HALL1 := hid hall
      clear hall
      go_wp2_with fail
      refine cV.mono ?_
      rintro e we ⟨hv, te⟩
      rcases hv with ⟨_, rfl⟩ | ⟨h1, _⟩
      · have SE := hid (SD.out.trans te)
        clear te cV
        go_wp2_with fail
        go_ret
        exact ⟨rfl, SE.out⟩
      · exact absurd h1 (by rw [HALL1.out]; simp)
    have HALL1 := hid hall
    have HG1 : Hid (GoodM ms1) := List.all_eq_true.1 hall
    have hgr := putsM_all ms1 HG1.out U HGU.out HRU.out
    have hNl0 := putsM_len ms1 U
    obtain ⟨N, hN⟩ : ∃ N, putsM ms1 U = N := ⟨_, rfl⟩
    rw [hN] at hgr hq hNl0 cV
    have HGN := hid hgr.1
    have HRN := hid hgr.2
    have hNl : N.length ≤ 80 := by omega
    have BQ := hid hq
    clear hall hgr hq hNl0 hN
    go_wp2_with fail
    refine cV.mono ?_
    rintro e we ⟨hv, te⟩
    rcases hv with ⟨h1, _⟩ | ⟨_, v3, rfl, na, nc, rfl, hnn, hnm⟩
    · exact absurd HALL1.out (by rw [h1]; simp)
    have SE := hid (SD.out.trans te)
    have BE := hid (BD.out.step te)
    have QE := hid (BQ.out.step te)
    have UE := hid (UD.out.stepB te)
    have NR := hid hnm
    clear te cV hnn hnm SD BD UD BQ
    go_wp2_with fail
    refine (list_rowB q N (by omega) we QE.out).mono ?_
    rintro e w4 ⟨a4, d4, rfl, r4, t4⟩
    go_wp2_with fail
    refine (refSame_yesB N (by omega) a4 na d4 nc w4 r4.out (NR.out.stepB t4.out)).mono ?_
    rintro e w5 ⟨rfl, t5⟩
    have T5 := hid (t4.out.trans t5.out)
    clear r4 t4 t5
    go_wp2_with fail
    refine (list_rowB p U (by omega) w5 (BE.out.step T5.out)).mono ?_
    rintro e w6 ⟨a6, d6, rfl, r6, t6⟩
    go_wp2_with fail
    refine (refSame_yesB U (by omega) a6 ua d6 uc w6 r6.out (UE.out.stepB (T5.out.trans t6.out))).mono ?_
    rintro e w7 ⟨rfl, t7⟩
    have T7 := hid ((T5.out.trans t6.out).trans t7.out)
    clear r6 t6 t7
    have cS1 := sameBf_any p q U N ⟨by omega, by omega⟩ w7 (BE.out.step T7.out) (QE.out.step T7.out)
    have cS2 := fun w' (hs : Step noF we w') => refSameB_any U N ⟨by omega, by omega⟩ ua na uc nc w' (UE.out.stepB hs) (NR.out.stepB hs)
    obtain ⟨D, hD⟩ : ∃ D, sameM U N = D := ⟨_, rfl⟩
    rw [hD] at cS1 cS2
    clear hD
    go_wp2_with fail
    refine cS1.mono ?_
    rintro e w8 ⟨rfl, t8⟩
    have T8 := hid (T7.out.trans t8)
    clear t8 cS1
    go_wp2_with fail
    refine (cS2 w8 T8.out).mono ?_
    rintro e w9 ⟨rfl, t9⟩
    have T9 := hid (T8.out.trans t9)
    clear t9 cS2
    have SZ := hid (SE.out.trans T9.out)
    have NZ := hid (NR.out.stepB T9.out)
    have QZ := hid (QE.out.step T9.out)
    clear T5 T7 T8 T9 SE BE QE UE NR
    have HT18 := hid (trip_new w9 43 Mg.zero)
    go_wp2_with fail
    go_loopw [20, 19] (fun i ha wr => ∃ (j : Nat) (x : Option Mg), j ≤ N.length ∧ i = .int .i64 j ∧ ha = .bool x.isSome ∧ Hid (x = findM k (N.take j)) ∧ Hid (TripAt wr w9.heap.size 43 (x.getD Mg.zero)) ∧ Hid (Step noF w9 wr)) (fun i _ _ => N.length - (intOf i).toNat)
    case atStart => exact ⟨0, none, Nat.zero_le _, rfl, rfl, (by show _ = _; rfl), HT18.out, (Step.refl noF w9).alloc _⟩
    case round =>
      obtain ⟨j, x, hj, rfl, rfl, HI, HT, HS⟩ := hrel
      obtain ⟨p0, p1, p2, z0, z1, z2⟩ := TripAt.all HT.out
      by_cases hjl : j < N.length
      · have hjz : (j : Int) < (N.length : Int) := by omega
        obtain ⟨g, off, rfl, y0, y1, y2⟩ := (NZ.out.stepB HS.out).at j hjl
        have HF := hid (findM_step k N HRN.out j hjl)
        obtain ⟨⟨xk, xy, xv⟩, hx⟩ : ∃ m, N[j] = m := ⟨_, rfl⟩
        rw [hx] at y0 y1 y2 HF
        simp only at y0 y1 y2 HF
        clear hx
        by_cases hkk : xy = k
        · subst hkk
          have hkd : decide (xy = xy) = true := decide_eq_true rfl
          have HF2 : Hid (findM xy (N.take (j + 1)) = some ⟨xk, xy, xv⟩) := by show _ = _; rw [HF.out, if_pos rfl]
          clear HF
          go_wp2_with fail
          go_roundw
          case rel =>
            refine ⟨j + 1, some ⟨xk, xy, xv⟩, by omega, int_eq (by omega), rfl, ?_, ?_, HS.out.put3 _ (Nat.le_refl _) _ _ _⟩
            · show _ = _
              rw [HF2.out]
            · exact TripAt.put HT.out ⟨xk, xy, xv⟩
          case measure => simp [intOf]; omega
        · have hkd : decide (xy = k) = false := decide_eq_false hkk
          have HF2 : Hid (findM k (N.take (j + 1)) = findM k (N.take j)) := by show _ = _; rw [HF.out, if_neg hkk]
          clear HF
          go_wp2_with fail
          go_roundw
          case rel =>
            refine ⟨j + 1, x, by omega, int_eq (by omega), rfl, ?_, HT.out, HS.out⟩
            show _ = _
            rw [HF2.out]
            exact HI.out
          case measure => simp [intOf]; omega
      · obtain rfl : j = N.length := by omega
        have HI2 : Hid (x = findM k N) := by
          have := HI.out
          rw [List.take_of_length_le (Nat.le_refl _)] at this
          exact this
        have cF := findB_any q N (by omega) HRN.out k wr (QZ.out.step HS.out)
        unfold findMV at cF
        rw [← HI2.out] at cF
        have HTT := HT.out
        clear p0 p1 p2 z0 z1 z2 HI
        cases x with
        | none =>
          simp only at cF
          go_wp2_with fail
          refine cF.mono ?_
          rintro e wz ⟨rfl, sz⟩
          obtain ⟨p0, p1, p2, _, _, _⟩ := TripAt.all (TripAt.step HTT sz)
          have SW := hid (HS.out.trans sz)
          have qa0 := fun o => cell_alloc p0 o
          have qa1 := fun o => cell_alloc p1 o
          have qa2 := fun o => cell_alloc p2 o
          simp only [Option.getD_none, Mg.zero] at p0 p1 p2 qa0 qa1 qa2
          clear sz HTT cF p0 p1 p2
          go_wp2_with fail
          go_ret
          exact ⟨rfl, (SZ.out.trans SW.out).alloc _⟩
        | some m =>
          obtain ⟨xk, xy, xv⟩ := m
          simp only at cF
          go_wp2_with fail
          refine cF.mono ?_
          rintro e wz ⟨rfl, sz⟩
          obtain ⟨p0, p1, p2, _, _, _⟩ := TripAt.all (TripAt.step HTT sz)
          have SW := hid (HS.out.trans sz)
          simp only [Option.getD_some] at p0 p1 p2
          have qa0 := fun o => cell_alloc p0 o
          have qa1 := fun o => cell_alloc p1 o
          have qa2 := fun o => cell_alloc p2 o
          clear sz HTT cF p0 p1 p2
          go_wp2_with fail
          go_ret
          exact ⟨rfl, (SZ.out.trans SW.out).alloc _⟩
end Go.Proofs.Ytipgbpopcamllaa
