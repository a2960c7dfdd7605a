/-
  The reference of layer 9: With.
-/
import Derived.Test.YtnalillebemglaaGreatLfRC
import Derived.Test.YtnalillebemglaaGreatMsgD
namespace Go.Proofs.YtnalillebemglaaGreat
open Go.RowKit Go.Sort
set_option linter.unusedVariables false
set_option linter.unusedSimpArgs false
set_option maxRecDepth 20000

theorem findL_snoc (k : List UInt8) (x : Rg) (h : x.lo ≠ k) : ∀ xs : List Rg, findL k (xs ++ [x]) = findL k xs
  | [] => by simp [findL, h]
  | y :: ys => by
    rw [List.cons_append, findL, findL, findL_snoc k x h ys]
theorem rest_hit (W : List Rg) (hR : Rising W) (q : Nat) (hq : q < W.length) : findL W[q].lo (W.take (q + 1)) = some W[q].hi ∧ restL W[q].lo (W.take (q + 1)) = restL W[q].lo (W.take q) := by
  constructor
  · have hr : Rising (W.take (q + 1)) := List.Pairwise.sublist (List.take_sublist _ _) hR
    refine findL_mem _ hr W[q] ?_
    rw [List.take_succ_eq_append_getElem hq]
    exact List.mem_append_right _ (List.mem_singleton.2 rfl)
  · unfold restL
    rw [List.take_succ_eq_append_getElem hq, List.filter_append]
    simp
theorem rest_miss (k : List UInt8) (W : List Rg) (q : Nat) (hq : q < W.length) (h : W[q].lo ≠ k) : findL k (W.take (q + 1)) = findL k (W.take q) ∧ restL k (W.take (q + 1)) = restL k (W.take q) ++ [W[q]] := by
  constructor
  · rw [List.take_succ_eq_append_getElem hq, findL_snoc k _ h]
  · unfold restL
    rw [List.take_succ_eq_append_getElem hq, List.filter_append]
    simp [h]
theorem ofE_sorted (row : List Rg) (hR : Rising (sortL row)) (hok : ∀ x ∈ sortL row, itOk x = true) : ofE row = 0 := by
  unfold ofE
  rw [if_pos, if_pos]
  · exact ((sortL_perm row).map Rg.lo).nodup_iff.1 (rising_nodup _ hR)
  · rw [List.all_eq_true]
    exact fun x hx => hok x ((sortL_mem row x).2 hx)
theorem one_put (m : Mg) (hm : m.is = true) (W : List Rg) (hR : Rising W) (hok : ∀ x ∈ W, itOk x = true) (h : m.appH (findL m.key W).isSome = true) :
    ofE (restL m.key W ++ [⟨m.key, m.appV ((findL m.key W).getD []) (findL m.key W).isSome⟩]) = 0 ∧ sortL (restL m.key W ++ [⟨m.key, m.appV ((findL m.key W).getD []) (findL m.key W).isSome⟩]) = withOne m W := by
  have e : sortL (restL m.key W ++ [⟨m.key, m.appV ((findL m.key W).getD []) (findL m.key W).isSome⟩]) = withOne m W := by
    rw [sortL_snoc, sortL_of_rising _ (restL_rising _ _ hR)]
    unfold withOne Mg.appO
    rw [if_pos h]
    rfl
  refine ⟨ofE_sorted _ ?_ ?_, e⟩
  · rw [e]; exact withOne_rising m W hR
  · rw [e]; exact withOne_ok m hm W hok
theorem one_del (m : Mg) (hm : m.is = true) (W : List Rg) (hR : Rising W) (hok : ∀ x ∈ W, itOk x = true) (h : m.appH (findL m.key W).isSome = false) :
    ofE (restL m.key W) = 0 ∧ sortL (restL m.key W) = withOne m W := by
  have e : sortL (restL m.key W) = withOne m W := by
    rw [sortL_of_rising _ (restL_rising _ _ hR)]
    unfold withOne Mg.appO
    rw [if_neg (by rw [h]; simp)]
    rfl
  refine ⟨ofE_sorted _ ?_ ?_, e⟩
  · rw [e]; exact withOne_rising m W hR
  · rw [e]; exact withOne_ok m hm W hok
theorem rest_len (k : List UInt8) (W : List Rg) : (restL k W).length ≤ W.length := List.length_filter_le _ _
theorem one_len (m : Mg) (W : List Rg) : (withOne m W).length ≤ W.length + 1 := by
  unfold withOne putO
  have := rest_len m.key W
  split
  · omega
  · rw [insL_length]
    omega
theorem refL_len (ms : List Mg) : ∀ xs : List Rg, (withL ms xs).length ≤ xs.length + ms.length := by
  induction ms with
  | nil => intro xs; exact Nat.le_refl _
  | cons m ms ih =>
    intro xs
    have h1 := ih (withOne m xs)
    have h2 := one_len m xs
    have e : withL (m :: ms) xs = withL ms (withOne m xs) := rfl
    rw [e, List.length_cons]
    omega
theorem refOk_len {xs : List Rg} (h : ∀ x ∈ xs, itOk x = true) : ∀ x ∈ xs, x.lo.length ≤ maxLen ∧ x.hi.length ≤ maxLen := fun x hx => by
  have := h x hx
  simp [itOk, isK] at this
  unfold maxLen
  omega
/-- What the reference's With answers. -/
def RefWith (w : World) (ms : List Mg) (xs : List Rg) (e : Ending) (w' : World) : Prop :=
  (ms.all Mg.is = false ∧ e = .returned (.tuple #[.slice none 0 0, .bool false])) ∨ (ms.all Mg.is = true ∧ ∃ a c, e = .returned (.tuple #[.slice a (withL ms xs).length c, .bool true]) ∧ (a = none → c = 0) ∧ RgsAt w' a (withL ms xs))

set_option maxHeartbeats 4000000 in
theorem refWith_any (xs : List Rg) (hR : Rising xs) (hok : ∀ x ∈ xs, itOk x = true) (hl : xs.length ≤ 400000) (ms : List Mg) (hml : ms.length ≤ 400000) (a : Option Addr) (c : Nat) (hc : a = none → c = 0) (b : Option Addr) (d : Nat) (w : World) (h : RgsAt w a xs) (hr : MsgsAt w noF b ms) :
    Calls Tryz.prog 38 #[.slice a xs.length c, .slice b ms.length d] w fun e w' => RefWith w ms xs e w' ∧ Step noF w w' := by
  have hz := str_size
  have h0 := nil_str
  have hE := same_str
  have HX := hid h
  have HM := hid hr
  have HC := hid hc
  have HRI := hid hR
  have HOK := hid hok
  clear h hr hc hR hok
  go_enter Tryz.func38, Tryz.ntmps38
  go_wp2_with fail
  go_loopw [6] (fun i wr => ∃ (j : Nat), j ≤ ms.length ∧ i = .int .i64 j ∧ Hid (∀ i (h : i < ms.length), i < j → ms[i].is = true) ∧ Hid (Step noF w wr)) (fun i _ => ms.length - (intOf i).toNat)
  case atStart => exact ⟨0, Nat.zero_le _, rfl, fun i _ h => absurd h (by omega), Step.refl _ _⟩
  case round =>
    obtain ⟨j, hj, rfl, HO, ST⟩ := hrel
    by_cases hjl : j < ms.length
    · have hjz : (j : Int) < (ms.length : Int) := by omega
      obtain ⟨g, off, rfl, c0, c1, c2⟩ := (HM.out.step ST.out (fun _ h => h)).at j hjl
      have H1 : Hid (ms[j].is = false → ms.all Mg.is = false) := fun h => by
        rw [← Bool.not_eq_true, List.all_eq_true]
        intro h2
        rw [h2 _ (List.getElem_mem hjl)] at h
        cases h
      have HN : Hid (ms[j].is = true → ∀ i (h : i < ms.length), i < j + 1 → ms[i].is = true) := fun h1 i hi hij => by
        rcases Nat.lt_or_eq_of_le (Nat.le_of_lt_succ hij) with e | e
        · exact HO.out i hi e
        · subst e; exact h1
      obtain ⟨⟨mk, my, mv⟩, hm⟩ : ∃ m, ms[j] = m := ⟨_, rfl⟩
      rw [hm] at c0 c1 c2 H1 HN
      clear hm
      simp only at c0 c1 c2
      obtain ⟨D, hD⟩ : ∃ D, (Mg.mk mk my mv).is = D := ⟨_, rfl⟩
      have cI : ∀ w, Calls Tryz.prog 30 #[.agg #[.int .i64 mk, .string (str my), .string (str mv)]] w fun e w' => e = .returned (.bool D) ∧ Step noF w w' := fun w => by
        rw [← hD]
        exact refMis_any ⟨mk, my, mv⟩ w
      rw [hD] at H1 HN
      clear hD
      cases D
      · have H2 := hid (H1.out rfl)
        clear H1 HN
        go_wp2_with fail
        refine (cI _).mono ?_
        rintro e w2 ⟨rfl, s2⟩
        have S2 := hid (ST.out.trans s2)
        clear s2
        go_wp2_with fail
        go_ret2
        exact ⟨.inl ⟨H2.out, rfl⟩, S2.out⟩
      · have H2 := hid (HN.out rfl)
        clear H1 HN
        go_wp2_with fail
        refine (cI _).mono ?_
        rintro e w2 ⟨rfl, s2⟩
        have S2 := hid (ST.out.trans s2)
        clear s2
        go_wp2_with fail
        go_roundw
        case rel => exact ⟨j + 1, by omega, int_eq (by omega), H2, S2⟩
        case measure => simp [intOf]; omega
    · obtain rfl : j = ms.length := by omega
      have HIS : Hid (∀ m ∈ ms, m.is = true) := fun m hm => by
        obtain ⟨i, hi, rfl⟩ := List.getElem_of_mem hm
        exact HO.out i hi hi
      have HALL : Hid (ms.all Mg.is = true) := List.all_eq_true.2 HIS.out
      clear HO
      go_wp2_with fail
      go_loopw [7, 0] (fun i s0 wr => ∃ (j : Nat) (a : Option Addr) (c : Nat), j ≤ ms.length ∧ i = .int .i64 j ∧ s0 = .slice a (withL (ms.take j) xs).length c ∧ Hid (a = none → c = 0) ∧ Hid (RgsAt wr a (withL (ms.take j) xs)) ∧ Hid (Step noF w wr)) (fun i _ _ => ms.length - (intOf i).toNat)
      case atStart => exact ⟨0, a, c, Nat.zero_le _, rfl, rfl, HC, HX.out.step ST.out, ST⟩
      case round =>
        obtain ⟨j, a, c, hj, rfl, rfl, HC2, HW, ST⟩ := hrel
        by_cases hjl : j < ms.length
        · have hjz : (j : Int) < (ms.length : Int) := by omega
          have HMC : Hid (∃ g off, b = some ⟨g, off, none⟩ ∧ ∀ w', Step noF w w' → w'.cell? ⟨g, off + j * 3, none⟩ = some (.int .i64 ms[j].kind) ∧ w'.cell? ⟨g, off + j * 3 + 1, none⟩ = some (.string (str ms[j].key)) ∧ w'.cell? ⟨g, off + j * 3 + 2, none⟩ = some (.string (str ms[j].val))) := by
            obtain ⟨g, off, rfl, d0, d1, d2⟩ := HM.out.at j hjl
            exact ⟨g, off, rfl, fun w' hs => ⟨hs.after d0, hs.after d1, hs.after d2⟩⟩
          have hmi := HIS.out ms[j] (List.getElem_mem hjl)
          have HNX : Hid (withL (ms.take (j + 1)) xs = withOne ms[j] (withL (ms.take j) xs)) := by
            show _ = _
            rw [List.take_succ_eq_append_getElem hjl, withL_snoc]
          have HWR := hid (withL_rising (ms.take j) xs HRI.out)
          have HWO := hid (withL_ok (ms.take j) (fun m hm => HIS.out m (List.mem_of_mem_take hm)) xs HOK.out)
          have hWl := refL_len (ms.take j) xs
          rw [List.length_take] at hWl
          obtain ⟨W, hW⟩ : ∃ W, withL (ms.take j) xs = W := ⟨_, rfl⟩
          rw [hW] at HW HNX HWR HWO hWl ⊢
          have hWl2 : W.length ≤ 800000 := by omega
          obtain ⟨⟨mk, my, mv⟩, hm⟩ : ∃ m, ms[j] = m := ⟨_, rfl⟩
          rw [hm] at HMC HNX hmi
          have HMI := hid hmi
          obtain ⟨g, off, rfl, hmc⟩ := HMC.out
          have HMC2 := hid hmc
          clear hm hW hWl hmi hmc HMC
          obtain ⟨w1, rfl⟩ : ∃ w1, w1 = wr := ⟨wr, rfl⟩
          go_wp2_with fail
          go_loopw [11, 8, 9, 10] (fun s11 s8 s9 s10 w2 => ∃ (q : Nat) (u : List UInt8) (v : Bool), q ≤ W.length ∧ s11 = .int .i64 q ∧ s9 = .string (str u) ∧ s10 = .bool v ∧ Hid (u = (findL my (W.take q)).getD [] ∧ v = (findL my (W.take q)).isSome) ∧ Hid (OwnIt w2 w1.heap.size s8 (restL my (W.take q))) ∧ Hid (Step noF w1 w2)) (fun s11 _ _ _ _ => W.length - (intOf s11).toNat)
          case atStart => exact ⟨0, [], false, Nat.zero_le _, rfl, rfl, rfl, ⟨rfl, rfl⟩, OwnIt.empty w1, (Step.refl _ _).alloc _⟩
          case round =>
            obtain ⟨q, u, v, hq, rfl, rfl, rfl, HU, OR, SR⟩ := hrel
            obtain ⟨m0, m1, m2⟩ := HMC2.out _ (ST.out.trans SR.out)
            try simp only at m0 m1 m2
            by_cases hql : q < W.length
            · have hqz : (q : Int) < (W.length : Int) := by omega
              obtain ⟨g2, off2, rfl, c0, c1⟩ := (HW.out.step SR.out).at q hql
              by_cases hk : W[q].lo = my
              · have HT := hid (rest_hit W HWR.out q hql)
                rw [hk] at HT c0
                obtain ⟨y, hy⟩ : ∃ y, W[q].hi = y := ⟨_, rfl⟩
                rw [hy] at HT c1
                clear hy hk
                go_wp2_with fail
                go_quiet (fail)
                go_wp2_with fail
                go_roundw
                case rel => exact ⟨q + 1, y, true, by omega, int_eq (by omega), rfl, rfl, ⟨by rw [HT.out.1]; rfl, by rw [HT.out.1]; rfl⟩, (by show OwnIt _ _ _ _; rw [HT.out.2]; exact OR.out.step ((Step.refl noF _).drewN _)), SR.out.drewN _⟩
                case measure => simp [intOf]; omega
              · have HT := hid (rest_miss my W q hql hk)
                have HLn := hid (rest_len my (W.take q))
                obtain ⟨⟨x, y⟩, hm⟩ : ∃ m, W[q] = m := ⟨_, rfl⟩
                rw [hm] at HT c0 c1 hk
                simp only at c0 c1 hk
                have hkd : decide (x = my) = false := decide_eq_false hk
                clear hm
                have HZ : ∀ n, Hid (RgsAt ((wr.drewN n).alloc (.cells #[.string (str x), .string (str y)] 42)) (some ⟨wr.heap.size, 0, none⟩) [⟨x, y⟩]) := fun n => rg_new (wr.drewN n) x y
                have SZ : ∀ n, Hid (Step noF w1 ((wr.drewN n).alloc (.cells #[.string (str x), .string (str y)] 42))) := fun n => (SR.out.drewN n).alloc _
                have HOZ : ∀ n, Hid (((wr.drewN n).alloc (.cells #[.string (str x), .string (str y)] 42)).ownsRow w1.heap.size 42 2 u8 (restL my (W.take q)).length (rgs (restL my (W.take q)))) := fun n => OR.out.step (((Step.refl noF wr).drewN n).alloc _)
                have HLL : Hid ((restL my (W.take q)).length + 1 ≤ 1000000000) := by
                  have := HLn.out
                  rw [List.length_take] at this
                  show _ ≤ _
                  omega
                go_wp2_with fail
                go_quiet (fail)
                go_wp2_with (at_builtin; refine wpList_append_it rfl _ _ rfl w1.heap.size _ (restL my (W.take q)) rfl (HOZ _).out (some ⟨wr.heap.size, 0, none⟩) 1 [⟨x, y⟩] rfl (HZ _).out (by intro h; cases h) HLL.out (SZ _).out.size ?_)
                intro v' w3 o3 g3
                have O3 : Hid (OwnIt w3 w1.heap.size v' (restL my (W.take q) ++ [⟨x, y⟩])) := OwnIt.of o3 (by simp)
                have S3 : Hid (Step noF w1 w3) := OwnIt.after (xs := restL my (W.take q)) (SZ _).out (HOZ _).out (Nat.le_refl _) g3
                clear o3 g3
                go_wp2_with fail
                go_roundw
                case rel => exact ⟨q + 1, u, v, by omega, int_eq (by omega), rfl, rfl, ⟨by rw [HT.out.1]; exact HU.out.1, by rw [HT.out.1]; exact HU.out.2⟩, (by show OwnIt _ _ _ _; rw [HT.out.2]; exact O3.out), S3⟩
                case measure => simp [intOf]; omega
            · obtain rfl : q = W.length := by omega
              rw [List.take_of_length_le (Nat.le_refl _)] at HU OR
              have HON := hid (one_put ⟨mk, my, mv⟩ HMI.out W HWR.out HWO.out)
              have HDE := hid (one_del ⟨mk, my, mv⟩ HMI.out W HWR.out HWO.out)
              try simp only at HON HDE
              rw [← HU.out.1, ← HU.out.2] at HON
              rw [← HU.out.2] at HDE
              have cA : ∀ w, Calls Tryz.prog 67 #[.agg #[.int .i64 mk, .string (str my), .string (str mv)], .string (str u), .bool v] w fun e w' => e = .returned (.tuple #[.string (str ((Mg.mk mk my mv).appV u v)), .bool ((Mg.mk mk my mv).appH v)]) ∧ Step noF w w' := fun w => refApply_any ⟨mk, my, mv⟩ u v w
              obtain ⟨nv, hnv⟩ : ∃ nv, (Mg.mk mk my mv).appV u v = nv := ⟨_, rfl⟩
              obtain ⟨nh, hnh⟩ : ∃ nh, (Mg.mk mk my mv).appH v = nh := ⟨_, rfl⟩
              rw [hnv, hnh] at cA
              rw [hnv, hnh] at HON
              rw [hnh] at HDE
              clear hnv hnh HU
              have HLn := hid (rest_len my W)
              go_wp2_with fail
              refine (cA _).mono ?_
              rintro e w3 ⟨rfl, s3⟩
              have S3 := hid (SR.out.trans s3)
              have OR3 := hid (OR.out.step s3)
              have T3 := hid (ST.out.trans S3.out)
              clear s3 m0 m1 m2
              obtain ⟨m0, m1, m2⟩ := HMC2.out _ T3.out
              try simp only at m0 m1 m2
              cases nh
              · obtain ⟨e1, e2⟩ := HDE.out rfl
                have E2 := hid e2
                have E1 := hid e1
                clear HON HDE e1 e2
                obtain ⟨ra, rc, hv, _, _, rr⟩ := OR3.out.row
                have cO := refOf_any (restL my W) (by have := HLn.out; omega) (fun x hx => refOk_len HWO.out x (List.mem_filter.1 hx).1) ra rc w3 rr
                obtain ⟨L, hL⟩ : ∃ L, (restL my W).length = L := ⟨_, rfl⟩
                rw [hL] at hv cO
                subst hv
                clear rr hL
                go_wp2_with fail
                refine cO.mono ?_
                rintro e w4 ⟨hof, s4⟩
                have S4 := hid (T3.out.trans s4)
                rcases hof with ⟨h1, _⟩ | ⟨_, v4, rfl, o4⟩
                · exact absurd E1.out h1
                rw [E2.out, ← HNX.out] at o4
                obtain ⟨a4, c4, rfl, _, n4, r4⟩ := o4.row
                have R4 := hid r4
                have N4 := hid n4.1
                clear s4 o4 n4 r4
                go_wp2_with fail
                go_roundw
                case rel => exact ⟨j + 1, a4, c4, by omega, int_eq (by omega), rfl, N4, R4, S4⟩
                case measure => simp [intOf]; omega
              · obtain ⟨e1, e2⟩ := HON.out rfl
                have E2 := hid e2
                have E1 := hid e1
                clear HON HDE e1 e2
                have HZ : Hid (RgsAt (w3.alloc (.cells #[.string (str my), .string (str nv)] 42)) (some ⟨w3.heap.size, 0, none⟩) [⟨my, nv⟩]) := rg_new w3 my nv
                have SZ : Hid (Step noF w1 (w3.alloc (.cells #[.string (str my), .string (str nv)] 42))) := S3.out.alloc _
                have HOZ : Hid ((w3.alloc (.cells #[.string (str my), .string (str nv)] 42)).ownsRow w1.heap.size 42 2 u8 (restL my W).length (rgs (restL my W))) := OR3.out.step ((Step.refl noF w3).alloc _)
                have HLL : Hid ((restL my W).length + 1 ≤ 1000000000) := by
                  have := HLn.out
                  show _ ≤ _
                  omega
                go_wp2_with (at_builtin; refine wpList_append_it rfl _ _ rfl w1.heap.size _ (restL my W) rfl HOZ.out (some ⟨w3.heap.size, 0, none⟩) 1 [⟨my, nv⟩] rfl HZ.out (by intro h; cases h) HLL.out SZ.out.size ?_)
                intro v' w4 o4 g4
                have O4 : Hid (OwnIt w4 w1.heap.size v' (restL my W ++ [⟨my, nv⟩])) := OwnIt.of o4 (by simp)
                have S4 : Hid (Step noF w1 w4) := OwnIt.after (xs := restL my W) SZ.out HOZ.out (Nat.le_refl _) g4
                have T4 := hid (ST.out.trans S4.out)
                clear o4 g4
                obtain ⟨ra, rc, hv, _, _, rr⟩ := O4.out.row
                have hokr : ∀ x ∈ restL my W ++ [⟨my, nv⟩], x.lo.length ≤ maxLen ∧ x.hi.length ≤ maxLen := fun x hx => by
                  refine refOk_len (xs := withOne ⟨mk, my, mv⟩ W) (withOne_ok _ HMI.out W HWO.out) x ?_
                  rw [← E2.out]
                  exact (sortL_mem _ x).2 hx
                have cO := refOf_any (restL my W ++ [⟨my, nv⟩]) (by have := HLn.out; simp; omega) hokr ra rc w4 rr
                obtain ⟨L, hL⟩ : ∃ L, (restL my W ++ [(⟨my, nv⟩ : Rg)]).length = L := ⟨_, rfl⟩
                rw [hL] at hv cO
                subst hv
                clear rr hokr hL
                go_wp2_with fail
                refine cO.mono ?_
                rintro e w5 ⟨hof, s5⟩
                have S5 := hid (T4.out.trans s5)
                rcases hof with ⟨h1, _⟩ | ⟨_, v5, rfl, o5⟩
                · exact absurd E1.out h1
                rw [E2.out, ← HNX.out] at o5
                obtain ⟨a4, c4, rfl, _, n4, r4⟩ := o5.row
                have R4 := hid r4
                have N4 := hid n4.1
                clear s5 o5 n4 r4
                go_wp2_with fail
                go_roundw
                case rel => exact ⟨j + 1, a4, c4, by omega, int_eq (by omega), rfl, N4, R4, S5⟩
                case measure => simp [intOf]; omega
        · obtain rfl : j = ms.length := by omega
          rw [List.take_of_length_le (Nat.le_refl _)] at HW ⊢
          go_wp2_with fail
          go_ret2
          exact ⟨.inr ⟨HALL.out, a, c, rfl, HC2.out, HW.out⟩, ST.out⟩
end Go.Proofs.YtnalillebemglaaGreat
