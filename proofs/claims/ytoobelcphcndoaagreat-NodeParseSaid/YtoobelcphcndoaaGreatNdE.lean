/-
  How package node reads a node off bytes (written by gennode2.py).
-/
import Derived.Test.YtoobelcphcndoaaGreatNdD
namespace Go.Proofs.YtoobelcphcndoaaGreat
open Go.RowKit Go.Sort
set_option linter.unusedVariables false
set_option linter.unusedSimpArgs false
set_option maxRecDepth 20000

/-- A node made of rows, if it can be. -/
def mkL (xs : List Rg) : Option Nv := if ofE xs = 0 then some (.leaf (sortL xs)) else none
def mkI (ks : List Int) (ps : List (List UInt8)) (ms : List Mg) : Option Nv := if (ms.all Mg.is && goodN ks ps) = true then some (.inn ⟨ks, ps, putsM ms []⟩) else none
/-- What is read off bytes, if it can be. -/
def mkO (l : List UInt8) : Option Nv :=
  if numVal 1 l = 1 then mkL (rdIts (numL 1 l) (numE 1 l 0)).1
  else if numVal 1 l = 2 then mkI (rdInn (numL 1 l) (numE 1 l 0)).1.kids (rdInn (numL 1 l) (numE 1 l 0)).1.pivs (rdInn (numL 1 l) (numE 1 l 0)).1.ms
  else none
theorem itOk_small {xs : List Rg} (h : xs.all itOk = true) (hl : xs.length ≤ 1000000) : Small xs := by
  refine ⟨hl, fun x hx => ?_⟩
  have := List.all_eq_true.1 h x hx
  unfold itOk at this
  simp only [Bool.and_eq_true, decide_eq_true_eq] at this
  have := isK_len this.1
  omega
theorem ofE_ok {xs : List Rg} (h : ofE xs = 0) : xs.all itOk = true ∧ (keysL xs).Nodup := by
  unfold ofE at h
  by_cases h1 : xs.all itOk = true
  · rw [if_pos h1] at h
    by_cases h2 : (keysL xs).Nodup
    · exact ⟨h1, h2⟩
    · rw [if_neg h2] at h; omega
  · rw [if_neg h1] at h; omega
theorem ofE_of {xs : List Rg} (h1 : xs.all itOk = true) (h2 : (keysL xs).Nodup) : ofE xs = 0 := by
  unfold ofE
  rw [if_pos h1, if_pos h2]
theorem mkL_good {xs : List Rg} {v : Nv} (h : mkL xs = some v) (hl : xs.length ≤ 100000) : v.good ∧ v.small ∧ v = .leaf (sortL xs) := by
  unfold mkL at h
  by_cases he : ofE xs = 0
  · rw [if_pos he] at h
    cases h
    obtain ⟨h1, h2⟩ := ofE_ok he
    have a1 : (sortL xs).all itOk = true := by
      rw [List.all_eq_true] at h1 ⊢
      exact fun x hx => h1 x ((sortL_mem xs x).1 hx)
    have a2 := sortL_rising xs h2
    have hlen := sortL_length xs
    exact ⟨⟨ofE_of a1 (rising_nodup _ a2), a2⟩, itOk_small a1 (by omega), rfl⟩
  · rw [if_neg he] at h
    cases h
theorem mkI_good {ks : List Int} {ps : List (List UInt8)} {ms : List Mg} {v : Nv} (h : mkI ks ps ms = some v) (hk : ks.length ≤ 100000) (hp : ps.length ≤ 100000) (hm : ms.length ≤ 100000) : v.good ∧ v.small ∧ v = .inn ⟨ks, ps, putsM ms []⟩ := by
  unfold mkI at h
  by_cases he : (ms.all Mg.is && goodN ks ps) = true
  · rw [if_pos he] at h
    cases h
    rw [Bool.and_eq_true] at he
    have hG : GoodM ms := List.all_eq_true.1 he.1
    have hp2 := putsM_all ms hG [] (fun _ h => by simp at h) List.Pairwise.nil
    have hl := putsM_len ms []
    simp at hl
    exact ⟨⟨he.2, hp2.1, hp2.2⟩, ⟨by show ks.length ≤ _; omega, by show ps.length ≤ _; omega, good_small hp2.1 (by show (putsM ms []).length ≤ _; omega)⟩, rfl⟩
  · rw [if_neg he] at h
    cases h
theorem mkL_of {xs : List Rg} (h : (Nv.leaf xs).good) : mkL xs = some (.leaf xs) := by
  unfold mkL
  rw [if_pos h.1, sortL_of_rising xs h.2]
theorem mkI_of {d : Nd} (h : (Nv.inn d).good) : mkI d.kids d.pivs d.ms = some (.inn d) := by
  unfold mkI
  have h1 : (d.ms.all Mg.is && goodN d.kids d.pivs) = true := by
    rw [Bool.and_eq_true, List.all_eq_true]
    exact ⟨h.2.1, h.1⟩
  rw [if_pos h1, puts_self d.ms h.2.2 h.2.1]
theorem mkO_of {l : List UInt8} {u : Nv} (h : IsOf l u) : mkO l = some u := by
  obtain ⟨h1, h2⟩ := isOf_rd h
  have hg := h.1
  unfold mkO
  unfold rdNode at h2
  cases u using Nv.two with
  | leaf xs =>
    have hk : numVal 1 l = 1 := h1
    rw [if_pos hk] at h2 ⊢
    simp only [Prod.mk.injEq] at h2
    rw [Nv.leaf_one h2.1]
    exact mkL_of hg
  | inn d =>
    have hk : numVal 1 l = 2 := h1
    have hk1 : ¬ numVal 1 l = 1 := by omega
    rw [if_neg hk1] at h2
    rw [if_neg hk1, if_pos hk]
    simp only [Prod.mk.injEq] at h2
    rw [Nv.inn_one h2.1]
    exact mkI_of hg
theorem rd_count (l : List UInt8) : (numVal 1 l).toNat ≤ 255 := by have := numVal_nonneg l; omega
theorem rdIts_len (l : List UInt8) (e : Int) : (rdIts l e).1.length ≤ 255 := by
  unfold rdIts
  rw [itr_len itS (fun s => ⟨_, rfl⟩)]
  exact rd_count l
theorem rdKids_len (l : List UInt8) (e : Int) : (rdKids l e).1.length ≤ 255 := by
  unfold rdKids
  rw [itr_len kidS (fun s => ⟨_, rfl⟩)]
  exact rd_count l
theorem rdMss_len (l : List UInt8) (e : Int) : (rdMss l e).1.length ≤ 255 := by
  unfold rdMss
  rw [itr_len msS msS_one]
  exact rd_count l
theorem rdPivs_len (n : Nat) (hn : n ≤ 255) (l : List UInt8) (e : Int) : (rdPivs n l e).1.length ≤ 255 := by
  unfold rdPivs
  rw [itr_len pivS (fun s => ⟨_, rfl⟩)]
  omega
theorem mkO_good {l : List UInt8} {v : Nv} (h : mkO l = some v) : v.good ∧ v.small := by
  unfold mkO at h
  by_cases h1 : numVal 1 l = 1
  · rw [if_pos h1] at h
    have hl := rdIts_len (numL 1 l) (numE 1 l 0)
    have := mkL_good h (by omega)
    exact ⟨this.1, this.2.1⟩
  · rw [if_neg h1] at h
    by_cases h2 : numVal 1 l = 2
    · rw [if_pos h2] at h
      have k1 := rdKids_len (numL 1 l) (numE 1 l 0)
      unfold rdInn at h
      dsimp only at h
      generalize rdKids (numL 1 l) (numE 1 l 0) = s1 at h k1
      have k2 := rdPivs_len s1.1.length k1 s1.2.1 s1.2.2
      generalize rdPivs s1.1.length s1.2.1 s1.2.2 = s2 at h k2
      have k3 := rdMss_len s2.2.1 s2.2.2
      have := mkI_good h (by omega) (by omega) (by omega)
      exact ⟨this.1, this.2.1⟩
    · rw [if_neg h2] at h
      cases h
theorem msS_vals (n : Nat) (l : List UInt8) (e : Int) (b : Nat) (hb : l.length ≤ b) : ∀ m ∈ (itr msS n ([], l, e)).1, m.val.length ≤ b := by
  induction n with
  | zero => intro m hm; simp [itr] at hm
  | succ n ih =>
    intro m hm
    rw [itr] at hm
    have hleft := itr_left msS msS_left ([], l, e) n
    dsimp only at hleft
    generalize itr msS n ([], l, e) = s at hm ih hleft
    have one : (msS s).1 = s.1 ++ [if rdOk s.2.1 s.2.2 then rdM s.2.1 else Mg.zero] := by
      unfold msS
      split <;> rfl
    rw [one, List.mem_append, List.mem_singleton] at hm
    rcases hm with hm | rfl
    · exact ih m hm
    · split
      · have a0 : (rdM s.2.1).val = textVal 16 (textL 8 (numL 1 s.2.1)) := by unfold rdM; dsimp only
        rw [a0]
        have a1 := textVal_len 16 (textL 8 (numL 1 s.2.1))
        have a2 := textL_len 8 (numL 1 s.2.1)
        have a3 := numL_len 1 s.2.1
        omega
      · have a0 : Mg.zero.val = [] := rfl
        rw [a0]
        simp
theorem msgsAt_nil_cap {w : World} {base : Nat} {v : Value} {xs : List Mg} (h : OwnB w base v xs) : ∃ a c, v = .slice a xs.length c ∧ (a = none → c = 0) ∧ MsgsAt w noF a xs := by
  obtain ⟨a, c, rfl, h1, h2, h3⟩ := owns_msgs h
  exact ⟨a, c, rfl, h2.1, h3⟩

theorem own_not {w : World} {base : Nat} {e : TypeId} {s : Nat} {v : Value} {n : Nat} {cs : List Value} {p : Nat} (h : w.ownsRow base e s v n cs) (hp : p < base) : ∀ k, v.ownBlock = some k → ¬ oneF p k := fun k hk hkp => by
  have a1 := (h.lt k hk).1
  have a2 : k = p := hkp
  omega
theorem ownI_at {w : World} {base m c : Nat} {a : Option Addr} {xs : List Int} (h : OwnI w base (.slice a m c) xs) : (a = none → c = 0) ∧ RowAt w noF a (intsOf xs) := by
  obtain ⟨a2, c2, he, _, h2, h3⟩ := h.row
  cases he
  exact ⟨h2.1, h3⟩
theorem ownT_at {w : World} {base m c : Nat} {a : Option Addr} {xs : List (List UInt8)} (h : OwnT w base (.slice a m c) xs) : (a = none → c = 0) ∧ RowAt w noF a (texts xs) := by
  obtain ⟨a2, c2, he, _, h2, h3⟩ := h.row
  cases he
  exact ⟨h2.1, h3⟩

set_option maxHeartbeats 1000000 in
theorem readLeaf_any (p : Nat) (l : List UInt8) (e0 : Int) (w : World) (h : IsIn w p l e0) (hl : l.length ≤ 1000) :
    Calls Tryz.prog 99 #[.pointer (some ⟨p, 0, none⟩)] w fun e w' => ∃ y, e = .returned (.pointer y) ∧ Hid (NodeZ w' y (mkL (rdIts l e0).1)) ∧ Hid (Step (oneF p) w w') := by
  have cN := inNum_any 1 p l e0 w h (by unfold maxLen; omega)
  have hn := numVal_nonneg l
  have hL1 := numL_len 1 l
  have HLN := hid (rdIts_len l e0)
  have HR : Hid (rdIts l e0 = itr itS (numVal 1 l).toNat ([], numL 1 l, numE 1 l e0)) := rfl
  obtain ⟨z, hz⟩ : ∃ z, numVal 1 l = z := ⟨_, rfl⟩
  obtain ⟨l1, hl1⟩ : ∃ l1, numL 1 l = l1 := ⟨_, rfl⟩
  obtain ⟨e1, he1⟩ : ∃ e1, numE 1 l e0 = e1 := ⟨_, rfl⟩
  obtain ⟨xs, hxs⟩ : ∃ xs, (rdIts l e0).1 = xs := ⟨_, rfl⟩
  rw [hz, hl1, he1] at cN
  rw [hz, hl1, he1] at HR
  rw [hz] at hn
  rw [hl1] at hL1
  have HX : Hid ((itr itS z.toNat ([], l1, e1)).1 = xs) := by show _ = _; rw [← hxs, HR.out]
  rw [hxs] at HLN ⊢
  have HB := hid (And.intro hn (And.intro hL1 hl))
  clear h hn hL1 hl hz hl1 he1 hxs HR
  go_enter Tryz.func99, Tryz.ntmps99
  go_wp2_with fail
  refine cN.mono ?_
  rintro e w1 ⟨rfl, s1, i1⟩
  have S1 := hid s1
  clear s1
  go_wp2_with fail
  refine (rowIt_any z (by have := HB.out; omega) p l1 e1 _ i1 (by have := HB.out; omega)).mono ?_
  rintro e w2 ⟨v, rfl, O2, S2, I2⟩
  obtain ⟨a, c, rfl, r1, r2, r3⟩ := O2.out.row
  rw [HX.out] at r1 r3
  rw [HX.out]
  have R3 := hid r3
  have NN := hid r2.1
  have SS := hid (S1.out.trans S2.out)
  clear r1 r2 r3 O2 I2 i1
  go_wp2_with fail
  refine (leafOf_any xs (by have := HLN.out; omega) a c w2 R3.out NN.out).mono ?_
  rintro e w3 ⟨s3, ⟨he, rfl⟩ | ⟨he, q, rfl, hq, L3⟩⟩
  · have S3 := hid (SS.out.trans (s3.mono (fun _ h => h.elim)))
    have HM : Hid (mkL xs = none) := by unfold mkL; rw [if_neg he]; exact hid rfl
    clear s3 he
    go_wp2_with fail
    refine (ndOfLeaf_nil _).mono ?_
    rintro e w4 ⟨rfl, rfl⟩
    go_wp2_with fail
    go_ret
    refine ⟨none, rfl, ?_, S3.out⟩
    rw [HM.out]
    trivial
  · have S3 := hid (SS.out.trans (s3.mono (fun _ h => h.elim)))
    have HM : Hid (mkL xs = some (.leaf (sortL xs))) := by unfold mkL; rw [if_pos he]; exact hid rfl
    have L4 := hid L3
    clear s3 he L3
    go_wp2_with fail
    refine (ndOfLeaf_any q (sortL xs) _ L4.out).mono ?_
    rintro e w4 ⟨rfl, s4, N4⟩
    have N5 := hid N4
    have S4 := hid (S3.out.trans (s4.mono (fun _ h => h.elim)))
    clear s4 N4
    go_wp2_with fail
    go_ret
    refine ⟨_, rfl, ?_, S4.out⟩
    rw [HM.out]
    exact ⟨_, rfl, N5.out⟩

set_option maxHeartbeats 2000000 in
theorem readInner_any (p : Nat) (l : List UInt8) (e0 : Int) (w : World) (h : IsIn w p l e0) (hl : l.length ≤ 1000) :
    Calls Tryz.prog 100 #[.pointer (some ⟨p, 0, none⟩)] w fun e w' => ∃ y, e = .returned (.pointer y) ∧ Hid (NodeZ w' y (mkI (rdInn l e0).1.kids (rdInn l e0).1.pivs (rdInn l e0).1.ms)) ∧ Hid (Step (oneF p) w w') := by
  have HP0 : Hid (p < w.heap.size) := lt_of_block h
  have cN := inNum_any 1 p l e0 w h (by unfold maxLen; omega)
  have hn := numVal_nonneg l
  have hL1 := numL_len 1 l
  have hkl := rdKids_len l e0
  have HK : Hid (rdKids l e0 = itr kidS (numVal 1 l).toNat ([], numL 1 l, numE 1 l e0)) := rfl
  have hL2 := itr_left kidS kidS_left ([], numL 1 l, numE 1 l e0) (numVal 1 l).toNat
  rw [← HK.out] at hL2
  dsimp only at hL2
  obtain ⟨⟨ks, l2, e2⟩, hks⟩ : ∃ s, rdKids l e0 = s := ⟨_, rfl⟩
  have hE : (rdInn l e0).1.kids = ks ∧ (rdInn l e0).1.pivs = (rdPivs ks.length l2 e2).1 ∧ (rdInn l e0).1.ms = (rdMss (rdPivs ks.length l2 e2).2.1 (rdPivs ks.length l2 e2).2.2).1 := by
    unfold rdInn
    rw [hks]
    exact ⟨rfl, rfl, rfl⟩
  rw [hks] at HK hkl hL2
  dsimp only at hkl hL2
  have hpl := rdPivs_len ks.length hkl l2 e2
  have HP : Hid (rdPivs ks.length l2 e2 = itr pivS (ks.length - 1) ([], l2, e2)) := rfl
  have hL3 := itr_left pivS pivS_left ([], l2, e2) (ks.length - 1)
  rw [← HP.out] at hL3
  dsimp only at hL3
  obtain ⟨⟨ps, l3, e3⟩, hps⟩ : ∃ s, rdPivs ks.length l2 e2 = s := ⟨_, rfl⟩
  rw [hps] at HP hpl hE hL3
  dsimp only at hpl hE hL3
  have hml := rdMss_len l3 e3
  have HM : Hid (rdMss l3 e3 = itr msS (numVal 1 l3).toNat ([], numL 1 l3, numE 1 l3 e3)) := rfl
  have hmv := msS_vals (numVal 1 l3).toNat (numL 1 l3) (numE 1 l3 e3) 1000 (by have := numL_len 1 l3; omega)
  rw [← HM.out] at hmv
  have hn3 := numVal_nonneg l3
  have hL4 := numL_len 1 l3
  obtain ⟨⟨ms, l4, e4⟩, hms⟩ : ∃ s, rdMss l3 e3 = s := ⟨_, rfl⟩
  rw [hms] at HM hml hE hmv
  dsimp only at hml hE hmv
  rw [hE.1, hE.2.1, hE.2.2]
  have cN3 := fun (u : World) (hu : IsIn u p l3 e3) => inNum_any 1 p l3 e3 u hu (by unfold maxLen; omega)
  have cPv := fun (u : World) (hu : IsIn u p l2 e2) => rowPiv_any ((ks.length : Int) - 1) (by omega) p l2 e2 u hu (by omega)
  have hto : ((ks.length : Int) - 1).toNat = ks.length - 1 := by omega
  rw [hto] at cPv
  have HPv : Hid (itr pivS (ks.length - 1) ([], l2, e2) = (ps, l3, e3)) := HP.out.symm
  rw [HPv.out] at cPv
  dsimp only at cPv
  have cKd := fun (u : World) (hu : IsIn u p (numL 1 l) (numE 1 l e0)) => rowKid_any (numVal 1 l) (by omega) p (numL 1 l) (numE 1 l e0) u hu (by omega)
  rw [← HK.out] at cKd
  dsimp only at cKd
  have cMs := fun (u : World) (hu : IsIn u p (numL 1 l3) (numE 1 l3 e3)) => rowMs_any (numVal 1 l3) (by omega) p (numL 1 l3) (numE 1 l3 e3) u hu (by omega)
  rw [← HM.out] at cMs
  dsimp only at cMs
  have wr1 : IntKind.i64.wrap ((ks.length : Int) - 1) = (ks.length : Int) - 1 := by rw [IntKind.wrap_i64]; omega
  have HV := hid hmv
  clear h hn hL1 hL2 hL3 hL4 hn3 hE HK HP HM HPv hks hps hms hto hmv hl
  obtain ⟨z, hz⟩ : ∃ z, numVal 1 l = z := ⟨_, rfl⟩
  obtain ⟨l1, hl1⟩ : ∃ l1, numL 1 l = l1 := ⟨_, rfl⟩
  obtain ⟨e1, he1⟩ : ∃ e1, numE 1 l e0 = e1 := ⟨_, rfl⟩
  rw [hz, hl1, he1] at cN cKd
  clear hz hl1 he1
  obtain ⟨z3, hz3⟩ : ∃ z, numVal 1 l3 = z := ⟨_, rfl⟩
  obtain ⟨l5, hl5⟩ : ∃ l5, numL 1 l3 = l5 := ⟨_, rfl⟩
  obtain ⟨e5, he5⟩ : ∃ e5, numE 1 l3 e3 = e5 := ⟨_, rfl⟩
  simp only [hz3, hl5, he5] at cN3 cMs
  clear hz3 hl5 he5
  go_enter Tryz.func100, Tryz.ntmps100
  go_wp2_with fail
  refine cN.mono ?_
  rintro e w1 ⟨rfl, s1, i1⟩
  have S1 := hid s1
  have q1 : Hid (p < w1.heap.size) := Nat.lt_of_lt_of_le HP0.out s1.size
  clear s1
  go_wp2_with fail
  refine (cKd _ i1).mono ?_
  rintro e w2 ⟨v, rfl, O2, S2, I2⟩
  have q2 : Hid (p < w2.heap.size) := Nat.lt_of_lt_of_le q1.out S2.out.size
  have SS := hid (S1.out.trans S2.out)
  obtain ⟨ka, kc, rfl, _, _, _⟩ := O2.out.row
  clear i1
  go_wp2_with fail
  refine (cPv _ I2.out).mono ?_
  rintro e w3 ⟨v, rfl, O3, S3, I3⟩
  have K3 : Hid (OwnI w3 w1.heap.size (.slice ka ks.length kc) ks) := owns_step O2.out S3.out (own_not O2.out q1.out)
  have S4 := hid (SS.out.trans S3.out)
  obtain ⟨pa, pc, rfl, _, _, _⟩ := O3.out.row
  clear O2 S2 I2
  go_wp2_with fail
  refine (cN3 _ I3.out).mono ?_
  rintro e w4 ⟨rfl, s4, i4⟩
  have K4 : Hid (OwnI w4 w1.heap.size (.slice ka ks.length kc) ks) := owns_step K3.out s4 (own_not K3.out q1.out)
  have P4 : Hid (OwnT w4 w2.heap.size (.slice pa ps.length pc) ps) := owns_step O3.out s4 (own_not O3.out q2.out)
  have S5 := hid (S4.out.trans s4)
  clear s4 O3 S3 I3 K3
  go_wp2_with fail
  refine (cMs _ i4).mono ?_
  rintro e w5 ⟨v, rfl, O5, S6, I5⟩
  have K5 : Hid (OwnI w5 w1.heap.size (.slice ka ks.length kc) ks) := owns_step K4.out S6.out (own_not K4.out q1.out)
  have P5 : Hid (OwnT w5 w2.heap.size (.slice pa ps.length pc) ps) := owns_step P4.out S6.out (own_not P4.out q2.out)
  have S7 := hid (S5.out.trans S6.out)
  obtain ⟨ma, mc, rfl, mn, m5⟩ := msgsAt_nil_cap O5.out
  have MN := hid mn
  have M5 := hid m5
  clear i4 K4 P4 O5 S6 I5 mn m5
  go_wp2_with fail
  refine (ofN_any ks ps ms (by omega) (by omega) (by omega) (fun m hm => by have := HV.out m hm; unfold maxLen; omega) ka pa ma kc pc mc (ownI_at K5.out).1 (ownT_at P5.out).1 MN.out w5 (ownI_at K5.out).2 (ownT_at P5.out).2 M5.out).mono ?_
  rintro e w6 ⟨⟨he, rfl⟩ | ⟨he, q, rfl, N6⟩, s6⟩
  · have S8 := hid (S7.out.trans (s6.mono (fun _ h => h.elim)))
    have HM : Hid (mkI ks ps ms = none) := by unfold mkI; rw [he]; exact hid rfl
    clear s6 he
    go_wp2_with fail
    refine (ndOfInner_nil _).mono ?_
    rintro e w4 ⟨rfl, rfl⟩
    go_wp2_with fail
    go_ret
    refine ⟨none, rfl, ?_, S8.out⟩
    rw [HM.out]
    trivial
  · have S8 := hid (S7.out.trans (s6.mono (fun _ h => h.elim)))
    have HM : Hid (mkI ks ps ms = some (.inn ⟨ks, ps, putsM ms []⟩)) := by unfold mkI; rw [if_pos he]; exact hid rfl
    have L4 := hid N6
    clear s6 he N6
    go_wp2_with fail
    refine (ndOfInner_any q _ _ L4.out).mono ?_
    rintro e w4 ⟨rfl, s4, N4⟩
    have N5 := hid N4
    have S9 := hid (S8.out.trans (s4.mono (fun _ h => h.elim)))
    clear s4 N4
    go_wp2_with fail
    go_ret
    refine ⟨_, rfl, ?_, S9.out⟩
    rw [HM.out]
    exact ⟨_, rfl, N5.out⟩

/-- What Parse answers. -/
def ParsePost (w w' : World) (l : List UInt8) (e : Ending) : Prop := Step noF w w' ∧ ((∃ v r, IsOf l v ∧ e = .returned (.tuple #[.pointer (some ⟨r, 0, none⟩), .int .i64 0]) ∧ NodeAt w' r v) ∨ ((∀ v, ¬ IsOf l v) ∧ e = .returned (.tuple #[.pointer none, .int .i64 5])))
set_option maxHeartbeats 4000000 in
theorem ndParse_any (l : List UInt8) (hl : l.length ≤ 1000) (w : World) :
    Calls Tryz.prog 22 #[.string (str l)] w fun e w' => ParsePost w w' l e := by
  have h0 := nil_str
  have hE := same_str
  have cO := of_any l w
  have HL1 := hid (numL_len 1 l)
  have HMO : Hid (mkO l = if numVal 1 l = 1 then mkL (rdIts (numL 1 l) (numE 1 l 0)).1 else if numVal 1 l = 2 then mkI (rdInn (numL 1 l) (numE 1 l 0)).1.kids (rdInn (numL 1 l) (numE 1 l 0)).1.pivs (rdInn (numL 1 l) (numE 1 l 0)).1.ms else none) := rfl
  have cN := fun (p : Nat) (u : World) (hu : IsIn u p l 0) => inNum_any 1 p l 0 u hu (by unfold maxLen; omega)
  obtain ⟨z, hz⟩ : ∃ z, numVal 1 l = z := ⟨_, rfl⟩
  obtain ⟨l1, hl1⟩ : ∃ l1, numL 1 l = l1 := ⟨_, rfl⟩
  obtain ⟨e1, he1⟩ : ∃ e1, numE 1 l 0 = e1 := ⟨_, rfl⟩
  simp only [hz, hl1, he1] at cN
  rw [hz, hl1, he1] at HMO
  rw [hl1] at HL1
  have HB := hid hl
  clear hz hl1 he1
  have hlook := fun (u : World) (r : Nat) (hb : u.heap[r]? = some (.map rdEs 2)) => rd_look u r hb z
  unfold ParsePost
  by_cases k1 : z = 1
  · subst k1
    have HO : Hid (mkO l = mkL (rdIts l1 e1).1) := by show _ = _; rw [HMO.out, if_pos rfl]
    clear HMO
    simp only [rdAt, if_true, true_or, decide_true] at hlook
    unfold rdLf at hlook
    have cR := fun (p : Nat) (u : World) (hu : IsIn u p l1 e1) => readLeaf_any p l1 e1 u hu (by have := HL1.out; have := HB.out; omega)
    go_enter Tryz.func22, Tryz.ntmps22
    go_wp2_with fail
    refine cO.mono ?_
    rintro e w1 ⟨rfl, s1, i1, z1⟩
    have S1 := hid s1
    have I1 := hid i1
    clear s1 i1 z1
    go_wp2_with fail
    refine (readers_any _).mono ?_
    rintro e w2 ⟨rfl, s2, b2⟩
    have I2 := hid (I1.out.mono s2 (fun h => h))
    have S2 := hid (S1.out.trans s2)
    have Q2 : Hid (w.heap.size < w1.heap.size) := lt_of_block I1.out
    clear s2
    go_wp2_with fail
    refine (cN _ _ I2.out).mono ?_
    rintro e w3 ⟨rfl, s3, i3⟩
    have hk := hlook w3 w1.heap.size ((s3.block _ (lt_of_block b2) (fun h => by have a1 : w1.heap.size = w.heap.size := h; have := Q2.out; omega)).trans b2)
    have S3 : Hid (Step noF w w3) := ((S2.out.mono (fun _ h => h.elim)).trans s3).mono (fun i h => .inr (by have a1 : i = w.heap.size := h; omega))
    have I3 := hid i3
    clear s3 i3 b2 hlook
    go_wp2_with fail
    refine (cR _ _ I3.out).mono ?_
    rintro e w4 ⟨y, rfl, Z3, S4⟩
    have S5 : Hid (Step noF w w4) := ((S3.out.mono (fun _ h => h.elim)).trans S4.out).mono (fun i h => .inr (by have a1 : i = w.heap.size := h; omega))
    clear S3 S4 hk
    have S3 := S5
    clear S5 S2 S1 I1 I2 I3
    have OG := hid (fun (v : Nv) (hv : mkO l = some v) => mkO_good hv)
    have OF := hid (fun (u : Nv) (hu : IsOf l u) => mkO_of hu)
    rw [HO.out] at OG OF
    cases y with
    | none =>
      cases ho : mkL (rdIts l1 e1).1 with
      | some v => rw [ho] at Z3; exact absurd Z3.out (fun h => h)
      | none =>
        rw [ho] at OF
        have NO : Hid (∀ v, ¬ IsOf l v) := fun v hv => by have := OF.out v hv; cases this
        clear OF OG ho Z3
        go_wp2_with fail
        refine (ndBytes_nil _).mono ?_
        rintro e w5 ⟨rfl, rfl⟩
        go_wp2_with fail
        go_ret2
        exact ⟨S3.out, .inr ⟨NO.out, rfl⟩⟩
    | some ad =>
      cases ho : mkL (rdIts l1 e1).1 with
      | none => rw [ho] at Z3; exact absurd Z3.out (fun h => h)
      | some v =>
        rw [ho] at Z3 OF OG
        obtain ⟨r, rfl, N3⟩ := Z3.out
        obtain ⟨hg, hs⟩ := OG.out v rfl
        have HG := hid hg
        have N4 := hid N3
        have cB := ndBytes_any r v hs hg _ N3
        have ON : Hid (∀ u, IsOf l u → u = v) := fun u hu => (Option.some.inj (OF.out u hu)).symm
        clear OF OG ho Z3 N3 hg hs HO
        cases hf : v.fits with
        | false =>
          have HW : Hid (v.wr = [] ∧ v.wrE = 8) := by unfold Nv.wr Nv.wrE; rw [hf]; exact ⟨rfl, rfl⟩
          rw [HW.out.1, HW.out.2] at cB
          have NO : Hid (∀ u, ¬ IsOf l u) := fun u hu => by
            have e1 := ON.out u hu
            subst e1
            have := hu.2.1
            rw [hf] at this
            cases this
          clear HW hf ON
          go_wp2_with fail
          refine cB.mono ?_
          rintro e w5 ⟨rfl, s5⟩
          have S5 := hid (S3.out.trans s5)
          clear s5
          go_wp2_with fail
          go_ret2
          exact ⟨S5.out, .inr ⟨NO.out, rfl⟩⟩
        | true =>
          have HW : Hid (v.wr = v.bytes ∧ v.wrE = 0) := by unfold Nv.wr Nv.wrE; rw [hf]; exact ⟨rfl, rfl⟩
          rw [HW.out.1, HW.out.2] at cB
          clear HW
          by_cases hb : v.bytes = l
          · have IOF : Hid (IsOf l v) := ⟨HG.out, hf, hb⟩
            rw [hb] at cB
            clear hf hb
            go_wp2_with fail
            refine cB.mono ?_
            rintro e w5 ⟨rfl, s5⟩
            have S5 := hid (S3.out.trans s5)
            have N5 := hid (N4.out.step s5)
            clear s5
            go_wp2_with fail
            go_ret2
            exact ⟨S5.out, .inl ⟨v, r, IOF.out, rfl, N5.out⟩⟩
          · have NO : Hid (∀ u, ¬ IsOf l u) := fun u hu => by
              have e1 := ON.out u hu
              subst e1
              exact hb hu.2.2
            obtain ⟨B, hB⟩ : ∃ B, v.bytes = B := ⟨_, rfl⟩
            rw [hB] at cB hb
            have d1 : decide (B = l) = false := decide_eq_false hb
            clear hf hb hB ON
            go_wp2_with fail
            refine cB.mono ?_
            rintro e w5 ⟨rfl, s5⟩
            have S5 := hid (S3.out.trans s5)
            clear s5
            go_wp2_with fail
            go_ret2
            exact ⟨S5.out, .inr ⟨NO.out, rfl⟩⟩

  · by_cases k2 : z = 2
    · subst k2
      have HO : Hid (mkO l = mkI (rdInn l1 e1).1.kids (rdInn l1 e1).1.pivs (rdInn l1 e1).1.ms) := by show _ = _; rw [HMO.out, if_neg (by decide), if_pos rfl]
      clear HMO
      simp only [rdAt, show ¬ (2 : Int) = 1 from by decide, if_false, if_true, or_true, decide_true] at hlook
      unfold rdIn at hlook
      have cR := fun (p : Nat) (u : World) (hu : IsIn u p l1 e1) => readInner_any p l1 e1 u hu (by have := HL1.out; have := HB.out; omega)
      go_enter Tryz.func22, Tryz.ntmps22
      go_wp2_with fail
      refine cO.mono ?_
      rintro e w1 ⟨rfl, s1, i1, z1⟩
      have S1 := hid s1
      have I1 := hid i1
      clear s1 i1 z1
      go_wp2_with fail
      refine (readers_any _).mono ?_
      rintro e w2 ⟨rfl, s2, b2⟩
      have I2 := hid (I1.out.mono s2 (fun h => h))
      have S2 := hid (S1.out.trans s2)
      have Q2 : Hid (w.heap.size < w1.heap.size) := lt_of_block I1.out
      clear s2
      go_wp2_with fail
      refine (cN _ _ I2.out).mono ?_
      rintro e w3 ⟨rfl, s3, i3⟩
      have hk := hlook w3 w1.heap.size ((s3.block _ (lt_of_block b2) (fun h => by have a1 : w1.heap.size = w.heap.size := h; have := Q2.out; omega)).trans b2)
      have S3 : Hid (Step noF w w3) := ((S2.out.mono (fun _ h => h.elim)).trans s3).mono (fun i h => .inr (by have a1 : i = w.heap.size := h; omega))
      have I3 := hid i3
      clear s3 i3 b2 hlook
      go_wp2_with fail
      refine (cR _ _ I3.out).mono ?_
      rintro e w4 ⟨y, rfl, Z3, S4⟩
      have S5 : Hid (Step noF w w4) := ((S3.out.mono (fun _ h => h.elim)).trans S4.out).mono (fun i h => .inr (by have a1 : i = w.heap.size := h; omega))
      clear S3 S4 hk
      have S3 := S5
      clear S5 S2 S1 I1 I2 I3
      have OG := hid (fun (v : Nv) (hv : mkO l = some v) => mkO_good hv)
      have OF := hid (fun (u : Nv) (hu : IsOf l u) => mkO_of hu)
      rw [HO.out] at OG OF
      cases y with
      | none =>
        cases ho : mkI (rdInn l1 e1).1.kids (rdInn l1 e1).1.pivs (rdInn l1 e1).1.ms with
        | some v => rw [ho] at Z3; exact absurd Z3.out (fun h => h)
        | none =>
          rw [ho] at OF
          have NO : Hid (∀ v, ¬ IsOf l v) := fun v hv => by have := OF.out v hv; cases this
          clear OF OG ho Z3
          go_wp2_with fail
          refine (ndBytes_nil _).mono ?_
          rintro e w5 ⟨rfl, rfl⟩
          go_wp2_with fail
          go_ret2
          exact ⟨S3.out, .inr ⟨NO.out, rfl⟩⟩
      | some ad =>
        cases ho : mkI (rdInn l1 e1).1.kids (rdInn l1 e1).1.pivs (rdInn l1 e1).1.ms with
        | none => rw [ho] at Z3; exact absurd Z3.out (fun h => h)
        | some v =>
          rw [ho] at Z3 OF OG
          obtain ⟨r, rfl, N3⟩ := Z3.out
          obtain ⟨hg, hs⟩ := OG.out v rfl
          have HG := hid hg
          have N4 := hid N3
          have cB := ndBytes_any r v hs hg _ N3
          have ON : Hid (∀ u, IsOf l u → u = v) := fun u hu => (Option.some.inj (OF.out u hu)).symm
          clear OF OG ho Z3 N3 hg hs HO
          cases hf : v.fits with
          | false =>
            have HW : Hid (v.wr = [] ∧ v.wrE = 8) := by unfold Nv.wr Nv.wrE; rw [hf]; exact ⟨rfl, rfl⟩
            rw [HW.out.1, HW.out.2] at cB
            have NO : Hid (∀ u, ¬ IsOf l u) := fun u hu => by
              have e1 := ON.out u hu
              subst e1
              have := hu.2.1
              rw [hf] at this
              cases this
            clear HW hf ON
            go_wp2_with fail
            refine cB.mono ?_
            rintro e w5 ⟨rfl, s5⟩
            have S5 := hid (S3.out.trans s5)
            clear s5
            go_wp2_with fail
            go_ret2
            exact ⟨S5.out, .inr ⟨NO.out, rfl⟩⟩
          | true =>
            have HW : Hid (v.wr = v.bytes ∧ v.wrE = 0) := by unfold Nv.wr Nv.wrE; rw [hf]; exact ⟨rfl, rfl⟩
            rw [HW.out.1, HW.out.2] at cB
            clear HW
            by_cases hb : v.bytes = l
            · have IOF : Hid (IsOf l v) := ⟨HG.out, hf, hb⟩
              rw [hb] at cB
              clear hf hb
              go_wp2_with fail
              refine cB.mono ?_
              rintro e w5 ⟨rfl, s5⟩
              have S5 := hid (S3.out.trans s5)
              have N5 := hid (N4.out.step s5)
              clear s5
              go_wp2_with fail
              go_ret2
              exact ⟨S5.out, .inl ⟨v, r, IOF.out, rfl, N5.out⟩⟩
            · have NO : Hid (∀ u, ¬ IsOf l u) := fun u hu => by
                have e1 := ON.out u hu
                subst e1
                exact hb hu.2.2
              obtain ⟨B, hB⟩ : ∃ B, v.bytes = B := ⟨_, rfl⟩
              rw [hB] at cB hb
              have d1 : decide (B = l) = false := decide_eq_false hb
              clear hf hb hB ON
              go_wp2_with fail
              refine cB.mono ?_
              rintro e w5 ⟨rfl, s5⟩
              have S5 := hid (S3.out.trans s5)
              clear s5
              go_wp2_with fail
              go_ret2
              exact ⟨S5.out, .inr ⟨NO.out, rfl⟩⟩

    · have NO : Hid (∀ v, ¬ IsOf l v) := fun v hv => by
        have h1 := mkO_of hv
        rw [HMO.out, if_neg k1, if_neg k2] at h1
        cases h1
      simp only [rdAt, if_neg k1, if_neg k2, decide_eq_false (show ¬ (z = 1 ∨ z = 2) from fun h => by rcases h with h | h; exact k1 h; exact k2 h)] at hlook
      clear HMO k1 k2
      go_enter Tryz.func22, Tryz.ntmps22
      go_wp2_with fail
      refine cO.mono ?_
      rintro e w1 ⟨rfl, s1, i1, z1⟩
      have S1 := hid s1
      have I1 := hid i1
      clear s1 i1 z1
      go_wp2_with fail
      refine (readers_any _).mono ?_
      rintro e w2 ⟨rfl, s2, b2⟩
      have I2 := hid (I1.out.mono s2 (fun h => h))
      have S2 := hid (S1.out.trans s2)
      have Q2 : Hid (w.heap.size < w1.heap.size) := lt_of_block I1.out
      clear s2
      go_wp2_with fail
      refine (cN _ _ I2.out).mono ?_
      rintro e w3 ⟨rfl, s3, i3⟩
      have hk := hlook w3 w1.heap.size ((s3.block _ (lt_of_block b2) (fun h => by have a1 : w1.heap.size = w.heap.size := h; have := Q2.out; omega)).trans b2)
      have S3 : Hid (Step noF w w3) := ((S2.out.mono (fun _ h => h.elim)).trans s3).mono (fun i h => .inr (by have a1 : i = w.heap.size := h; omega))
      clear s3 i3 b2 hlook
      go_wp2_with fail
      go_ret2
      exact ⟨S3.out, .inr ⟨NO.out, rfl⟩⟩
end Go.Proofs.YtoobelcphcndoaaGreat
