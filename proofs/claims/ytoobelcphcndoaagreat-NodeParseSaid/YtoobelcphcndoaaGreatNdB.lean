/-
  How package node writes a node: its bytes.
  How package node reads: the readers by kind (a map), rows that are read one behind the other.
-/
import Derived.Test.YtoobelcphcndoaaGreatNdA
import Derived.MapKept
import Derived.Carry
namespace Go.Proofs.YtoobelcphcndoaaGreat
open Go.RowKit Go.Sort
set_option linter.unusedVariables false
set_option linter.unusedSimpArgs false
set_option maxRecDepth 20000

/-- Where a row of one's own lies. -/
theorem own_base {w : World} {base : Nat} {e : TypeId} {s : Nat} {v : Value} {n m c : Nat} {cs : List Value} {a : Option Addr} (h : w.ownsRow base e s v n cs) (hv : v = .slice a m c) : ∀ b off x, a = some ⟨b, off, x⟩ → base ≤ b := by
  intro b off x ha
  subst ha hv
  rcases h.2 with ⟨h1, _⟩ | ⟨g, cap, cur, h1, h2, _⟩
  · cases h1
  · cases h1; exact h2
theorem rowAt_F {w : World} {F : Nat → Prop} {a : Option Addr} {cs : List Value} (h : RowAt w noF a cs) (hF : ∀ b off x, a = some ⟨b, off, x⟩ → ¬ F b) : RowAt w F a cs := by
  rcases h with h | ⟨b, off, rfl, _, h⟩
  · exact .inl h
  · exact .inr ⟨b, off, rfl, hF b off none rfl, h⟩
theorem msgsAt_F {w : World} {F : Nat → Prop} {a : Option Addr} {ms : List Mg} (h : MsgsAt w noF a ms) (hF : ∀ b off x, a = some ⟨b, off, x⟩ → ¬ F b) : MsgsAt w F a ms := by
  rcases h with h | ⟨b, off, rfl, _, h⟩
  · exact .inl h
  · exact .inr ⟨b, off, rfl, hF b off none rfl, h⟩
/-- Items that no write turns. -/
def ItsF (w : World) (F : Nat → Prop) (a : Option Addr) (xs : List Rg) : Prop := xs = [] ∨ ∃ b off, a = some ⟨b, off, none⟩ ∧ ¬ F b ∧ b < w.heap.size ∧ ∀ j (h : j < xs.length), w.cell? ⟨b, off + j * 2, none⟩ = some (.string (str xs[j].lo)) ∧ w.cell? ⟨b, off + j * 2 + 1, none⟩ = some (.string (str xs[j].hi))
theorem itsF_of {w : World} {F : Nat → Prop} {a : Option Addr} {xs : List Rg} (h : RgsAt w a xs) (hF : ∀ b off x, a = some ⟨b, off, x⟩ → ¬ F b) : ItsF w F a xs := by
  rcases h with h | ⟨b, off, rfl, h1, h⟩
  · exact .inl h
  · exact .inr ⟨b, off, rfl, hF b off none rfl, h1, h⟩
theorem ItsF.at {w w' : World} {F : Nat → Prop} {a : Option Addr} {xs : List Rg} (h : ItsF w F a xs) (hs : Step F w w') (j : Nat) (hj : j < xs.length) : ∃ b off, a = some ⟨b, off, none⟩ ∧ w'.cell? ⟨b, off + j * 2, none⟩ = some (.string (str xs[j].lo)) ∧ w'.cell? ⟨b, off + j * 2 + 1, none⟩ = some (.string (str xs[j].hi)) := by
  rcases h with rfl | ⟨b, off, rfl, h1, h2, h3⟩
  · simp at hj
  · obtain ⟨c0, c1⟩ := h3 j hj
    exact ⟨b, off, rfl, (hs.cell (p := ⟨b, off + j * 2, none⟩) h1 h2).trans c0, (hs.cell (p := ⟨b, off + j * 2 + 1, none⟩) h1 h2).trans c1⟩

/-- An Out made since world w0: no block of w0 is turned. -/
structure OutW (w0 : World) (p : Nat) (w : World) (bs : List UInt8) (F : Nat → Prop) : Prop where
  st : Step noF w0 w
  out : IsOut w p F bs
  new : ∀ k, F k → w0.heap.size ≤ k
theorem OutW.step {w0 w w2 : World} {p : Nat} {bs : List UInt8} {F : Nat → Prop} (h : OutW w0 p w bs F) (hs : Step noF w w2) : OutW w0 p w2 bs F := ⟨h.st.trans hs, h.out.step hs, h.new⟩
theorem OutW.go {w0 w w' : World} {p : Nat} {bs b2 : List UInt8} {F : Nat → Prop} (h : OutW w0 p w bs F) (k : OutPost w p F b2 w') : ∃ F', Hid (OutW w0 p w' b2 F') ∧ Hid (Step F w w') ∧ Hid (∀ j, F' j → F j ∨ w.heap.size ≤ j) := by
  obtain ⟨F', k1, k2, k3⟩ := k
  have hs := h.st.size
  refine ⟨F', ⟨((h.st.mono (fun i x => x.elim)).trans k1).mono (fun i hi => .inr (h.new i hi)), k2, fun j hj => ?_⟩, k1, k3⟩
  rcases k3 j hj with x | x
  · exact h.new j x
  · omega
theorem OutW.eq {w0 w : World} {p : Nat} {bs b2 : List UInt8} {F : Nat → Prop} (h : OutW w0 p w bs F) (e : bs = b2) : OutW w0 p w b2 F := e ▸ h

/-- One number of a byte is written. -/
theorem wNum1 {w0 w : World} {p : Nat} {bs : List UInt8} {F : Nat → Prop} (h : OutW w0 p w bs F) (hb : bs.length ≤ 100000) (n : Nat) (hn : n < 256) (z : Int) (hz : z = (n : Int)) (g : Nat) (hg : g = w.heap.size) :
    Calls Tryz.prog 93 #[.pointer (some ⟨p, 0, none⟩), .int .i64 1, .slice (some ⟨g, 0, none⟩) 1 1] (w.alloc (.cells #[.int .i64 z] 3)) fun e w' => e = .returned (.int .i64 0) ∧ ∃ F', Hid (OutW w0 p w' (bs ++ [UInt8.ofNat n]) F') := by
  subst hz hg
  have hv : numV 1 [(n : Int)] = true := by
    simp [numV, isW, fitB]
    omega
  have H := h.step ((Step.refl noF w).alloc (.cells #[.int .i64 (n : Int)] 3))
  refine (num_call 1 [(n : Int)] 1 rfl (by intro z hz; simp at hz; subst hz; omega) (by simp) _ 1 p F bs _ H.out (by omega) (rowAt_new w F (fun q hq => h.out.lt q hq) _ _ _ rfl _ rfl) (bs ++ [UInt8.ofNat n]) ?_ 0 (by rw [hv]; rfl)).mono ?_
  · rw [numB, if_pos hv]
    simp [be]
  · rintro e w' ⟨rfl, k⟩
    obtain ⟨F', a, b, c⟩ := H.go k
    exact ⟨rfl, F', a⟩
theorem ntx_txt (l : List UInt8) : txt (str l) = ntx l := by simp [txt, ntx, str_size, str_list]
/-- Two texts are written. -/
theorem wText2 {w0 w : World} {p : Nat} {bs : List UInt8} {F : Nat → Prop} (h : OutW w0 p w bs F) (hb : bs.length ≤ 100000) (x y : List UInt8) (hx : x.length ≤ 255) (hy : y.length ≤ 255) (g : Nat) (hg : g = w.heap.size) :
    Calls Tryz.prog 95 #[.pointer (some ⟨p, 0, none⟩), .slice (some ⟨g, 0, none⟩) 2 2] (w.alloc (.cells #[.string (str x), .string (str y)] 9)) fun e w' => e = .returned (.int .i64 0) ∧ ∃ F', Hid (OutW w0 p w' (bs ++ (ntx x ++ ntx y)) F') ∧ Hid (Step F w w') ∧ Hid (∀ j, F' j → F j ∨ w.heap.size ≤ j) := by
  subst hg
  have hv : textV [str x, str y] = true := by
    simp [textV, str_size]
    omega
  have H := h.step ((Step.refl noF w).alloc (.cells #[.string (str x), .string (str y)] 9))
  refine (text_call [str x, str y] 2 rfl (by simp) (by intro z hz; simp at hz; rcases hz with rfl | rfl <;> (rw [str_size]; unfold maxLen; omega)) _ 2 p F bs _ H.out (by omega) (rowAt_new w F (fun q hq => h.out.lt q hq) _ _ _ rfl _ rfl) (bs ++ (ntx x ++ ntx y)) ?_ 0 (by rw [hv]; rfl)).mono ?_
  · rw [textB, if_pos hv]
    simp [ntx_txt]
  · rintro e w' ⟨rfl, k⟩
    obtain ⟨F', a, b, c⟩ := H.go k
    refine ⟨rfl, F', a, ((Step.refl F w).alloc _).trans b.out, fun j hj => ?_⟩
    rcases c.out j hj with x | x
    · exact .inl x
    · rw [World.size_alloc] at x
      exact .inr (by omega)
/-- A row of kids is written. -/
theorem wKids {w0 w : World} {p : Nat} {bs : List UInt8} {F : Nat → Prop} (h : OutW w0 p w bs F) (hb : bs.length ≤ 100000) (ks : List Int) (hk : ∀ k ∈ ks, kidFit k) (hl : ks.length ≤ 1000) (a : Option Addr) (cap : Nat) (hr : RowAt w F a (intsOf ks)) :
    Calls Tryz.prog 93 #[.pointer (some ⟨p, 0, none⟩), .int .i64 2, .slice a ks.length cap] w fun e w' => e = .returned (.int .i64 0) ∧ ∃ F', Hid (OutW w0 p w' (bs ++ ks.flatMap kidB) F') := by
  have hv : numV 2 ks = true := by
    simp only [numV, isW, Bool.and_eq_true, List.all_eq_true, fitB, decide_eq_true_eq]
    refine ⟨by decide, fun z hz => ?_⟩
    have := hk z hz
    exact ⟨this.1, by have := this.2; simpa using this⟩
  refine (num_call 2 ks ks.length rfl (by intro z hz; have := hk z hz; have h1 := this.1; have h2 := this.2; omega) hl _ cap p F bs _ h.out (by omega) hr (bs ++ ks.flatMap kidB) ?_ 0 (by rw [hv]; rfl)).mono ?_
  · rw [numB, if_pos hv]
    rfl
  · rintro e w' ⟨rfl, k⟩
    obtain ⟨F', a, b, c⟩ := h.go k
    exact ⟨rfl, F', a⟩
theorem strs_map (ps : List (List UInt8)) : strsOf (ps.map str) = texts ps := by simp [strsOf, texts]
/-- A row of pivots is written. -/
theorem wPivs {w0 w : World} {p : Nat} {bs : List UInt8} {F : Nat → Prop} (h : OutW w0 p w bs F) (hb : bs.length ≤ 100000) (ps : List (List UInt8)) (hk : ∀ t ∈ ps, t.length ≤ 8) (hl : ps.length ≤ 1000) (a : Option Addr) (cap : Nat) (hr : RowAt w F a (texts ps)) :
    Calls Tryz.prog 95 #[.pointer (some ⟨p, 0, none⟩), .slice a ps.length cap] w fun e w' => e = .returned (.int .i64 0) ∧ ∃ F', Hid (OutW w0 p w' (bs ++ ps.flatMap ntx) F') := by
  have hv : textV (ps.map str) = true := by
    simp only [textV, List.all_eq_true, decide_eq_true_eq]
    intro z hz
    obtain ⟨t, ht, rfl⟩ := List.mem_map.1 hz
    rw [str_size]
    have := hk t ht
    omega
  refine (text_call (ps.map str) ps.length (by simp) (by simpa using hl) (by intro z hz; obtain ⟨t, ht, rfl⟩ := List.mem_map.1 hz; rw [str_size]; have := hk t ht; unfold maxLen; omega) _ cap p F bs _ h.out (by omega) (by rw [strs_map]; exact hr) (bs ++ ps.flatMap ntx) ?_ 0 (by rw [hv]; rfl)).mono ?_
  · rw [textB, if_pos hv, List.flatMap_map]
    simp only [ntx_txt]
  · rintro e w' ⟨rfl, k⟩
    obtain ⟨F', a, b, c⟩ := h.go k
    exact ⟨rfl, F', a⟩
theorem flatIt_len (xs : List Rg) (hf : ∀ x ∈ xs, itFit x) : (xs.flatMap itB).length ≤ xs.length * 26 := flatB_le itB 26 xs (fun x hx => by rw [itB_length]; have := hf x hx; unfold itW; have h1 := this.1; have h2 := this.2; omega)
theorem flatIt_take (xs : List Rg) (j : Nat) (hj : j < xs.length) : (xs.take (j + 1)).flatMap itB = (xs.take j).flatMap itB ++ (ntx xs[j].lo ++ ntx xs[j].hi) := by
  rw [List.take_succ_eq_append_getElem hj, List.flatMap_append]
  simp [itB]

set_option maxHeartbeats 2000000 in
theorem writeLeaf_any (q : Nat) (xs : List Rg) (hl : xs.length < 256) (hf : ∀ x ∈ xs, itFit x) (w0 : World) (h : LeafAt w0 q xs) (p : Nat) (w : World) (F : Nat → Prop) (ho : OutW w0 p w [] F) :
    Calls Tryz.prog 45 #[.pointer (some ⟨p, 0, none⟩), .pointer (some ⟨q, 0, none⟩)] w fun e w' => e = .returned (.tuple #[]) ∧ ∃ F', Hid (OutW w0 p w' (leafB xs) F') := by
  have HO := hid ho
  have HL := fun (u : World) (hu : Hid (Step noF w0 u)) => hid (h.step hu.out)
  have HF := hid hf
  have HX := hid (flatIt_len xs hf)
  clear ho h hf
  go_enter Tryz.func45, Tryz.ntmps45
  go_wp2_with fail
  refine (wNum1 HO.out (by simp) 1 (by omega) _ rfl _ rfl).mono ?_
  rintro e w2 ⟨rfl, F2, O2⟩
  go_wp2_with fail
  refine (lenL_any q xs _ (HL _ O2.out.st).out).mono ?_
  rintro e w3 ⟨rfl, rfl⟩
  go_wp2_with fail
  refine (wNum1 O2.out (by simp) xs.length hl _ rfl _ rfl).mono ?_
  rintro e w3 ⟨rfl, F3, O3⟩
  go_wp2_with fail
  refine (items_any q xs (by omega) _ (HL _ O3.out.st).out).mono ?_
  rintro e w4 ⟨v, rfl, own, s4⟩
  obtain ⟨a, c, rfl, h1, h2, h3⟩ := owns_rgs own
  have HI : Hid (ItsF w4 F3 a xs) := itsF_of h3 (fun b off x ha hF => by
    have e1 := own_base own rfl b off x ha
    have e2 := O3.out.out.lt b hF
    omega)
  have O4 : Hid (OutW w0 p w4 [1, UInt8.ofNat xs.length] F3) := (O3.out.step s4).eq rfl
  clear own s4 h1 h2 h3
  go_wp2_with fail
  go_loopw [17] (fun i wr => ∃ (j : Nat) (F' : Nat → Prop), j ≤ xs.length ∧ i = .int .i64 j ∧ Hid (Step F3 w4 wr) ∧ Hid (OutW w0 p wr ([1, UInt8.ofNat xs.length] ++ (xs.take j).flatMap itB) F') ∧ Hid (∀ k, F' k → F3 k ∨ w4.heap.size ≤ k)) (fun i _ => xs.length - (intOf i).toNat)
  case atStart => exact ⟨0, F3, Nat.zero_le _, rfl, Step.refl _ _, O4.out.eq (by simp), fun k hk => .inl hk⟩
  case round =>
    obtain ⟨j, F', hj, rfl, ST, OUT, HN⟩ := hrel
    by_cases hjl : j < xs.length
    · have hjz : (j : Int) < (xs.length : Int) := by omega
      obtain ⟨g, off, rfl, c0, c1⟩ := HI.out.at ST.out j hjl
      have HE := hid (flatIt_take xs j hjl)
      have HB : Hid (([1, UInt8.ofNat xs.length] ++ (xs.take j).flatMap itB).length ≤ 100000) := by
        show _ ≤ _
        have a1 := flatIt_len (xs.take j) (fun x hx => HF.out x (List.mem_of_mem_take hx))
        have a2 : (xs.take j).length ≤ xs.length := List.length_take_le' ..
        rw [List.length_append]
        simp only [List.length_cons, List.length_nil]
        omega
      have HQ : Hid (itFit xs[j]) := HF.out xs[j] (List.getElem_mem hjl)
      obtain ⟨⟨x, y⟩, hm⟩ : ∃ m, xs[j] = m := ⟨_, rfl⟩
      rw [hm] at c0 c1 HE HQ
      clear hm
      have O6 := hid (OUT.out.step ((Step.refl noF wr).alloc (.cells #[.string (str x), .string (str y)] 71)))
      have hq1 : Hid (x.length ≤ 255 ∧ y.length ≤ 255) := by
        have e1 : x.length ≤ 8 := HQ.out.1
        have e2 : y.length ≤ 16 := HQ.out.2
        exact ⟨by omega, by omega⟩
      go_wp2_with fail
      refine (wText2 O6.out HB.out x y hq1.out.1 hq1.out.2 _ (by rw [World.size_alloc])).mono ?_
      rintro e w5 ⟨rfl, F5, O5, S5, N5⟩
      go_wp2_with fail
      go_roundw
      case rel =>
        refine ⟨j + 1, F5, by omega, int_eq (by omega), (ST.out.alloc _).then S5.out HN.out, O5.out.eq ?_, fun k hk => ?_⟩
        · rw [HE.out, List.append_assoc]
        · rcases N5.out k hk with x | x
          · exact HN.out k x
          · have hsz := ST.out.size
            rw [World.size_alloc] at x
            exact .inr (by omega)
      case measure => simp [intOf]; omega
    · obtain rfl : j = xs.length := by omega
      go_wp2_with fail
      go_end0
      refine ⟨rfl, F', OUT.out.eq ?_⟩
      rw [List.take_of_length_le (Nat.le_refl _)]
      rfl

theorem kidsN_own (p : Nat) (d : Nd) (hl : d.kids.length ≤ 1000000) (w : World) (h : InnerAt w p d) : Calls Tryz.prog 44 #[.pointer (some ⟨p, 0, none⟩)] w fun e w' => ∃ v, e = .returned v ∧ Hid (OwnI w' w.heap.size v d.kids) ∧ Hid (Step noF w w') := by
  obtain ⟨ka, pa, kc, pc, q, h1, h2, h3, hk, _, _⟩ := h.cell
  have hc := cloneI_any d.kids hl ka kc w hk.2.2 hk.2.1.1
  clear h h2 h3 hk
  go_enter Tryz.func44, Tryz.ntmps44
  go_wp2_with fail
  refine hc.mono ?_
  rintro e w' ⟨v, rfl, ho, hs⟩
  have HO := hid ho
  have HS := hid hs
  clear ho hs
  go_wp2_with fail
  go_ret
  exact ⟨v, rfl, HO, HS⟩
theorem pivotsN_own (p : Nat) (d : Nd) (hl : d.pivs.length ≤ 1000000) (w : World) (h : InnerAt w p d) : Calls Tryz.prog 61 #[.pointer (some ⟨p, 0, none⟩)] w fun e w' => ∃ v, e = .returned v ∧ Hid (OwnT w' w.heap.size v d.pivs) ∧ Hid (Step noF w w') := by
  obtain ⟨ka, pa, kc, pc, q, h1, h2, h3, _, hk, _⟩ := h.cell
  have hc := cloneT_any d.pivs hl pa pc w hk.2.2 hk.2.1.1
  clear h h1 h3 hk
  go_enter Tryz.func61, Tryz.ntmps61
  go_wp2_with fail
  refine hc.mono ?_
  rintro e w' ⟨v, rfl, ho, hs⟩
  have HO := hid ho
  have HS := hid hs
  clear ho hs
  go_wp2_with fail
  go_ret
  exact ⟨v, rfl, HO, HS⟩

set_option maxHeartbeats 2000000 in
theorem writeInner_any (q : Nat) (d : Nd) (hd : NdSmall d) (w0 : World) (h : InnerAt w0 q d) (p : Nat) (w : World) (F : Nat → Prop) (ho : OutW w0 p w [] F) :
    Calls Tryz.prog 46 #[.pointer (some ⟨p, 0, none⟩), .pointer (some ⟨q, 0, none⟩)] w fun e w' => e = .returned (.tuple #[]) ∧ ∃ F', Hid (OutW w0 p w' (innB d) F') := by
  have HO := hid ho
  have HL := fun (u : World) (hu : Hid (Step noF w0 u)) => hid (h.step hu.out)
  have HD := hid hd
  have LK : Hid ((d.kids.flatMap kidB).length ≤ 512) := by
    have := flatB_le kidB 2 d.kids (fun x _ => by simp [kidB, be_length])
    have := hd.kl
    show _ ≤ _
    omega
  have LP : Hid ((d.pivs.flatMap ntx).length ≤ 2304) := by
    have := flatB_le ntx 9 d.pivs (fun x hx => by have := hd.ps x hx; simp [ntx]; omega)
    have := hd.pl
    have := hd.kl
    show _ ≤ _
    omega
  have hkl := hd.kl
  have hml := hd.ml
  have hpl : d.pivs.length < 256 := by have := hd.pl; omega
  clear ho h hd
  go_enter Tryz.func46, Tryz.ntmps46
  go_wp2_with fail
  refine (wNum1 HO.out (by simp) 2 (by omega) _ rfl _ rfl).mono ?_
  rintro e w2 ⟨rfl, F2, O2⟩
  go_wp2_with fail
  refine (lenN_any q d _ (HL _ O2.out.st).out).mono ?_
  rintro e w3 ⟨rfl, rfl⟩
  go_wp2_with fail
  refine (wNum1 O2.out (by simp) d.kids.length hkl _ rfl _ rfl).mono ?_
  rintro e w3 ⟨rfl, F3, O3⟩
  go_wp2_with fail
  refine (kidsN_own q d (by omega) _ (HL _ O3.out.st).out).mono ?_
  rintro e w4 ⟨v, rfl, own, s4⟩
  obtain ⟨a, c, rfl, h1, h2, h3⟩ := own.out.row
  have R4 : Hid (RowAt w4 F3 a (intsOf d.kids)) := rowAt_F h3 (fun b off x ha hF => by
    have e1 := own_base own.out rfl b off x ha
    have e2 := O3.out.out.lt b hF
    omega)
  have O4 : Hid (OutW w0 p w4 [2, UInt8.ofNat d.kids.length] F3) := (O3.out.step s4.out).eq rfl
  clear own s4 h1 h2 h3
  go_wp2_with fail
  refine (wKids O4.out (by simp) d.kids HD.out.kids (by omega) a c R4.out).mono ?_
  rintro e w5 ⟨rfl, F5, O5⟩
  go_wp2_with fail
  refine (pivotsN_own q d (by omega) _ (HL _ O5.out.st).out).mono ?_
  rintro e w6 ⟨v, rfl, own, s6⟩
  obtain ⟨a6, c6, rfl, h1, h2, h3⟩ := own.out.row
  have R6 : Hid (RowAt w6 F5 a6 (texts d.pivs)) := rowAt_F h3 (fun b off x ha hF => by
    have e1 := own_base own.out rfl b off x ha
    have e2 := O5.out.out.lt b hF
    omega)
  have O6 := hid (O5.out.step s6.out)
  clear own s6 h1 h2 h3
  go_wp2_with fail
  refine (wPivs O6.out (by have := LK.out; rw [List.length_append]; simp only [List.length_cons, List.length_nil]; omega) d.pivs HD.out.ps (by omega) a6 c6 R6.out).mono ?_
  rintro e w7 ⟨rfl, F7, O7⟩
  have hb7 : Hid (([2, UInt8.ofNat d.kids.length] ++ d.kids.flatMap kidB ++ d.pivs.flatMap ntx).length ≤ 90000) := by
    have e1 := LK.out
    have e2 := LP.out
    show _ ≤ _
    rw [List.length_append, List.length_append]
    simp only [List.length_cons, List.length_nil]
    omega
  go_wp2_with fail
  refine (buffN_any q d _ (HL _ O7.out.st).out).mono ?_
  rintro e w8 ⟨b, rfl, B8, rfl⟩
  go_wp2_with fail
  refine (lenB_any b d.ms _ B8.out).mono ?_
  rintro e w8 ⟨rfl, rfl⟩
  go_wp2_with fail
  refine (wNum1 O7.out (by have := hb7.out; omega) d.ms.length hml _ rfl _ rfl).mono ?_
  rintro e w9 ⟨rfl, F9, O9⟩
  go_wp2_with fail
  refine (buffN_any q d _ (HL _ O9.out.st).out).mono ?_
  rintro e w10 ⟨b2, rfl, B10, rfl⟩
  go_wp2_with fail
  refine (listB_any b2 d.ms (by omega) _ B10.out).mono ?_
  rintro e w10 ⟨v, rfl, own, s10⟩
  obtain ⟨a10, c10, rfl, h1, h2, h3⟩ := owns_msgs own
  have R10 : Hid (MsgsAt w10 F9 a10 d.ms) := msgsAt_F h3 (fun b off x ha hF => by
    have e1 := own_base own rfl b off x ha
    have e2 := O9.out.out.lt b hF
    omega)
  have O10 := hid (O9.out.step s10)
  clear own s10 h1 h2 h3
  go_wp2_with fail
  refine (write_good d.ms HD.out.ms (by omega) a10 c10 p F9 _ _ O10.out.out (by have := hb7.out; rw [List.length_append]; simp only [List.length_cons, List.length_nil]; omega) R10.out).mono ?_
  rintro e w11 ⟨rfl, k⟩
  obtain ⟨F', K1, K2, K3⟩ := O10.out.go k
  clear k
  go_wp2_with fail
  go_end0
  refine ⟨rfl, F', K1.out.eq ?_⟩
  unfold innB bytesAll
  simp only [List.append_assoc, List.cons_append, List.nil_append]
  rfl

/-- What Bytes answers. -/
def Nv.wr (v : Nv) : List UInt8 := if v.fits then v.bytes else []
def Nv.wrE (v : Nv) : Int := if v.fits then 0 else 8
set_option maxHeartbeats 2000000 in
theorem ndBytes_any (p : Nat) (v : Nv) (hs : v.small) (hg : v.good) (w : World) (h : NodeAt w p v) :
    Calls Tryz.prog 15 #[.pointer (some ⟨p, 0, none⟩)] w fun e w' => e = .returned (.tuple #[.string (str v.wr), .int .i64 v.wrE]) ∧ Step noF w w' := by
  have cF := ndFits_any p v hs w h
  have h0 := nil_str
  cases hf : v.fits with
  | false =>
    have HW : Hid (v.wr = [] ∧ v.wrE = 8) := by unfold Nv.wr Nv.wrE; rw [hf]; exact ⟨rfl, rfl⟩
    rw [HW.out.1, HW.out.2]
    rw [hf] at cF
    clear HW hf h hg hs
    go_enter Tryz.func15, Tryz.ntmps15
    go_wp2_with fail
    refine cF.mono ?_
    rintro e w2 ⟨rfl, s2⟩
    go_wp2_with fail
    go_ret2
    exact ⟨rfl, s2⟩
  | true =>
    have HW : Hid (v.wr = v.bytes ∧ v.wrE = 0) := by unfold Nv.wr Nv.wrE; rw [hf]; exact ⟨rfl, rfl⟩
    rw [HW.out.1, HW.out.2]
    rw [hf] at cF
    clear HW
    cases v using Nv.two with
    | leaf xs =>
      obtain ⟨q, c0, c1, h2⟩ := h.cellL
      obtain ⟨f1, f2⟩ := fits_its xs hg hf
      have H2 := hid h2
      have HX := hid f1
      clear h hg hs hf h2 f1
      have hb : Hid ((Nv.leaf xs).bytes = leafB xs) := rfl
      rw [hb.out]
      obtain ⟨B, hB⟩ : ∃ B, leafB xs = B := ⟨_, rfl⟩
      have cWr := fun (w0 : World) (hu : Hid (Step noF w w0)) (p : Nat) (u : World) (F : Nat → Prop) (ho : Hid (OutW w0 p u [] F)) => writeLeaf_any q xs f2 HX.out w0 (H2.out.step hu.out) p u F ho.out
      rw [hB] at cWr ⊢
      clear hb hB
      go_enter Tryz.func15, Tryz.ntmps15
      go_wp2_with fail
      refine cF.mono ?_
      rintro e w2 ⟨rfl, s2⟩
      have S2 := hid s2
      have d0 := s2.after c0
      have d1 := s2.after c1
      have d2 := ((Step.refl noF w2).alloc (.cells #[.slice none 0 0] 87)).after d0
      have d3 := ((Step.refl noF w2).alloc (.cells #[.slice none 0 0] 87)).after d1
      have cI := ndIsLeaf_some p q _ d2
      have O2 : Hid (OutW w2 w2.heap.size (w2.alloc (.cells #[.slice none 0 0] 87)) [] (oneF w2.heap.size)) := ⟨(Step.refl _ _).alloc _, newOut w2, fun k hk => by have : k = w2.heap.size := hk; omega⟩
      clear s2
      go_wp2_with fail
      refine cI.mono ?_
      rintro e w3 ⟨rfl, rfl⟩
      go_wp2_with fail
      refine (cWr w2 S2 _ _ _ O2).mono ?_
      rintro e w4 ⟨rfl, F', O4⟩
      go_wp2_with fail
      refine (bytes_any _ F' B w4 O4.out.out).mono ?_
      rintro e w5 ⟨rfl, rfl⟩
      go_wp2_with fail
      go_ret2
      exact ⟨rfl, S2.out.trans O4.out.st⟩
    | inn d =>
      obtain ⟨q, c0, c1, h2⟩ := h.cellI
      have HX := hid (fits_small d hg hf)
      have H2 := hid h2
      clear h hg hs hf h2
      have hb : Hid ((Nv.inn d).bytes = innB d) := rfl
      rw [hb.out]
      obtain ⟨B, hB⟩ : ∃ B, innB d = B := ⟨_, rfl⟩
      have cWr := fun (w0 : World) (hu : Hid (Step noF w w0)) (p : Nat) (u : World) (F : Nat → Prop) (ho : Hid (OutW w0 p u [] F)) => writeInner_any q d HX.out w0 (H2.out.step hu.out) p u F ho.out
      rw [hB] at cWr ⊢
      clear hb hB
      go_enter Tryz.func15, Tryz.ntmps15
      go_wp2_with fail
      refine cF.mono ?_
      rintro e w2 ⟨rfl, s2⟩
      have S2 := hid s2
      have d0 := s2.after c0
      have d1 := s2.after c1
      have d2 := ((Step.refl noF w2).alloc (.cells #[.slice none 0 0] 87)).after d0
      have d3 := ((Step.refl noF w2).alloc (.cells #[.slice none 0 0] 87)).after d1
      have cI := ndIsLeaf_none p _ d2
      have O2 : Hid (OutW w2 w2.heap.size (w2.alloc (.cells #[.slice none 0 0] 87)) [] (oneF w2.heap.size)) := ⟨(Step.refl _ _).alloc _, newOut w2, fun k hk => by have : k = w2.heap.size := hk; omega⟩
      clear s2
      go_wp2_with fail
      refine cI.mono ?_
      rintro e w3 ⟨rfl, rfl⟩
      go_wp2_with fail
      refine (cWr w2 S2 _ _ _ O2).mono ?_
      rintro e w4 ⟨rfl, F', O4⟩
      go_wp2_with fail
      refine (bytes_any _ F' B w4 O4.out.out).mono ?_
      rintro e w5 ⟨rfl, rfl⟩
      go_wp2_with fail
      go_ret2
      exact ⟨rfl, S2.out.trans O4.out.st⟩
theorem ndBytes_nil (w : World) : Calls Tryz.prog 15 #[.pointer none] w fun e w' => e = .returned (.tuple #[.string (str []), .int .i64 2]) ∧ w = w' := by
  have h0 := nil_str
  go_enter Tryz.func15, Tryz.ntmps15
  go_wp2_with fail
  go_ret2
  exact ⟨rfl, rfl⟩
end Go.Proofs.YtoobelcphcndoaaGreat
namespace Go.Proofs.YtoobelcphcndoaaGreat
open Go.RowKit Go.Sort
set_option linter.unusedVariables false
set_option linter.unusedSimpArgs false
set_option maxRecDepth 20000

/-- The functions that read a leaf's items, an inner node's. -/
def rdLf : Value := .func (.func 99) #[] #[]
def rdIn : Value := .func (.func 100) #[] #[]
def rdEs : Array MapEntry := #[{ key := .int .i64 1, val := rdLf, born := 0 }, { key := .int .i64 2, val := rdIn, born := 1 }]
theorem infoRd0 : (Tryz.prog.info? 99).map (fun i => (i.zero, i.size, i.bytes)) = some (some .nilFunc, 1, 8) := by kernel_rfl
theorem zeroRd (w : World) : (zeroValue 99).run Tryz.prog w = .ok .nilFunc w := by
  obtain ⟨i, hi, hz, _, _⟩ := info_threeL infoRd0
  simp [zeroValue, typeInfo, hi, hz]
theorem rd_put1 (w : World) : (Instr.mapUpdate 101 (.map (some w.heap.size)) (.int .i64 1) rdLf).run Tryz.prog (w.alloc (.map #[] 0)) = .ok () { w.alloc (.map #[] 0) with heap := (w.alloc (.map #[] 0)).heap.setIfInBounds w.heap.size (.map #[{ key := .int .i64 1, val := rdLf, born := 0 }] 1) } := by
  have hm : Tryz.prog.underlying 101 = some (.map 3 99) := Tryz.underlying101
  have hk : Tryz.prog.underlying 3 = some (.int .i64) := Tryz.underlying3
  have hb := block_alloc_new w (.map #[] 0)
  have hf : Instr.findNow (.int .i64) (.int .i64 1) ([] : List MapEntry) 0 = some none := rfl
  have hc : (Instr.checkKey false 10000 3 (.int .i64 1)).run Tryz.prog (w.alloc (.map #[] 0)) = .ok () _ := MapKept.run_checkKey (k := .int .i64 1) hk (by simp [MapKept.IsKey]) false 9999
  simp [Instr.mapUpdate, run_underlying hm, MapKept.run_getObj_map hb, hc, MapKept.run_findKey hk hf, MapKept.run_setObj_map _ hb, Result.andThen]
theorem rd_put2 (w : World) (r : Nat) (hb : w.heap[r]? = some (.map #[{ key := .int .i64 1, val := rdLf, born := 0 }] 1)) : (Instr.mapUpdate 101 (.map (some r)) (.int .i64 2) rdIn).run Tryz.prog w = .ok () { w with heap := w.heap.setIfInBounds r (.map rdEs 2) } := by
  have hm : Tryz.prog.underlying 101 = some (.map 3 99) := Tryz.underlying101
  have hk : Tryz.prog.underlying 3 = some (.int .i64) := Tryz.underlying3
  have hf : Instr.findNow (.int .i64) (.int .i64 2) [({ key := .int .i64 1, val := rdLf, born := 0 } : MapEntry)] 0 = some none := rfl
  have hc : (Instr.checkKey false 10000 3 (.int .i64 2)).run Tryz.prog w = .ok () _ := MapKept.run_checkKey (k := .int .i64 2) hk (by simp [MapKept.IsKey]) false 9999
  simp [Instr.mapUpdate, run_underlying hm, MapKept.run_getObj_map hb, hc, MapKept.run_findKey hk hf, MapKept.run_setObj_map _ hb, Result.andThen, rdEs]
/-- What stands at a kind. -/
def rdAt (k : Int) : Value := if k = 1 then rdLf else if k = 2 then rdIn else .nilFunc
theorem rd_look (w : World) (r : Nat) (hb : w.heap[r]? = some (.map rdEs 2)) (k : Int) : (Instr.lookup 101 (.map (some r)) (.int .i64 k) true).run Tryz.prog w = .ok (.tuple #[rdAt k, .bool (decide (k = 1 ∨ k = 2))]) w := by
  have hm : Tryz.prog.underlying 101 = some (.map 3 99) := Tryz.underlying101
  have hk : Tryz.prog.underlying 3 = some (.int .i64) := Tryz.underlying3
  have hc : (Instr.checkKey false 10000 3 (.int .i64 k)).run Tryz.prog w = .ok () _ := MapKept.run_checkKey (k := .int .i64 k) hk (by simp [MapKept.IsKey]) false 9999
  have hz := zeroRd w
  by_cases k1 : k = 1
  · subst k1
    have hf : Instr.findNow (.int .i64) (.int .i64 1) rdEs.toList 0 = some (some (0, rdLf)) := rfl
    have he : rdEs.isEmpty = false := rfl
    simp [Instr.lookup, run_underlying hm, MapKept.run_getObj_map hb, he, hc, MapKept.run_findKey hk hf, Result.andThen, rdAt]
  · by_cases k2 : k = 2
    · subst k2
      have hf : Instr.findNow (.int .i64) (.int .i64 2) rdEs.toList 0 = some (some (1, rdIn)) := rfl
      have he : rdEs.isEmpty = false := rfl
      simp [Instr.lookup, run_underlying hm, MapKept.run_getObj_map hb, he, hc, MapKept.run_findKey hk hf, Result.andThen, rdAt]
    · have hf : Instr.findNow (.int .i64) (.int .i64 k) rdEs.toList 0 = some none := by
        have e1 : (k == 1) = false := by simpa using k1
        have e2 : (k == 2) = false := by simpa using k2
        simp [rdEs, Instr.findNow, Instr.sameNow, e1, e2]
      have he : rdEs.isEmpty = false := rfl
      simp [Instr.lookup, run_underlying hm, MapKept.run_getObj_map hb, he, hc, MapKept.run_findKey hk hf, hz, Result.andThen, rdAt, k1, k2]
theorem step_block {w w2 : World} (r : Nat) (o : Obj) (hs : Step noF w w2) (hr : w.heap.size ≤ r) : Step noF w { w2 with heap := w2.heap.setIfInBounds r o } := by
  refine ⟨hs.os, hs.tape, hs.output, by simpa using hs.size, fun k hk h => ?_⟩
  have : r ≠ k := by omega
  show (w2.heap.setIfInBounds r o)[k]? = _
  rw [Array.getElem?_setIfInBounds_ne this]
  exact hs.block k hk h
theorem readers_any (w : World) : Calls Tryz.prog 54 #[] w fun e w' => e = .returned (.map (some w.heap.size)) ∧ Step noF w w' ∧ w'.heap[w.heap.size]? = some (.map rdEs 2) := by
  have hmm := @run_makeMap Tryz.prog
  have p1 := rd_put1 w
  obtain ⟨W1, hW1⟩ : ∃ W1, { w.alloc (.map #[] 0) with heap := (w.alloc (.map #[] 0)).heap.setIfInBounds w.heap.size (.map #[{ key := .int .i64 1, val := rdLf, born := 0 }] 1) } = W1 := ⟨_, rfl⟩
  have b1 : W1.heap[w.heap.size]? = some (.map #[{ key := .int .i64 1, val := rdLf, born := 0 }] 1) := by
    rw [← hW1]
    show ((w.alloc (.map #[] 0)).heap.setIfInBounds w.heap.size _)[w.heap.size]? = _
    rw [Array.getElem?_setIfInBounds_self_of_lt]
    rw [World.size_alloc]
    omega
  have S1 : Hid (Step noF w W1) := by
    show Step _ _ _
    rw [← hW1]
    exact step_block _ _ ((Step.refl noF w).alloc _) (Nat.le_refl _)
  rw [hW1] at p1
  clear hW1
  have p2 := rd_put2 W1 w.heap.size b1
  obtain ⟨W2, hW2⟩ : ∃ W2, { W1 with heap := W1.heap.setIfInBounds w.heap.size (.map rdEs 2) } = W2 := ⟨_, rfl⟩
  have b2 : Hid (W2.heap[w.heap.size]? = some (.map rdEs 2)) := by
    show _ = _
    rw [← hW2]
    show (W1.heap.setIfInBounds w.heap.size _)[w.heap.size]? = _
    rw [Array.getElem?_setIfInBounds_self_of_lt]
    exact lt_of_block b1
  have S2 : Hid (Step noF w W2) := by
    show Step _ _ _
    rw [← hW2]
    exact step_block _ _ S1.out (Nat.le_refl _)
  rw [hW2] at p2
  clear hW2 b1
  unfold rdLf at p1
  unfold rdIn at p2
  go_enter Tryz.func54, Tryz.ntmps54
  go_wp2_with fail
  go_ret
  exact ⟨rfl, S2.out, b2.out⟩
end Go.Proofs.YtoobelcphcndoaaGreat
