/-
  A message's bytes; what Write of package msg does.
-/
import Derived.Test.YtoobelcphcndoaaGreatMsgA
import Derived.Test.YtoobelcphcndoaaGreatKeyJ
namespace Go.Proofs.YtoobelcphcndoaaGreat
open Go.RowKit
set_option linter.unusedVariables false
set_option linter.unusedSimpArgs false

/-- A text's bytes. -/
def txtL (l : List UInt8) : List UInt8 := UInt8.ofNat l.length :: l
/-- A message's bytes. -/
def Mg.bytes (m : Mg) : List UInt8 := be 1 m.kind.toNat ++ (txtL m.key ++ txtL m.val)
theorem Mg.bytes_length (m : Mg) : m.bytes.length = 3 + m.key.length + m.val.length := by
  simp [Mg.bytes, txtL, be_length]
  omega
def bytesAll (ms : List Mg) : List UInt8 := ms.flatMap Mg.bytes
theorem bytesAll_length (ms : List Mg) (h : ∀ m ∈ ms, m.is = true) : (bytesAll ms).length ≤ ms.length * 27 := by
  induction ms with
  | nil => simp [bytesAll]
  | cons x xs ih =>
    have h1 := ih (fun m hm => h m (by simp [hm]))
    have h2 := Mg.bytes_length x
    have h3 := Mg.key_le (h x (by simp))
    have h4 := Mg.val_le (h x (by simp))
    simp only [bytesAll, List.flatMap_cons, List.length_append, List.length_cons] at h1 ⊢
    omega
theorem bytesAll_take (ms : List Mg) (j : Nat) (hj : j < ms.length) : bytesAll (ms.take (j + 1)) = bytesAll (ms.take j) ++ ms[j].bytes := by
  rw [bytesAll, List.take_succ_eq_append_getElem hj, List.flatMap_append, bytesAll]
  congr 1
  simp
theorem kind_in {m : Mg} (h : m.is = true) : 1 ≤ m.kind ∧ m.kind ≤ 3 := by
  rcases Mg.cases h with ⟨h, _⟩ | ⟨h, _⟩ | ⟨h, _⟩ <;> omega
theorem kind_bytes {m : Mg} (h : m.is = true) (bs : List UInt8) : bs ++ numB 1 [m.kind] = bs ++ be 1 m.kind.toNat ∧ numV 1 [m.kind] = true := by
  have hk := kind_in h
  have hv : numV 1 [m.kind] = true := by
    simp [numV, isW, fitB]
    omega
  refine ⟨?_, hv⟩
  rw [numB, if_pos hv]
  simp
theorem txt_str (l : List UInt8) : txt (str l) = txtL l := by simp [txt, txtL, str_size, str_list]
theorem text_bytes {m : Mg} (h : m.is = true) (bs : List UInt8) : (bs ++ be 1 m.kind.toNat) ++ textB [str m.key, str m.val] = bs ++ m.bytes ∧ textV [str m.key, str m.val] = true := by
  have h1 := Mg.key_le h
  have h2 := Mg.val_le h
  have hv : textV [str m.key, str m.val] = true := by
    simp [textV, str_size]
    omega
  refine ⟨?_, hv⟩
  rw [textB, if_pos hv]
  simp [txt_str, Mg.bytes]
theorem TripAt.keep {w w' : World} {g : Nat} {t : TypeId} {m : Mg} {F : Nat → Prop} (h : TripAt w g t m) (hs : Step F w w') (hF : ¬ F g) : TripAt w' g t m := (hs.block g (lt_of_block h) hF).trans h

set_option maxHeartbeats 1000000 in
theorem message_any (m : Mg) (hm : m.is = true) (p : Nat) (F : Nat → Prop) (bs : List UInt8) (w : World) (ho : IsOut w p F bs) (hb : bs.length ≤ 500000) :
    Calls Tryz.prog 136 #[.agg #[.pointer (some ⟨p, 0, none⟩)], m.value] w fun e w' => e = .returned (.tuple #[]) ∧ OutPost w p F (bs ++ m.bytes) w' := by
  obtain ⟨k, x, y⟩ := m
  obtain ⟨n1, n2⟩ := kind_bytes hm bs
  obtain ⟨t1, t2⟩ := text_bytes hm bs
  have hk := kind_in hm
  have hx := Mg.key_le hm
  have hy := Mg.val_le hm
  have e0 : (Mg.mk k x y).value = .agg #[.int .i64 k, .string (str x), .string (str y)] := rfl
  rw [e0]
  obtain ⟨B, hB⟩ : ∃ B, bs ++ (Mg.mk k x y).bytes = B := ⟨_, rfl⟩
  obtain ⟨B1, hB1⟩ : ∃ B1, bs ++ be 1 (Mg.mk k x y).kind.toNat = B1 := ⟨_, rfl⟩
  rw [hB] at t1 ⊢
  rw [hB1] at n1 t1
  have hB1l : B1.length = bs.length + 1 := by rw [← hB1]; simp [be_length]
  have HN := hid (And.intro n1 n2)
  have HT := hid (And.intro t1 t2)
  have HO := hid ho
  have HK := hid (And.intro hk (And.intro hx (And.intro hy (And.intro hb hB1l))))
  clear n1 n2 t1 t2 ho hk hx hy hb hB1l hB hB1 hm e0
  obtain ⟨W, hW⟩ : ∃ W, ((w.alloc (.cells #[.pointer (some ⟨p, 0, none⟩)] 188)).alloc (.cells #[.int .i64 k, .string (str x), .string (str y)] 73)).alloc (.cells #[.int .i64 k] 3) = W := ⟨_, rfl⟩
  have SW : Hid (Step noF w W) := by show Step _ _ _; rw [← hW]; exact (((Step.refl noF w).alloc _).alloc _).alloc _
  have TP : Hid (W.heap[w.heap.size]? = some (.cells #[.pointer (some ⟨p, 0, none⟩)] 188 (0, 0))) := by
    show _ = _
    rw [← hW]
    exact block_alloc_old (block_alloc_old (block_alloc_new w _) _) _
  have TM : Hid (TripAt W (w.heap.size + 1) 73 ⟨k, x, y⟩) := by
    show TripAt _ _ _ _
    rw [← hW]
    have h := (trip_new (w.alloc (.cells #[.pointer (some ⟨p, 0, none⟩)] 188)) 73 ⟨k, x, y⟩).alloc (.cells #[.int .i64 k] 3)
    rw [World.size_alloc] at h
    exact h
  have R1 : Hid (RowAt W F (some ⟨w.heap.size + 1 + 1, 0, none⟩) (intsOf [k])) := by
    show RowAt _ _ _ _
    rw [← hW]
    refine rowAt_new _ _ (fun q hq => ?_) _ _ _ (by rw [World.size_alloc, World.size_alloc]) _ rfl
    have := HO.out.lt q hq
    rw [World.size_alloc, World.size_alloc]
    omega
  have HW := hid hW
  clear hW
  go_enter Tryz.func136, Tryz.ntmps136
  go_wp2_with fail
  rw [HW.out]
  refine (num_call 1 [k] 1 rfl (by have := HK.out.1; intro z hz; simp at hz; subst hz; omega) (by simp) _ 1 p F bs W (HO.out.step SW.out) (by have := HK.out.2.2.2.1; omega) R1.out B1 HN.out.1 0 (by rw [show numV 1 [k] = true from HN.out.2]; rfl)).mono ?_
  rintro e w2 ⟨rfl, F', s2, o2, f2⟩
  have hsz : Hid (w.heap.size + 1 < W.heap.size) := lt_of_block TM.out
  have TP2 : Hid (w2.heap[w.heap.size]? = some (.cells #[.pointer (some ⟨p, 0, none⟩)] 188 (0, 0))) := (s2.block _ (by have := hsz.out; omega) (fun h => by have := HO.out.lt _ h; omega)).trans TP.out
  have TM2 : Hid (TripAt w2 (w.heap.size + 1) 73 ⟨k, x, y⟩) := TM.out.keep s2 (fun h => by have := HO.out.lt _ h; omega)
  have q0 : w2.cell? ⟨w.heap.size, 0, none⟩ = some (.pointer (some ⟨p, 0, none⟩)) := by simpa using cell_of_block TP2.out 0
  obtain ⟨c0, c1, c2, _, _, _⟩ := TM2.out.all
  have S2 := hid (SW.out.then (F := noF) (G := F) (c := w2))
  have O2 := hid o2
  have F2 := hid f2
  have SS := hid s2
  clear o2 f2 s2 S2
  go_wp2_with fail
  have R2 : RowAt (w2.alloc (.cells #[.string (str x), .string (str y)] 9)) F' (some ⟨w2.heap.size, 0, none⟩) (strsOf [str x, str y]) := rowAt_new _ _ (fun q hq => O2.out.lt q hq) _ _ _ rfl _ rfl
  refine (text_call [str x, str y] 2 rfl (by simp) (by have := HK.out.2; intro z hz; simp at hz; rcases hz with rfl | rfl <;> (rw [str_size]; unfold maxLen; omega)) _ 2 p F' B1 _ (O2.out.step ((Step.refl noF w2).alloc _)) (by have := HK.out.2.2.2; omega) R2 B HT.out.1 0 (by rw [show textV [str x, str y] = true from HT.out.2]; rfl)).mono ?_
  rintro e w3 ⟨rfl, F'', s3, o3, f3⟩
  have O3 := hid o3
  have F3 := hid f3
  have S3 := hid s3
  clear o3 f3 s3 R2
  go_wp2_with fail
  go_end0
  have g1 : Step F w W := SW.out.mono (fun i h => h.elim)
  have g2 : Step F w w2 := g1.trans SS.out
  have g3 : Step F w (w2.alloc (.cells #[.string (str x), .string (str y)] 9)) := g2.alloc _
  have hle : w.heap.size ≤ W.heap.size := SW.out.size
  have hle2 := SS.out.size
  refine ⟨rfl, F'', g3.then S3.out (fun i hi => ?_), O3.out, fun i hi => ?_⟩
  · rcases F2.out i hi with h | h
    · exact .inl h
    · exact .inr (by omega)
  · rcases F3.out i hi with h | h
    · rcases F2.out i h with h | h
      · exact .inl h
      · exact .inr (by omega)
    · rw [World.size_alloc] at h
      exact .inr (by omega)

set_option maxHeartbeats 1000000 in
theorem eachW_any (ms : List Mg) (hms : ∀ m ∈ ms, m.is = true) (hl : ms.length ≤ 1000) (a : Option Addr) (cap : Nat) (p : Nat) (F : Nat → Prop) (bs : List UInt8) (w : World) (ho : IsOut w p F bs) (hb : bs.length ≤ 400000) (hr : MsgsAt w F a ms) :
    Calls Tryz.prog 135 #[.slice a ms.length cap, .func (.func 136) #[.agg #[.pointer (some ⟨p, 0, none⟩)]] #[]] w fun e w' => e = .returned (.tuple #[]) ∧ OutPost w p F (bs ++ bytesAll ms) w' := by
  have HR := hid hr
  have HO := hid ho
  have HM := hid hms
  have HB := hid hb
  clear hr ho hms hb
  go_enter Tryz.func135, Tryz.ntmps135
  go_wp2_with fail
  go_loopw [8] (fun i wr => ∃ (j : Nat) (F' : Nat → Prop), j ≤ ms.length ∧ i = .int .i64 j ∧ Step F w wr ∧ IsOut wr p F' (bs ++ bytesAll (ms.take j)) ∧ (∀ q, F' q → F q ∨ w.heap.size ≤ q)) (fun i _ => ms.length - (intOf i).toNat)
  case atStart => exact ⟨0, F, Nat.zero_le _, rfl, Step.refl _ _, by simpa [bytesAll] using HO.out, fun q hq => .inl hq⟩
  case round =>
    obtain ⟨j, F', hj, rfl, st, out, hF'⟩ := hrel
    have ST := hid st
    have OUT := hid out
    have HF := hid hF'
    clear st out hF'
    by_cases hjl : j < ms.length
    · have hR2 : MsgsAt wr F a ms := HR.out.step ST.out (fun _ h => h)
      obtain ⟨g, off, rfl, c0, c1, c2⟩ := hR2.at j hjl
      have HI := hid (HM.out ms[j] (List.getElem_mem hjl))
      have HE := hid (bytesAll_take ms j hjl)
      have HLEN : Hid ((bs ++ bytesAll (ms.take j)).length ≤ 500000) := by
        show _ ≤ _
        have h1 := bytesAll_length (ms.take j) (fun m hm => HM.out m (List.mem_of_mem_take hm))
        have h2 := HB.out
        rw [List.length_append]
        have h3 : (ms.take j).length ≤ 1000 := by rw [List.length_take]; omega
        omega
      obtain ⟨⟨k, x, y⟩, hm⟩ : ∃ m, ms[j] = m := ⟨_, rfl⟩
      rw [hm] at c0 c1 c2 HI HE
      clear hm hR2
      have HO2 := hid (OUT.out.step ((Step.refl noF wr).alloc (.cells #[.int .i64 k, .string (str x), .string (str y)] 73)))
      go_wp2_with fail
      refine (message_any ⟨k, x, y⟩ HI.out p F' _ _ HO2.out HLEN.out).mono ?_
      rintro e w2 ⟨rfl, F2, s2, o2, f2⟩
      have S2 := hid s2
      have O2 := hid o2
      have FF := hid f2
      clear s2 o2 f2
      go_wp2_with fail
      go_roundw
      case rel =>
        have hs := ST.out.size
        refine ⟨j + 1, F2, by omega, int_eq (by omega), (ST.out.alloc _).then S2.out HF.out, ?_, fun q hq => ?_⟩
        · rw [HE.out, ← List.append_assoc]
          exact O2.out
        · rcases FF.out q hq with h | h
          · exact HF.out q h
          · rw [World.size_alloc] at h
            exact .inr (by omega)
      case measure => simp [intOf]; omega
    · obtain rfl : j = ms.length := by omega
      go_wp2_with fail
      go_end0
      refine ⟨rfl, F', ST.out, ?_, HF.out⟩
      have := OUT.out
      rw [List.take_of_length_le (Nat.le_refl _)] at this
      exact this

theorem all_take (ms : List Mg) (j : Nat) (hj : j < ms.length) : (ms.take (j + 1)).all Mg.is = ((ms.take j).all Mg.is && ms[j].is) := by
  rw [List.take_succ_eq_append_getElem hj, List.all_append]
  simp
set_option maxHeartbeats 1000000 in
theorem indexNot_any (ms : List Mg) (hms : ∀ m ∈ ms, m.val.length ≤ maxLen) (hl : ms.length ≤ 1000000) (a : Option Addr) (cap : Nat) (w : World) (hr : MsgsAt w noF a ms) :
    Calls Tryz.prog 160 #[.slice a ms.length cap, .func (.func 134) #[] #[]] w fun e w' => (∃ r : Int, e = .returned (.int .i64 r) ∧ decide (0 ≤ r) = !(ms.all Mg.is)) ∧ Step noF w w' := by
  have HR := hid hr
  have HM := hid hms
  clear hr hms
  go_enter Tryz.func160, Tryz.ntmps160
  go_wp2_with fail
  go_loopw [8] (fun i wr => ∃ (j : Nat), j ≤ ms.length ∧ i = .int .i64 j ∧ (ms.take j).all Mg.is = true ∧ Step noF w wr) (fun i _ => ms.length - (intOf i).toNat)
  case atStart => exact ⟨0, Nat.zero_le _, rfl, rfl, Step.refl _ _⟩
  case round =>
    obtain ⟨j, hj, rfl, hall, st⟩ := hrel
    have ST := hid st
    have HA := hid hall
    clear st hall
    by_cases hjl : j < ms.length
    · have hR2 : MsgsAt wr noF a ms := HR.out.step ST.out (fun _ h => h)
      obtain ⟨g, off, rfl, c0, c1, c2⟩ := hR2.at j hjl
      have HI := hid (HM.out ms[j] (List.getElem_mem hjl))
      have HT := hid (all_take ms j hjl)
      have HN : Hid (ms[j].is = false → ms.all Mg.is = false) := fun h => by
        rw [List.all_eq_false]
        exact ⟨ms[j], List.getElem_mem hjl, by rw [h]; simp⟩
      obtain ⟨⟨k, x, y⟩, hm⟩ : ∃ m, ms[j] = m := ⟨_, rfl⟩
      rw [hm] at c0 c1 c2 HI HT HN
      clear hm hR2
      have cN := isNot_any ⟨k, x, y⟩ HI.out
      have e0 : (Mg.mk k x y).value = .agg #[.int .i64 k, .string (str x), .string (str y)] := rfl
      rw [e0] at cN
      clear e0
      cases hi : (Mg.mk k x y).is
      · rw [hi] at cN HN
        clear hi
        go_wp2_with fail
        refine (cN _).mono ?_
        rintro e w2 ⟨rfl, s2⟩
        have S2 := hid (ST.out.trans s2)
        clear s2
        go_wp2_with fail
        go_ret
        refine ⟨⟨_, rfl, ?_⟩, S2.out⟩
        have hn := HN.out
        first | rw [hn trivial] | rw [hn rfl] | rw [hn]
        simp
      · rw [hi] at cN HT
        clear hi
        go_wp2_with fail
        refine (cN _).mono ?_
        rintro e w2 ⟨rfl, s2⟩
        have S2 := hid (ST.out.trans s2)
        clear s2
        go_wp2_with fail
        go_roundw
        case rel => exact ⟨j + 1, by omega, int_eq (by omega), by rw [HT.out, HA.out]; rfl, S2.out⟩
        case measure => simp [intOf]; omega
    · obtain rfl : j = ms.length := by omega
      go_wp2_with fail
      go_ret
      refine ⟨⟨_, rfl, ?_⟩, ST.out⟩
      have := HA.out
      rw [List.take_of_length_le (Nat.le_refl _)] at this
      rw [this]
      rfl
theorem contains_any (ms : List Mg) (hms : ∀ m ∈ ms, m.val.length ≤ maxLen) (hl : ms.length ≤ 1000000) (a : Option Addr) (cap : Nat) (w : World) (hr : MsgsAt w noF a ms) :
    Calls Tryz.prog 118 #[.slice a ms.length cap, .func (.func 134) #[] #[]] w fun e w' => e = .returned (.bool !(ms.all Mg.is)) ∧ Step noF w w' := by
  have c := indexNot_any ms hms hl a cap w hr
  obtain ⟨A, hA⟩ : ∃ A, ms.all Mg.is = A := ⟨_, rfl⟩
  rw [hA] at c ⊢
  go_enter Tryz.func118, Tryz.ntmps118
  go_wp2_with fail
  refine c.mono ?_
  rintro e w2 ⟨⟨r, rfl, hr2⟩, s2⟩
  have HR2 := hid hr2
  clear hr2
  go_wp2_with fail
  go_ret
  exact ⟨ret_bool (by rw [← HR2.out]), s2⟩
/-- The bytes are written where all can be. -/
theorem write_good (ms : List Mg) (hms : ∀ m ∈ ms, m.is = true) (hl : ms.length ≤ 1000) (a : Option Addr) (cap : Nat) (p : Nat) (F : Nat → Prop) (bs : List UInt8) (w : World) (ho : IsOut w p F bs) (hb : bs.length ≤ 400000) (hr : MsgsAt w F a ms) :
    Calls Tryz.prog 97 #[.pointer (some ⟨p, 0, none⟩), .slice a ms.length cap] w fun e w' => e = .returned (.int .i64 0) ∧ OutPost w p F (bs ++ bytesAll ms) w' := by
  have cC := contains_any ms (fun m hm => Mg.val_max (hms m hm)) (by omega) a cap w (hr.foot (fun _ _ h => h.elim))
  have hA : ms.all Mg.is = true := List.all_eq_true.2 hms
  rw [hA] at cC
  have HR := hid hr
  have HO := hid ho
  have HM := hid hms
  have HB := hid hb
  have hmf : ∀ (fn : Fn) (first cap : Array Value) (w : World), (Instr.makeFunc fn first cap).run Tryz.prog w = .ok (.func fn first cap) w := fun _ _ _ _ => rfl
  clear hr ho hms hb hA
  go_enter Tryz.func97, Tryz.ntmps97
  go_wp2_with fail
  refine cC.mono ?_
  rintro e w2 ⟨rfl, s2⟩
  have S2 := hid s2
  clear s2
  go_wp2_with fail
  refine (eachW_any ms HM.out hl a cap p F bs _ (HO.out.step S2.out) HB.out (HR.out.step S2.out (fun _ h => h.elim))).mono ?_
  rintro e w3 ⟨rfl, F3, s3, o3, f3⟩
  have S3 := hid s3
  have O3 := hid o3
  have F3' := hid f3
  clear s3 o3 f3
  go_wp2_with fail
  go_ret
  have hs := S2.out.size
  refine ⟨rfl, F3, (S2.out.mono (fun i h => h.elim)).trans S3.out, O3.out, fun q hq => ?_⟩
  rcases F3'.out q hq with h | h
  · exact .inl h
  · exact .inr (by omega)
theorem write_bad (ms : List Mg) (hms : ∀ m ∈ ms, m.val.length ≤ maxLen) (hno : ms.all Mg.is = false) (hl : ms.length ≤ 1000000) (a : Option Addr) (cap : Nat) (p : Nat) (w : World) (hr : MsgsAt w noF a ms) :
    Calls Tryz.prog 97 #[.pointer (some ⟨p, 0, none⟩), .slice a ms.length cap] w fun e w' => e = .returned (.int .i64 1) ∧ Step noF w w' := by
  have cC := contains_any ms hms hl a cap w hr
  rw [hno] at cC
  clear hr hms hno
  go_enter Tryz.func97, Tryz.ntmps97
  go_wp2_with fail
  refine cC.mono ?_
  rintro e w2 ⟨rfl, s2⟩
  go_wp2_with fail
  go_ret
  exact ⟨rfl, s2⟩
theorem write_nil (a : Option Addr) (len cap : Nat) (w : World) : Calls Tryz.prog 97 #[.pointer none, .slice a len cap] w fun e w' => e = .returned (.int .i64 2) ∧ w = w' := by
  go_enter Tryz.func97, Tryz.ntmps97
  go_wp2_with fail
  go_ret
  exact ⟨rfl, rfl⟩
end Go.Proofs.YtoobelcphcndoaaGreat
