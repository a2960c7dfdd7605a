/-
  The law PenWrites: its walk.
-/
import Derived.Test.YtfenclojhhfhbaaPenH
namespace Go.Proofs.Ytfenclojhhfhbaa
open Go.RowKit
set_option linter.unusedVariables false

/-- A deed. -/
structure ActV where
  kind : Int
  wd : Int
  n : Int
  m : Int
  s : ByteArray
  t : ByteArray
def ActV.cells (x : ActV) : List Value := [.int .i64 x.kind, .int .i64 x.wd, .int .i64 x.n, .int .i64 x.m, .string x.s, .string x.t]
def in64 (n : Int) : Prop := -9223372036854775808 ≤ n ∧ n ≤ 9223372036854775807
structure ActV.ok (x : ActV) : Prop where
  kind : in64 x.kind
  wd : in64 x.wd
  n : in64 x.n
  m : in64 x.m
  s : x.s.size ≤ maxLen
  t : x.t.size ≤ maxLen

/-- The cells of a row of deeds. -/
def IsActs (w : World) (a : Option Addr) (xs : List ActV) : Prop :=
  (∀ x ∈ xs, x.ok) ∧ (xs = [] ∨ ∃ b off, a = some ⟨b, off, none⟩ ∧ b < w.heap.size ∧ ∀ i (h : i < xs.length) f (v : Value), xs[i].cells[f]? = some v → w.cell? ⟨b, off + i * 6 + f, none⟩ = some v)

theorem IsActs.at {w : World} {a : Option Addr} {xs : List ActV} (h : IsActs w a xs) (i : Nat) (hi : i < xs.length) : ∃ b off, a = some ⟨b, off, none⟩ ∧ b < w.heap.size ∧ ∀ f (v : Value), xs[i].cells[f]? = some v → w.cell? ⟨b, off + i * 6 + f, none⟩ = some v := by
  rcases h.2 with h0 | ⟨b, off, h1, h2, h3⟩
  · subst h0; simp at hi
  · exact ⟨b, off, h1, h2, fun f v hv => h3 i hi f v hv⟩

/-- A box with a deed. -/
def IsBox (w : World) (p : Nat) (x : ActV) : Prop := w.heap[p]? = some (.cells #[.int .i64 x.kind, .int .i64 x.wd, .int .i64 x.n, .int .i64 x.m, .string x.s, .string x.t] 29 (0, 0))
theorem IsBox.cells {w : World} {p : Nat} {x : ActV} (h : IsBox w p x) : w.cell? ⟨p, 0, none⟩ = some (.int .i64 x.kind) ∧ w.cell? ⟨p, 1, none⟩ = some (.int .i64 x.wd) ∧ w.cell? ⟨p, 2, none⟩ = some (.int .i64 x.n) ∧ w.cell? ⟨p, 3, none⟩ = some (.int .i64 x.m) ∧ w.cell? ⟨p, 4, none⟩ = some (.string x.s) ∧ w.cell? ⟨p, 5, none⟩ = some (.string x.t) := by
  refine ⟨?_, ?_, ?_, ?_, ?_, ?_⟩
  · simpa using cell_of_block h 0
  · simpa using cell_of_block h 1
  · simpa using cell_of_block h 2
  · simpa using cell_of_block h 3
  · simpa using cell_of_block h 4
  · simpa using cell_of_block h 5
theorem IsBox.mono {w w' : World} {p : Nat} {x : ActV} {G : Nat → Prop} (h : IsBox w p x) (hs : Step G w w') (hd : ¬ G p) : IsBox w' p x := (hs.block p (lt_of_block h) hd).trans h

theorem bytes_str (p : Nat) (F : Nat → Prop) (bs : List UInt8) (w : World) (ho : IsOut w p F bs) :
    Calls Try.prog 12 #[.pointer (some ⟨p, 0, none⟩)] w fun e w' => e = .returned (.string (str bs)) ∧ w = w' := bytes_any p F bs w ho
theorem str_app (a b : List UInt8) : str a ++ str b = str (a ++ b) := by rw [str_append, str_list]

theorem numV_pair (wd n m : Int) : numV wd [n, m] = (numV wd [n] && numV wd [m]) := by
  simp only [numV, List.all_cons, List.all_nil, Bool.and_true]
  cases isW wd <;> simp
theorem numB_pair {wd n m : Int} (h1 : numV wd [n] = true) (h2 : numV wd [m] = true) (bs : List UInt8) : bs ++ numB wd [n, m] = bs ++ (be wd.toNat n.toNat ++ be wd.toNat m.toNat) := by
  simp [numB, numV_pair, h1, h2]
theorem numB_none {wd n m : Int} (h : numV wd [n, m] = false) (bs : List UInt8) : bs ++ numB wd [n, m] = bs := by
  simp [numB, h]
theorem textV_pair (s t : ByteArray) : textV [s, t] = (textV [s] && textV [t]) := by simp [textV]
theorem textB_pair {s t : ByteArray} (h1 : textV [s] = true) (h2 : textV [t] = true) (bs : List UInt8) : bs ++ textB [s, t] = bs ++ (txt s ++ txt t) := by
  simp [textB, textV_pair, h1, h2]
theorem textB_none {s t : ByteArray} (h : textV [s, t] = false) (bs : List UInt8) : bs ++ textB [s, t] = bs := by
  simp [textB, h]
theorem textV_le {s : ByteArray} (h : textV [s] = true) : s.size ≤ 255 := by simpa [textV] using h
theorem txt_len (s : ByteArray) : (txt s).length = s.size + 1 := by unfold txt; rw [List.length_cons, list_len]
theorem numV_le8 {wd n : Int} (h : numV wd [n] = true) : wd.toNat ≤ 8 := by
  simp only [numV, Bool.and_eq_true] at h
  have := (isW_iff wd).1 h.1
  omega

set_option maxHeartbeats 2000000 in
set_option maxRecDepth 100000 in
theorem writes_walk (a : Option Addr) (cap : Nat) (xs : List ActV) (hlen : xs.length ≤ 9223372036854775807) (w : World) (hx : IsActs w a xs) :
    Calls Try.prog 3 #[.slice a xs.length cap] w fun e w' => e = .returned (.bool true) ∧ Step noF w w' := by
  have HX := hid hx
  clear hx
  go_enter Try.func3, Try.ntmps3
  go_wp2_with (go_at_call 6; refine (awake_any _).mono ?_; rintro e w1 ⟨rfl, st1⟩)
  go_loopw [4, 5] (fun want i wr => ∃ (k : Nat) (bs : List UInt8) (F : Nat → Prop), k ≤ 40 ∧ i = .int .i64 k ∧ want = .string (str bs) ∧ bs.length ≤ 600 * k ∧ Step noF w wr ∧ IsOut wr w1.heap.size F bs ∧ ∀ q, F q → w.heap.size ≤ q) (fun _ i _ => 40 - (intOf i).toNat)
  case atStart => exact ⟨0, [], _, by omega, rfl, rfl, by simp, st1.alloc _, newOut w1, fun q hq => by rw [show q = w1.heap.size from hq]; exact st1.size⟩
  case round =>
    obtain ⟨k, bs, F, hk, rfl, rfl, hbl, hst, hout, hF⟩ := hrel
    by_cases hlt : k < xs.length
    · by_cases h40 : k < 40
      · obtain ⟨b, off, rfl, hb, hcs⟩ := HX.out.at k hlt
        have hcs2 : ∀ f (v : Value), xs[k].cells[f]? = some v → wr.cell? ⟨b, off + k * 6 + f, none⟩ = some v := fun f v hv => (hst.cell (p := ⟨b, off + k * 6 + f, none⟩) (fun h => h) hb).trans (hcs f v hv)
        obtain ⟨okk, okw, okn, okm, oks, okt⟩ := HX.out.1 xs[k] (List.getElem_mem hlt)
        generalize xs[k] = x at *
        obtain ⟨kind, wd, n, m, s, t⟩ := x
        simp only [in64] at okk okw okn okm oks okt
        have c0 : wr.cell? ⟨b, off + k * 6, none⟩ = some (.int .i64 kind) := hcs2 0 _ rfl
        have c1 := hcs2 1 _ rfl
        have c2 := hcs2 2 _ rfl
        have c3 := hcs2 3 _ rfl
        have c4 := hcs2 4 _ rfl
        have c5 := hcs2 5 _ rfl
        clear hcs hcs2
        have hz1 : w1.heap.size < wr.heap.size := hout.lt _ hout.self
        have hbx : Hid (IsBox (wr.alloc (.cells #[.int .i64 kind, .int .i64 wd, .int .i64 n, .int .i64 m, .string s, .string t] 29)) wr.heap.size ⟨kind, wd, n, m, s, t⟩) := block_alloc_new _ _
        have ho0 : Hid (IsOut (wr.alloc (.cells #[.int .i64 kind, .int .i64 wd, .int .i64 n, .int .i64 m, .string s, .string t] 29)) w1.heap.size F bs) := hout.step ((Step.refl _ _).alloc _)
        have hfb : Hid (¬ F wr.heap.size) := fun h => by have := hout.lt _ h; omega
        have hap := str_app
        have hsz := str_size
        by_cases hs300 : 300 < s.size ∨ 300 < t.size
        · unfold maxLen at oks okt
          rcases hs300 with h3 | h3
          · go_wp2
            go_ret
            exact ⟨rfl, hst.alloc _⟩
          · by_cases h4 : 300 < s.size
            · go_wp2
              go_ret
              exact ⟨rfl, hst.alloc _⟩
            · go_wp2
              go_ret
              exact ⟨rfl, hst.alloc _⟩
        · have hs3 : s.size ≤ 300 := by omega
          have ht3 : t.size ≤ 300 := by omega
          clear hs300
          by_cases hk1 : kind = 1
          · subst hk1
            go_wp2_with fail
            refine (refNum_any wd n okn.2 _).mono ?_
            rintro e w2 ⟨X, rfl, hX, sa⟩
            have b2 := hbx.out.mono sa (fun h => h)
            obtain ⟨d0, d1, d2, d3, d4, d5⟩ := b2.cells
            have o2 := ho0.out.step sa
            clear c0 c1 c2 c3 c4 c5
            go_wp2_with fail
            refine (refNum_any wd m okm.2 _).mono ?_
            rintro e w3 ⟨Y, rfl, hY, sb⟩
            have b3 := b2.mono sb (fun h => h)
            have o3 := o2.step sb
            have za := sa.size
            have zb := sb.size
            clear d0 d1 d2 d3 d4 d5
            obtain ⟨d0, d1, d2, d3, d4, d5⟩ := b3.cells
            have HX := hid hX
            have HY := hid hY
            clear hX hY
            have hrow : Hid (RowAt (w3.alloc (.cells #[.int .i64 n, .int .i64 m] 3)) F (some ⟨w3.heap.size, 0, none⟩) (intsOf [n, m])) := rowAt_new _ _ o3.lt _ _ _ rfl _ rfl
            have o3a := o3.step ((Step.refl _ _).alloc (.cells #[.int .i64 n, .int .i64 m] 3))
            have hin : Hid (inI64 [n, m]) := by intro z hz; simp at hz; rcases hz with rfl | rfl <;> assumption
            have st3 : Step noF w w3 := ((hst.alloc _).trans sa).trans sb
            cases h1 : numV wd [n]
            · have hv : Hid (numV wd [n, m] = false) := by show _ = _; rw [numV_pair, h1]; rfl
              go_wp2_with fail
              refine (num_call wd [n, m] 2 rfl hin.out (by simp) _ 2 _ F bs _ o3a (by omega) hrow.out bs (numB_none hv.out bs) 1 (by rw [hv.out]; rfl)).mono ?_
              rintro e w4 ⟨rfl, F4, s4, o4, n4⟩
              have st4 : Step noF w w4 := (st3.alloc _).then s4 (fun j hj => .inr (hF j hj))
              go_wp2_with (first | (go_at_call 12; refine (bytes_str _ F4 _ _ o4).mono ?_; rintro e w5 ⟨rfl, rfl⟩) | (go_at_call 13; refine (len_any _ F4 _ _ o4).mono ?_; rintro e w5 ⟨rfl, rfl⟩))
              go_roundw
              case rel => exact ⟨k + 1, bs, F4, by omega, by go_num, rfl, by omega, st4, o4, fun q hq => by rcases n4 q hq with h | h; exact hF q h; have := st3.size; simp at h; omega⟩
              case measure => simp [intOf]; omega
            · cases h2 : numV wd [m]
              · have hv : Hid (numV wd [n, m] = false) := by show _ = _; rw [numV_pair, h1, h2]; rfl
                go_wp2_with fail
                refine (num_call wd [n, m] 2 rfl hin.out (by simp) _ 2 _ F bs _ o3a (by omega) hrow.out bs (numB_none hv.out bs) 1 (by rw [hv.out]; rfl)).mono ?_
                rintro e w4 ⟨rfl, F4, s4, o4, n4⟩
                have st4 : Step noF w w4 := (st3.alloc _).then s4 (fun j hj => .inr (hF j hj))
                go_wp2_with (first | (go_at_call 12; refine (bytes_str _ F4 _ _ o4).mono ?_; rintro e w5 ⟨rfl, rfl⟩) | (go_at_call 13; refine (len_any _ F4 _ _ o4).mono ?_; rintro e w5 ⟨rfl, rfl⟩))
                go_roundw
                case rel => exact ⟨k + 1, bs, F4, by omega, by go_num, rfl, by omega, st4, o4, fun q hq => by rcases n4 q hq with h | h; exact hF q h; have := st3.size; simp at h; omega⟩
                case measure => simp [intOf]; omega
              · obtain rfl := HX.out h1
                obtain rfl := HY.out h2
                have hw8 := numV_le8 h1
                have hbe := be_length
                have hl2 : Hid ((bs ++ (be wd.toNat n.toNat ++ be wd.toNat m.toNat)).length ≤ 600 * (k + 1)) := by show _ ≤ _; simp [be_length]; omega
                go_wp2_with fail
                refine (num_call wd [n, m] 2 rfl hin.out (by simp) _ 2 _ F bs _ o3a (by omega) hrow.out _ (numB_pair h1 h2 bs) 0 (by rw [numV_pair, h1, h2]; rfl)).mono ?_
                rintro e w4 ⟨rfl, F4, s4, o4, n4⟩
                have st4 : Step noF w w4 := (st3.alloc _).then s4 (fun j hj => .inr (hF j hj))
                go_wp2_with (first | (go_at_call 12; refine (bytes_str _ F4 _ _ o4).mono ?_; rintro e w5 ⟨rfl, rfl⟩) | (go_at_call 13; refine (len_any _ F4 _ _ o4).mono ?_; rintro e w5 ⟨rfl, rfl⟩))
                go_roundw
                case rel => exact ⟨k + 1, _, F4, by omega, by go_num, rfl, hl2.out, st4, o4, fun q hq => by rcases n4 q hq with h | h; exact hF q h; have := st3.size; simp at h; omega⟩
                case measure => simp [intOf]; omega
          · by_cases hk2 : kind = 2
            · subst hk2
              go_wp2_with fail
              refine (refText_any s oks _).mono ?_
              rintro e w2 ⟨X, rfl, hX, sa⟩
              have b2 := hbx.out.mono sa (fun h => h)
              obtain ⟨d0, d1, d2, d3, d4, d5⟩ := b2.cells
              have o2 := ho0.out.step sa
              clear c0 c1 c2 c3 c4 c5
              go_wp2_with fail
              refine (refText_any t okt _).mono ?_
              rintro e w3 ⟨Y, rfl, hY, sb⟩
              have b3 := b2.mono sb (fun h => h)
              have o3 := o2.step sb
              have za := sa.size
              have zb := sb.size
              clear d0 d1 d2 d3 d4 d5
              obtain ⟨d0, d1, d2, d3, d4, d5⟩ := b3.cells
              have HX := hid hX
              have HY := hid hY
              clear hX hY
              have hrow : Hid (RowAt (w3.alloc (.cells #[.string s, .string t] 9)) F (some ⟨w3.heap.size, 0, none⟩) (strsOf [s, t])) := rowAt_new _ _ o3.lt _ _ _ rfl _ rfl
              have o3a := o3.step ((Step.refl _ _).alloc (.cells #[.string s, .string t] 9))
              have htm : Hid (∀ z ∈ [s, t], z.size ≤ maxLen) := by intro z hz; simp at hz; rcases hz with rfl | rfl <;> assumption
              have st3 : Step noF w w3 := ((hst.alloc _).trans sa).trans sb
              cases h1 : textV [s]
              · have hv : Hid (textV [s, t] = false) := by show _ = _; rw [textV_pair, h1]; rfl
                go_wp2_with fail
                refine (text_call [s, t] 2 rfl (by simp) htm.out _ 2 _ F bs _ o3a (by omega) hrow.out bs (textB_none hv.out bs) 1 (by rw [hv.out]; rfl)).mono ?_
                rintro e w4 ⟨rfl, F4, s4, o4, n4⟩
                have st4 : Step noF w w4 := (st3.alloc _).then s4 (fun j hj => .inr (hF j hj))
                go_wp2_with (first | (go_at_call 12; refine (bytes_str _ F4 _ _ o4).mono ?_; rintro e w5 ⟨rfl, rfl⟩) | (go_at_call 13; refine (len_any _ F4 _ _ o4).mono ?_; rintro e w5 ⟨rfl, rfl⟩))
                go_roundw
                case rel => exact ⟨k + 1, bs, F4, by omega, by go_num, rfl, by omega, st4, o4, fun q hq => by rcases n4 q hq with h | h; exact hF q h; have := st3.size; simp at h; omega⟩
                case measure => simp [intOf]; omega
              · cases h2 : textV [t]
                · have hv : Hid (textV [s, t] = false) := by show _ = _; rw [textV_pair, h1, h2]; rfl
                  go_wp2_with fail
                  refine (text_call [s, t] 2 rfl (by simp) htm.out _ 2 _ F bs _ o3a (by omega) hrow.out bs (textB_none hv.out bs) 1 (by rw [hv.out]; rfl)).mono ?_
                  rintro e w4 ⟨rfl, F4, s4, o4, n4⟩
                  have st4 : Step noF w w4 := (st3.alloc _).then s4 (fun j hj => .inr (hF j hj))
                  go_wp2_with (first | (go_at_call 12; refine (bytes_str _ F4 _ _ o4).mono ?_; rintro e w5 ⟨rfl, rfl⟩) | (go_at_call 13; refine (len_any _ F4 _ _ o4).mono ?_; rintro e w5 ⟨rfl, rfl⟩))
                  go_roundw
                  case rel => exact ⟨k + 1, bs, F4, by omega, by go_num, rfl, by omega, st4, o4, fun q hq => by rcases n4 q hq with h | h; exact hF q h; have := st3.size; simp at h; omega⟩
                  case measure => simp [intOf]; omega
                · obtain rfl := HX.out h1
                  obtain rfl := HY.out h2
                  have ht1 := txt_len s
                  have ht2 := txt_len t
                  have hl2 : Hid ((bs ++ (txt s ++ txt t)).length ≤ 600 * (k + 1)) := by show _ ≤ _; have := textV_le h1; have := textV_le h2; simp [ht1, ht2]; omega
                  go_wp2_with fail
                  refine (text_call [s, t] 2 rfl (by simp) htm.out _ 2 _ F bs _ o3a (by omega) hrow.out _ (textB_pair h1 h2 bs) 0 (by rw [textV_pair, h1, h2]; rfl)).mono ?_
                  rintro e w4 ⟨rfl, F4, s4, o4, n4⟩
                  have st4 : Step noF w w4 := (st3.alloc _).then s4 (fun j hj => .inr (hF j hj))
                  go_wp2_with (first | (go_at_call 12; refine (bytes_str _ F4 _ _ o4).mono ?_; rintro e w5 ⟨rfl, rfl⟩) | (go_at_call 13; refine (len_any _ F4 _ _ o4).mono ?_; rintro e w5 ⟨rfl, rfl⟩))
                  go_roundw
                  case rel => exact ⟨k + 1, _, F4, by omega, by go_num, rfl, hl2.out, st4, o4, fun q hq => by rcases n4 q hq with h | h; exact hF q h; have := st3.size; simp at h; omega⟩
                  case measure => simp [intOf]; omega
            · have happ := str_append
              have hlist := list_len s
              have hl2 : Hid ((bs ++ s.data.toList).length ≤ 600 * (k + 1)) := by show _ ≤ _; rw [List.length_append, hlist]; omega
              clear hap
              have hbx2 := hbx.out
              obtain ⟨d0, d1, d2, d3, d4, d5⟩ := hbx2.cells
              go_wp2_with fail
              refine (raw_any s _ F bs _ ho0.out (by omega)).mono ?_
              rintro e w4 ⟨rfl, F4, s4, o4, n4⟩
              have b4 := hbx2.mono s4 hfb.out
              clear c0 c1 c2 c3 c4 c5 d0 d1 d2 d3 d4 d5
              obtain ⟨d0, d1, d2, d3, d4, d5⟩ := b4.cells
              have st4 : Step noF w w4 := (hst.alloc _).then s4 (fun j hj => .inr (hF j hj))
              go_wp2_with (first | (go_at_call 12; refine (bytes_str _ F4 _ _ o4).mono ?_; rintro e w5 ⟨rfl, rfl⟩) | (go_at_call 13; refine (len_any _ F4 _ _ o4).mono ?_; rintro e w5 ⟨rfl, rfl⟩))
              go_roundw
              case rel => exact ⟨k + 1, _, F4, by omega, by go_num, rfl, hl2.out, st4, o4, fun q hq => by rcases n4 q hq with h | h; exact hF q h; have := hst.size; simp at h; omega⟩
              case measure => simp [intOf]; omega
      · clear HX
        go_wp2_with (first | (go_at_call 11; refine (raw_nil _ _).mono ?_; rintro e w5 ⟨rfl, rfl⟩) | (go_at_call 8; refine (num_nil _ _ _ _ _).mono ?_; rintro e w5 ⟨rfl, rfl⟩) | (go_at_call 10; refine (text_nil _ _ _ _).mono ?_; rintro e w5 ⟨rfl, rfl⟩) | (go_at_call 12; refine (bytes_nil _).mono ?_; rintro e w5 ⟨rfl, rfl⟩) | (go_at_call 13; refine (len_nil _).mono ?_; rintro e w5 ⟨rfl, rfl⟩))
        go_ret
        exact ⟨rfl, (hst.alloc _).alloc _⟩
    · clear HX
      go_wp2_with (first | (go_at_call 11; refine (raw_nil _ _).mono ?_; rintro e w5 ⟨rfl, rfl⟩) | (go_at_call 8; refine (num_nil _ _ _ _ _).mono ?_; rintro e w5 ⟨rfl, rfl⟩) | (go_at_call 10; refine (text_nil _ _ _ _).mono ?_; rintro e w5 ⟨rfl, rfl⟩) | (go_at_call 12; refine (bytes_nil _).mono ?_; rintro e w5 ⟨rfl, rfl⟩) | (go_at_call 13; refine (len_nil _).mono ?_; rintro e w5 ⟨rfl, rfl⟩))
      go_ret
      exact ⟨rfl, (hst.alloc _).alloc _⟩
end Go.Proofs.Ytfenclojhhfhbaa
