/-
  The law PenBack: its walk.
-/
import Derived.Test.YtfenclojhhfhbaaPenH
import Derived.Test.YtfenclojhhfhbaaPenMath
import Derived.Deep.RegionHeld
import Derived.Deep.DeepCutAuto
namespace Go.Proofs.Ytfenclojhhfhbaa
open Go.RowKit
set_option linter.unusedVariables false

def IsInts (w : World) (a : Option Addr) (zs : List Int) : Prop := inI64 zs ∧ RowAt w noF a (intsOf zs)
def IsStrs (w : World) (a : Option Addr) (ts : List ByteArray) : Prop := (∀ t ∈ ts, t.size ≤ maxLen) ∧ RowAt w noF a (strsOf ts)

theorem info_int : (Try.prog.info? 3).map (fun i => (i.zero, i.size, i.bytes)) = some (some (.int .i64 0), 1, 8) := by kernel_rfl

/-- The number that the law makes of z. -/
def nof (k : Nat) (z : Int) : Int := if k < 8 then wrap64 (IntKind.u64.wrap z / 2) % 256 ^ k else wrap64 (IntKind.u64.wrap z / 2)
theorem half_range (z : Int) : 0 ≤ wrap64 (IntKind.u64.wrap z / 2) ∧ wrap64 (IntKind.u64.wrap z / 2) ≤ 9223372036854775807 := by
  have h0 := wrap_u64_nonneg z
  have h1 : IntKind.u64.wrap z < 18446744073709551616 := by simp [IntKind.wrap, IntKind.bits, IntKind.signed]; omega
  unfold wrap64
  omega

theorem IsOut.mono_grown {w w' : World} {p : Nat} {F : Nat → Prop} {bs : List UInt8} {row : Option Nat} (h : IsOut w p F bs) (hg : w.grownBy w' row) (hd : ∀ k, F k → row ≠ some k) : IsOut w' p F bs :=
  h.mono (G := fun k => row = some k) ((Step.refl _ _).grown hg (fun k hk => .inl hk)) (fun k hk e => hd k hk e)

/-- What an append leaves of the rest. -/
theorem app_fin {w wa w' : World} {v v' : Value} {c : Nat} (hst : Step noF w wa) (hg : wa.grownBy w' v.ownBlock) (hfr : Fresh wa v v') (hv : ∀ g, v.ownBlock = some g → c < g ∧ w.heap.size ≤ g) (hc : c < wa.heap.size) : Step noF w w' ∧ ∀ g, v'.ownBlock = some g → c < g := by
  refine ⟨hst.grown hg (fun k hk => .inr (hv k hk).2), fun g hgg => ?_⟩
  rcases hfr with e | e
  · exact (hv g (by rw [← e]; exact hgg)).1
  · have := e g hgg; omega


theorem owns_empty (w : World) (e : TypeId) (size : Nat) (g : Nat) (hg : g = w.heap.size) : (w.alloc (.cells #[] e)).ownsRow 0 e size (.slice (some ⟨g, 0, none⟩) 0 0) 0 [] := by
  subst hg
  exact ⟨by simp, .inr ⟨_, 0, #[], rfl, Nat.zero_le _, block_alloc_new _ _, Nat.le_refl _, Nat.zero_le _, by simp, by simp⟩⟩

theorem RowAt.at {w : World} {F : Nat → Prop} {a : Option Addr} {α : Type} {f : α → Value} {zs : List α} (h : RowAt w F a (zs.map f)) (j : Nat) (hj : j < zs.length) : ∃ b off, a = some ⟨b, off, none⟩ ∧ w.cell? ⟨b, off + j, none⟩ = some (f zs[j]) := by
  rcases h with h | ⟨b, off, h1, _, h3⟩
  · simp at h; subst h; simp at hj
  · exact ⟨b, off, h1, by rw [h3 j (by simpa using hj), List.getElem_map]⟩

theorem nof_range (k : Nat) (hk : k = 1 ∨ k = 2 ∨ k = 4 ∨ k = 8) (z : Int) : 0 ≤ nof k z ∧ nof k z < 256 ^ k ∧ nof k z ≤ 9223372036854775807 := by
  obtain ⟨h1, h2⟩ := half_range z
  unfold nof
  generalize wrap64 (IntKind.u64.wrap z / 2) = y at *
  rcases hk with rfl | rfl | rfl | rfl <;> simp <;> omega

theorem numV_all (k : Nat) (hk : k = 1 ∨ k = 2 ∨ k = 4 ∨ k = 8) (ns : List Int) (h : ∀ n ∈ ns, 0 ≤ n ∧ n < 256 ^ k ∧ n ≤ 9223372036854775807) : numV (k : Int) ns = true := by
  have hw : isW (k : Int) = true := by rw [isW_iff]; omega
  rw [numV, hw, Bool.true_and, List.all_eq_true]
  intro n hn
  obtain ⟨h1, h2, _⟩ := h n hn
  simp only [fitB, Int.toNat_natCast, decide_eq_true_eq]
  exact ⟨h1, h2⟩

theorem rowAt_owns {w : World} {F : Nat → Prop} {e : TypeId} {ao : Option Addr} {n cc : Nat} {cs : List Value} (h : w.ownsRow 0 e 1 (.slice ao n cc) n cs) (hn : cs.length = n) (hF : ∀ g, Value.ownBlock (.slice ao n cc) = some g → ¬ F g) : RowAt w F ao cs := by
  rcases h.2 with ⟨h1, h2⟩ | ⟨g, cap, cur, hv, _⟩
  · subst h2
    exact .inl (List.eq_nil_of_length_eq_zero hn)
  · injection hv with e1 e2 e3
    subst e1
    refine .inr ⟨g, 0, rfl, hF g rfl, fun j hj => ?_⟩
    have := h.cells (g := g) rfl j _ (List.getElem?_eq_getElem hj)
    rw [Addr.add_lit] at this
    exact this

theorem owns_step {w w' : World} {base : Nat} {e : TypeId} {size : Nat} {v : Value} {n : Nat} {xs : List Value} {F : Nat → Prop} (h : w.ownsRow base e size v n xs) (hs : Step F w w') (hd : ∀ g, v.ownBlock = some g → ¬ F g) : w'.ownsRow base e size v n xs := by
  refine ⟨h.1, ?_⟩
  rcases h.2 with x | ⟨g, cap, cur, rfl, hg, hh, rest⟩
  · exact .inl x
  · exact .inr ⟨g, cap, cur, rfl, hg, (hs.block g (lt_of_block hh) (hd g rfl)).trans hh, rest⟩

theorem rowAt_step {w w' : World} {F : Nat → Prop} {a : Option Addr} {cs : List Value} (h : RowAt w noF a cs) (hs : Step noF w w') (hF : ∀ b, b < w.heap.size → ¬ F b) : RowAt w' F a cs := by
  rcases h with h | ⟨b, off, h1, _, h3⟩
  · exact .inl h
  · by_cases h0 : cs = []
    · exact .inl h0
    · have hl : 0 < cs.length := List.length_pos_iff.2 h0
      have hb : b < w.heap.size := World.block_lt_of_cell? w _ (h3 0 hl)
      exact .inr ⟨b, off, h1, hF b hb, fun j hj => (hs.cell (p := ⟨b, off + j, none⟩) (fun h => h) hb).trans (h3 j hj)⟩

theorem owns_cell {w : World} {e : TypeId} {ao : Option Addr} {n cc : Nat} {cs : List Value} (h : w.ownsRow 0 e 1 (.slice ao n cc) n cs) (j : Nat) (hj : j < cs.length) (hn : cs.length = n) : ∃ g, ao = some ⟨g, 0, none⟩ ∧ w.cell? ⟨g, j, none⟩ = cs[j]? ∧ Value.ownBlock (.slice ao n cc) = some g := by
  rcases h.2 with ⟨h1, h2⟩ | ⟨g, cap, cur, hv, _⟩
  · omega
  · injection hv with e1 e2 e3
    subst e1
    refine ⟨g, rfl, ?_, rfl⟩
    have := h.cells (g := g) rfl j _ (List.getElem?_eq_getElem hj)
    rw [Addr.add_lit, Nat.zero_add] at this
    rw [this, List.getElem?_eq_getElem hj]

theorem inText_call (n : Int) (p : Nat) (l : List UInt8) (e0 : Int) (w : World) (h : IsIn w p l e0) (hl : l.length ≤ maxLen) (r : ByteArray) (l2 : List UInt8) (e2 : Int) (h1 : str (textVal n l) = r) (h2 : textL n l = l2) (h3 : textE n l e0 = e2) :
    Calls Try.prog 17 #[.pointer (some ⟨p, 0, none⟩), .int .i64 n] w fun e w' => e = .returned (.string r) ∧ Step (oneF p) w w' ∧ IsIn w' p l2 e2 := by
  subst h1 h2 h3
  exact inText_any n p l e0 w h hl

theorem Step.keep {F : Nat → Prop} {w0 a b : World} (s0 : Step noF w0 a) (hs : Step F a b) {p : Addr} {v : Value} (hc : w0.cell? p = some v) (hF : ¬ F p.block) : b.cell? p = some v :=
  have hb := World.block_lt_of_cell? w0 _ hc
  (hs.cell hF (Nat.lt_of_lt_of_le hb s0.size)).trans ((s0.cell (fun h => h) hb).trans hc)

theorem IsOut.drew {w : World} {p : Nat} {F : Nat → Prop} {bs : List UInt8} (h : IsOut w p F bs) : IsOut w.drew p F bs := h.step ((Step.refl noF _).drew)

theorem bytes_ab (p pa pb : Nat) (FA FB : Nat → Prop) (ba bb : List UInt8) (w : World) (hp : p = pa ∨ p = pb) (ha : IsOut w pa FA ba) (hb : IsOut w pb FB bb) :
    Calls Try.prog 12 #[.pointer (some ⟨p, 0, none⟩)] w fun e w' => e = .returned (.string (str (if p = pa then ba else bb))) ∧ w = w' := by
  by_cases h : p = pa
  · subst h; rw [if_pos rfl]; exact bytes_any _ FA ba w ha
  · rw [if_neg h]; obtain rfl : p = pb := by rcases hp with x | x; exact absurd x h; exact x
    exact bytes_any _ FB bb w hb

theorem bytes_str2 (p : Nat) (F : Nat → Prop) (bs : List UInt8) (w : World) (ho : IsOut w p F bs) :
    Calls Try.prog 12 #[.pointer (some ⟨p, 0, none⟩)] w fun e w' => e = .returned (.string (str bs)) ∧ w = w' := bytes_any p F bs w ho

set_option maxHeartbeats 8000000 in
set_option maxRecDepth 100000 in
theorem back_walk (wd : Int) (a : Option Addr) (cap : Nat) (zs : List Int) (a2 : Option Addr) (cap2 : Nat) (ts : List ByteArray) (hlen : zs.length ≤ 9223372036854775807) (hlen2 : ts.length ≤ 9223372036854775807) (w : World) (hz : IsInts w a zs) (ht : IsStrs w a2 ts) :
    Calls Try.prog 5 #[.int .i64 wd, .slice a zs.length cap, .slice a2 ts.length cap2] w fun e w' => e = .returned (.bool true) ∧ Step noF w w' := by
  have HZ := hid hz
  have HT := hid ht
  clear hz ht
  by_cases h20 : 20 < zs.length
  · go_enter Try.func5, Try.ntmps5
    go_wp2_with (go_at_call 6; refine (awake_any _).mono ?_; rintro e w1 ⟨rfl, st1⟩)
    go_ret
    exact ⟨rfl, st1⟩
  by_cases h20b : 20 < ts.length
  · go_enter Try.func5, Try.ntmps5
    go_wp2_with (go_at_call 6; refine (awake_any _).mono ?_; rintro e w1 ⟨rfl, st1⟩)
    go_ret
    exact ⟨rfl, st1⟩
  have hr : (IntKind.u64.wrap wd).tmod 4 = 0 ∨ (IntKind.u64.wrap wd).tmod 4 = 1 ∨ (IntKind.u64.wrap wd).tmod 4 = 2 ∨ (IntKind.u64.wrap wd).tmod 4 = 3 := by
    have h0 := wrap_u64_nonneg wd
    rw [Int.tmod_eq_emod_of_nonneg h0]
    omega
  go_enter Try.func5, Try.ntmps5
  go_upto_region 6 with (go_at_call 6; refine (awake_any _).mono ?_; rintro e w1 ⟨rfl, st1⟩)
  go_cut [8] (fun v w2 => ∃ k : Nat, (k = 1 ∨ k = 2 ∨ k = 4 ∨ k = 8) ∧ v = .int .i64 k ∧ Step noF w w2)
  case first =>
    rcases hr with hr | hr | hr | hr
    all_goals
      go_wp2
      go_meet
      case rel => exact ⟨_, by first | exact .inl rfl | exact .inr (.inl rfl) | exact .inr (.inr (.inl rfl)) | exact .inr (.inr (.inr rfl)), rfl, st1.alloc _⟩
  case rest =>
    obtain ⟨k, hk, rfl, st2⟩ := hcut
    obtain ⟨i0, hi, hz0, hz1, hz2⟩ := info_parts info_int
    have hk8 : (k : Int) ≤ 8 := by omega
    have hk1 : 1 ≤ (k : Int) := by omega
    clear hr
    go_wp2
    go_loopw [10, 11] (fun v i wr => ∃ j : Nat, j ≤ zs.length ∧ i = .int .i64 j ∧ Step noF w wr ∧ wr.ownsRow 0 3 1 v j (intsOf ((zs.take j).map (nof k))) ∧ IsOut wr wc.heap.size (oneF wc.heap.size) [] ∧ (∀ g, v.ownBlock = some g → wc.heap.size < g)) (fun _ i _ => zs.length - (intOf i).toNat)
    case atStart => exact ⟨0, Nat.zero_le _, rfl, (st2.alloc _).alloc _, by simpa [intsOf] using owns_empty _ _ _ _ (by simp), (newOut wc).step ((Step.refl _ _).alloc _), fun g hg => by simp [Value.ownBlock] at hg; omega⟩
    case round =>
      obtain ⟨j, hj, rfl, st3, hown, hout, hg3⟩ := hrel
      by_cases hlt : j < zs.length
      · have hzj := HZ.out.1 zs[j] (List.getElem_mem hlt)
        obtain ⟨b, off, rfl, hc⟩ := HZ.out.2.at j hlt
        have hbl : b < w.heap.size := World.block_lt_of_cell? w _ hc
        have hc2 : wr.cell? ⟨b, off + j, none⟩ = some (.int .i64 zs[j]) := (st3.cell (p := ⟨b, off + j, none⟩) (fun h => h) hbl).trans hc
        clear hc
        have hown2 := hown
        obtain ⟨ao, cc, rfl⟩ := owns_form hown2
        clear hown2
        obtain ⟨z, hzz⟩ : ∃ z, Hid (zs[j] = z) := ⟨_, hid rfl⟩
        rw [hzz.out] at hzj hc2
        have hmx : Hid (j + 1 ≤ maxLen) := le_max (by omega)
        have hmb : Hid ((j + 1) * 8 ≤ 140737488355328) := by show _ ≤ _; omega
        obtain ⟨y, hy, hy0, hy1⟩ : ∃ y : Int, wrap64 (IntKind.u64.wrap z / 2) = y ∧ 0 ≤ y ∧ y ≤ 9223372036854775807 := ⟨_, rfl, half_range z⟩
        have HY := hid hy
        rcases hk with rfl | rfl | rfl | rfl
        · have HN : Hid ((zs.take (j + 1)).map (nof 1) = (zs.take j).map (nof 1) ++ [y % 256]) := by
            show _ = _
            rw [List.take_succ_eq_append_getElem hlt, hzz.out]
            simp [nof, HY.out]
          have HC : Hid (intsOf ((zs.take j).map (nof 1)) ++ [.int .i64 (y % 256)] = intsOf ((zs.take (j + 1)).map (nof 1))) := by
            show _ = _
            rw [HN.out]
            simp [intsOf]
          have hone : Hid (∀ u ∈ [Value.int .i64 (y % 256)], u.oneCell' = true) := by intro u hu; simp at hu; subst hu; rfl
          go_wp2_with (at_builtin; refine wpList_append_fresh rfl (.tmp 59) (.tmp 61) 49 rfl 3 i0 (.int .i64 0) 1 8 Try.underlying49 hi hz0 hz1 hz2 rfl (by decide) _ _ _ (by simp [Act.eval]; rfl) (by exact hown.alloc _) ⟨wr.heap.size, 0, none⟩ 1 1 [.int .i64 (y % 256)] (by simp [Act.eval]) rfl (cell_one_new _ _ _) hone.out hmx.out hmb.out ?_; intro v' w' ho' hg' hfr; rw [HC.out] at ho')
          have fin := app_fin (st3.alloc _) hg' hfr (fun g hg => ⟨hg3 g hg, Nat.le_of_lt (Nat.lt_of_le_of_lt st2.size (hg3 g hg))⟩) (by have := hout.lt _ rfl; simp; omega)
          go_roundw
          case rel => (repeat apply Exists.intro); exact ⟨⟨j + 1, by omega, by go_num, fin.1, ho', (hout.step ((Step.refl _ _).alloc _)).mono_grown hg' (fun k hk e => by rw [show k = wc.heap.size from hk] at e; exact absurd (hg3 _ e) (Nat.lt_irrefl _)), fin.2⟩, rfl⟩
          case measure => simp [intOf]; omega
        · have HN : Hid ((zs.take (j + 1)).map (nof 2) = (zs.take j).map (nof 2) ++ [y % 65536]) := by
            show _ = _
            rw [List.take_succ_eq_append_getElem hlt, hzz.out]
            simp [nof, HY.out]
          have HC : Hid (intsOf ((zs.take j).map (nof 2)) ++ [.int .i64 (y % 65536)] = intsOf ((zs.take (j + 1)).map (nof 2))) := by
            show _ = _
            rw [HN.out]
            simp [intsOf]
          have hone : Hid (∀ u ∈ [Value.int .i64 (y % 65536)], u.oneCell' = true) := by intro u hu; simp at hu; subst hu; rfl
          go_wp2_with (at_builtin; refine wpList_append_fresh rfl (.tmp 59) (.tmp 61) 49 rfl 3 i0 (.int .i64 0) 1 8 Try.underlying49 hi hz0 hz1 hz2 rfl (by decide) _ _ _ (by simp [Act.eval]; rfl) (by exact hown.alloc _) ⟨wr.heap.size, 0, none⟩ 1 1 [.int .i64 (y % 65536)] (by simp [Act.eval]) rfl (cell_one_new _ _ _) hone.out hmx.out hmb.out ?_; intro v' w' ho' hg' hfr; rw [HC.out] at ho')
          have fin := app_fin (st3.alloc _) hg' hfr (fun g hg => ⟨hg3 g hg, Nat.le_of_lt (Nat.lt_of_le_of_lt st2.size (hg3 g hg))⟩) (by have := hout.lt _ rfl; simp; omega)
          go_roundw
          case rel => (repeat apply Exists.intro); exact ⟨⟨j + 1, by omega, by go_num, fin.1, ho', (hout.step ((Step.refl _ _).alloc _)).mono_grown hg' (fun k hk e => by rw [show k = wc.heap.size from hk] at e; exact absurd (hg3 _ e) (Nat.lt_irrefl _)), fin.2⟩, rfl⟩
          case measure => simp [intOf]; omega
        · have HN : Hid ((zs.take (j + 1)).map (nof 4) = (zs.take j).map (nof 4) ++ [y % 4294967296]) := by
            show _ = _
            rw [List.take_succ_eq_append_getElem hlt, hzz.out]
            simp [nof, HY.out]
          have HC : Hid (intsOf ((zs.take j).map (nof 4)) ++ [.int .i64 (y % 4294967296)] = intsOf ((zs.take (j + 1)).map (nof 4))) := by
            show _ = _
            rw [HN.out]
            simp [intsOf]
          have hone : Hid (∀ u ∈ [Value.int .i64 (y % 4294967296)], u.oneCell' = true) := by intro u hu; simp at hu; subst hu; rfl
          go_wp2_with (at_builtin; refine wpList_append_fresh rfl (.tmp 59) (.tmp 61) 49 rfl 3 i0 (.int .i64 0) 1 8 Try.underlying49 hi hz0 hz1 hz2 rfl (by decide) _ _ _ (by simp [Act.eval]; rfl) (by exact hown.alloc _) ⟨wr.heap.size, 0, none⟩ 1 1 [.int .i64 (y % 4294967296)] (by simp [Act.eval]) rfl (cell_one_new _ _ _) hone.out hmx.out hmb.out ?_; intro v' w' ho' hg' hfr; rw [HC.out] at ho')
          have fin := app_fin (st3.alloc _) hg' hfr (fun g hg => ⟨hg3 g hg, Nat.le_of_lt (Nat.lt_of_le_of_lt st2.size (hg3 g hg))⟩) (by have := hout.lt _ rfl; simp; omega)
          go_roundw
          case rel => (repeat apply Exists.intro); exact ⟨⟨j + 1, by omega, by go_num, fin.1, ho', (hout.step ((Step.refl _ _).alloc _)).mono_grown hg' (fun k hk e => by rw [show k = wc.heap.size from hk] at e; exact absurd (hg3 _ e) (Nat.lt_irrefl _)), fin.2⟩, rfl⟩
          case measure => simp [intOf]; omega
        · have HN : Hid ((zs.take (j + 1)).map (nof 8) = (zs.take j).map (nof 8) ++ [y]) := by
            show _ = _
            rw [List.take_succ_eq_append_getElem hlt, hzz.out]
            simp [nof, HY.out]
          have HC : Hid (intsOf ((zs.take j).map (nof 8)) ++ [.int .i64 (y)] = intsOf ((zs.take (j + 1)).map (nof 8))) := by
            show _ = _
            rw [HN.out]
            simp [intsOf]
          have hone : Hid (∀ u ∈ [Value.int .i64 (y)], u.oneCell' = true) := by intro u hu; simp at hu; subst hu; rfl
          go_wp2_with (at_builtin; refine wpList_append_fresh rfl (.tmp 59) (.tmp 61) 49 rfl 3 i0 (.int .i64 0) 1 8 Try.underlying49 hi hz0 hz1 hz2 rfl (by decide) _ _ _ (by simp [Act.eval]; rfl) (by exact hown.alloc _) ⟨wr.heap.size, 0, none⟩ 1 1 [.int .i64 (y)] (by simp [Act.eval]) rfl (cell_one_new _ _ _) hone.out hmx.out hmb.out ?_; intro v' w' ho' hg' hfr; rw [HC.out] at ho')
          have fin := app_fin (st3.alloc _) hg' hfr (fun g hg => ⟨hg3 g hg, Nat.le_of_lt (Nat.lt_of_le_of_lt st2.size (hg3 g hg))⟩) (by have := hout.lt _ rfl; simp; omega)
          go_roundw
          case rel => (repeat apply Exists.intro); exact ⟨⟨j + 1, by omega, by go_num, fin.1, ho', (hout.step ((Step.refl _ _).alloc _)).mono_grown hg' (fun k hk e => by rw [show k = wc.heap.size from hk] at e; exact absurd (hg3 _ e) (Nat.lt_irrefl _)), fin.2⟩, rfl⟩
          case measure => simp [intOf]; omega
      · obtain rfl : j = zs.length := by omega
        rw [List.take_length] at hown
        obtain ⟨ns, hns⟩ : ∃ ns, zs.map (nof k) = ns := ⟨_, rfl⟩
        rw [hns] at hown
        have nsl : zs.length = ns.length := by rw [← hns]; simp
        have nsr : Hid (∀ n ∈ ns, 0 ≤ n ∧ n < 256 ^ k ∧ n ≤ 9223372036854775807) := by
          intro n hn
          rw [← hns] at hn
          obtain ⟨z, _, rfl⟩ := List.mem_map.1 hn
          exact nof_range k hk z
        clear hns
        obtain ⟨ao, cc, rfl⟩ := owns_form hown
        rw [nsl] at hown h20 hlen hg3 ⊢
        have nsV : Hid ((if numV (k : Int) ns then (0 : Int) else 1) = 0) := by show _ = _; rw [if_pos (numV_all k hk ns nsr.out)]
        have nsB : Hid ([] ++ numB (k : Int) ns = ns.flatMap (fun z => be k z.toNat)) := by show _ = _; simp [numB, numV_all k hk ns nsr.out]
        have nsI : Hid (inI64 ns) := fun n hn => by have := nsr.out n hn; omega
        have hrow : Hid (RowAt wr (oneF wc.heap.size) ao (intsOf ns)) := rowAt_owns hown (by simp [intsOf]) (fun g hg h => by have := hg3 g hg; rw [show g = wc.heap.size from h] at this; omega)
        clear HZ
        go_wp2_with fail
        refine (num_call k ns ns.length rfl nsI.out (by omega) ao cc wc.heap.size (oneF wc.heap.size) [] _ hout (by simp) hrow.out _ nsB.out 0 nsV.out).mono ?_
        rintro e w4 ⟨rfl, F4, s4, o4, n4⟩
        have st4 : Step noF w w4 := st3.then s4 (fun q hq => .inr (by rw [show q = wc.heap.size from hq]; exact st2.size))
        have ow4 := owns_step hown s4 (fun g hg h => by have := hg3 g hg; rw [show g = wc.heap.size from h] at this; omega)
        have g4 : ∀ q, F4 q → w.heap.size ≤ q := fun q hq => by rcases n4 q hq with h | h; rw [show q = wc.heap.size from h]; exact st2.size; exact Nat.le_trans st3.size h
        have og : Hid (∀ g, Value.ownBlock (.slice ao ns.length cc) = some g → g < wr.heap.size ∧ g ≠ wc.heap.size) := fun g hg => ⟨(hown.lt g hg).2, fun e => by have := hg3 g hg; omega⟩
        have of4 : Hid (∀ g, Value.ownBlock (.slice ao ns.length cc) = some g → ¬ F4 g) := fun g hg h => by
          have h1 := og.out g hg
          rcases n4 g h with h2 | h2
          · exact h1.2 h2
          · omega
        have hw4 : Hid (w4.heap.size ≥ wr.heap.size) := s4.size
        clear hown hout hg3 hrow s4
        go_wp2
        go_loop [13] (fun i => ∃ j : Nat, j ≤ ts.length ∧ i = .int .i64 j ∧ Hid (∀ q (h : q < ts.length), q < j → ts[q].size ≤ 255)) (fun i => ts.length - (intOf i).toNat)
        case atStart => exact ⟨0, Nat.zero_le _, rfl, fun q h h2 => by omega⟩
        case round =>
          obtain ⟨j, hj, rfl, hall⟩ := hrel
          by_cases hlt2 : j < ts.length
          · obtain ⟨b, off, rfl, hc⟩ := HT.out.2.at j hlt2
            have hbl : b < w.heap.size := World.block_lt_of_cell? w _ hc
            have hc2 : w4.cell? ⟨b, off + j, none⟩ = some (.string ts[j]) := (st4.cell (p := ⟨b, off + j, none⟩) (fun h => h) hbl).trans hc
            have htm := HT.out.1 ts[j] (List.getElem_mem hlt2)
            unfold maxLen at htm
            clear hc
            by_cases hfb : ts[j].size ≤ 255
            · have hA : Hid (∀ q (h : q < ts.length), q < j + 1 → ts[q].size ≤ 255) := by
                intro q h h2
                by_cases e : q = j
                · subst e; exact hfb
                · exact hall.out q h (by omega)
              go_wp2
              go_round
              case rel => exact ⟨j + 1, by omega, by go_num, hA⟩
              case measure => simp [intOf]; omega
            · go_wp2
              go_ret
              exact ⟨rfl, st4⟩
          · have hall2 : Hid (∀ t ∈ ts, t.size ≤ 255) := by
              intro z hz
              obtain ⟨q, h, rfl⟩ := List.getElem_of_mem hz
              exact hall.out q h (by omega)
            have tsV : Hid (textV ts = true) := by show _ = _; unfold textV; rw [List.all_eq_true]; intro z hz; simpa using hall2.out z hz
            have hrow2 : Hid (RowAt w4 F4 a2 (strsOf ts)) := rowAt_step HT.out.2 st4 (fun b hb h => by have := g4 b h; omega)
            have tsm : Hid (∀ t ∈ ts, t.size ≤ maxLen) := HT.out.1
            obtain ⟨B1, hB1⟩ : ∃ B1, ns.flatMap (fun z => be k z.toNat) = B1 := ⟨_, rfl⟩
            rw [hB1] at o4
            have HB1 := hid hB1
            have lB1 : Hid (B1.length ≤ 160) := by
              show _ ≤ _
              rw [← hB1, flat_len]
              have : ns.length * k ≤ 20 * 8 := Nat.mul_le_mul (by omega) (by omega)
              omega
            clear hB1 hall
            have tB : Hid (B1 ++ textB ts = B1 ++ ts.flatMap txt) := by show _ = _; rw [textB, tsV.out]; rfl
            have lT : Hid ((ts.flatMap txt).length ≤ 256000) := by show _ ≤ _; have h := flat_txt_le ts ts.length (by omega) hall2.out; rwa [List.take_length] at h
            go_wp2_with fail
            refine (text_call ts ts.length rfl (by omega) tsm.out a2 cap2 wc.heap.size F4 B1 _ o4 (by have := lB1.out; omega) hrow2.out _ tB.out 0 (by rw [tsV.out]; rfl)).mono ?_
            rintro e w5 ⟨rfl, F5, s5, o5, n5⟩
            have st5 : Step noF w w5 := st4.then s5 (fun q hq => .inr (g4 q hq))
            have ow5 := owns_step ow4 s5 of4.out
            have s5z := hid s5.size
            clear s5 ow4
            go_wp2_with (first | (go_at_call 12; refine (bytes_str2 _ F5 _ _ o5).mono ?_; rintro e w6 ⟨rfl, rfl⟩) | (go_at_call 14; refine (of_any (B1 ++ ts.flatMap txt) _).mono ?_; rintro e w6 ⟨rfl, s6, i6, z6⟩; clear z6))
            have st6 : Step noF w w6 := st5.trans s6
            have ow6 := owns_step ow5 s6 (fun g hg h => h)
            clear ow5 o5 hrow2 tB
            have hq : Hid (w.heap.size ≤ w5.heap.size) := st5.size
            have og5 : Hid (∀ g, Value.ownBlock (.slice ao ns.length cc) = some g → g < w5.heap.size) := fun g hg => by have := (og.out g hg).1; have := hw4.out; have := s5z.out; omega
            go_loopw [15] (fun i wq => ∃ (j : Nat) (L : List UInt8), j ≤ ns.length ∧ i = .int .i64 j ∧ L = (ns.drop j).flatMap (fun z => be k z.toNat) ++ ts.flatMap txt ∧ L.length ≤ 300000 ∧ Step noF w wq ∧ IsIn wq w5.heap.size L 0 ∧ wq.ownsRow 0 3 1 (.slice ao ns.length cc) ns.length (intsOf ns)) (fun i _ => ns.length - (intOf i).toNat)
            case atStart => exact ⟨0, _, Nat.zero_le _, rfl, by rw [List.drop_zero, HB1.out], by have := lB1.out; have := lT.out; rw [List.length_append]; omega, st6, i6, ow6⟩
            case round =>
              obtain ⟨j3, L, hj3, rfl, hL, lL, st7, i7, ow7⟩ := hrel
              by_cases hlt3 : j3 < ns.length
              · obtain ⟨g, hao, hc3, hgb⟩ := owns_cell ow7 j3 (by simpa [intsOf] using hlt3) (by simp [intsOf])
                subst hao
                have hnr := nsr.out ns[j3] (List.getElem_mem hlt3)
                obtain ⟨m, hm⟩ := Int.eq_ofNat_of_zero_le hnr.1
                have hc4 : wr.cell? ⟨g, j3, none⟩ = some (.int .i64 (m : Int)) := by rw [hc3]; simp only [intsOf, List.getElem?_map, List.getElem?_eq_getElem hlt3, Option.map_some, hm]
                have hLs : Hid (L = be k m ++ ((ns.drop (j3 + 1)).flatMap (fun z => be k z.toNat) ++ ts.flatMap txt)) := by
                  show _ = _
                  rw [hL, List.drop_eq_getElem_cons hlt3, List.flatMap_cons, hm]
                  simp
                have hml : m < 256 ^ k := by have h := hnr.2.1; rw [hm] at h; exact_mod_cast h
                have hm63 : m ≤ 9223372036854775807 := by have h := hnr.2.2; rw [hm] at h; omega
                have hnum := hid (num_app k hk m hml hm63 ((ns.drop (j3 + 1)).flatMap (fun z => be k z.toNat) ++ ts.flatMap txt) 0)
                have lR : Hid (((ns.drop (j3 + 1)).flatMap (fun z => be k z.toNat) ++ ts.flatMap txt).length ≤ 300000) := by
                  show _ ≤ _
                  have h := lL
                  rw [hLs.out, List.length_append] at h
                  omega
                have i7' : Hid (IsIn wr w5.heap.size (be k m ++ ((ns.drop (j3 + 1)).flatMap (fun z => be k z.toNat) ++ ts.flatMap txt)) 0) := by rw [← hLs.out]; exact i7
                have lL' : Hid ((be k m ++ ((ns.drop (j3 + 1)).flatMap (fun z => be k z.toNat) ++ ts.flatMap txt)).length ≤ maxLen) := by rw [← hLs.out]; exact le_max (by omega)
                obtain ⟨R, hR⟩ : ∃ R, (ns.drop (j3 + 1)).flatMap (fun z => be k z.toNat) ++ ts.flatMap txt = R := ⟨_, rfl⟩
                rw [hR] at hnum lR i7' lL'
                have HR := hid hR
                clear hR hc3 hm hnr hL i7 hml hLs lL
                have hgw : Hid (g < w5.heap.size) := og5.out g rfl
                go_wp2_with fail
                go_region_held (fun w' => w'.cell? ⟨g, j3, none⟩ = some (.int .i64 (m : Int))) (first | assumption | go_keep)
                  (first | (go_at_call 15; refine (inNum_call k _ _ 0 _ (by exact i7'.out) lL'.out m R 0 hnum.out.1 hnum.out.2.1 hnum.out.2.2).mono ?_; rintro e w8 ⟨rfl, s8, i8⟩; have hc5 := (s8.cell (p := ⟨g, j3, none⟩) (fun h => by have := hgw.out; rw [show g = w5.heap.size from h] at this; omega) (World.block_lt_of_cell? _ _ (by exact hc4))).trans (by exact hc4)))
                go_wp2
                go_roundw
                case rel => exact ⟨j3 + 1, R, by omega, by go_num, HR.out.symm, lR.out, (st7.drew).then s8 (fun q hq2 => .inr (by rw [show q = w5.heap.size from hq2]; exact hq.out)), i8, owns_step (owns_step ow7 ((Step.refl noF _).drew) (fun g hg h => h)) s8 (fun g hg h => by have := og5.out g hg; rw [show g = w5.heap.size from h] at this; omega)⟩
                case measure => simp [intOf]; omega
              · obtain rfl : j3 = ns.length := by omega
                rw [List.drop_length] at hL
                simp at hL
                subst hL
                go_wp2
                clear i6 ow6 st6
                go_loopw [16] (fun i wq => ∃ (j : Nat) (L : List UInt8), j ≤ ts.length ∧ i = .int .i64 j ∧ L = (ts.drop j).flatMap txt ∧ L.length ≤ 300000 ∧ Step noF w wq ∧ IsIn wq w5.heap.size L 0 ∧ wq.ownsRow 0 3 1 (.slice ao ns.length cc) ns.length (intsOf ns)) (fun i _ => ts.length - (intOf i).toNat)
                case atStart => exact ⟨0, _, Nat.zero_le _, rfl, by rw [List.drop_zero], lL, st7, i7, ow7⟩
                case round =>
                  clear i7 ow7 st7 lL
                  obtain ⟨j4, L, hj4, rfl, hL, lL, st7, i7, ow7⟩ := hrel
                  by_cases hlt4 : j4 < ts.length
                  · obtain ⟨b, off, rfl, hc⟩ := HT.out.2.at j4 hlt4
                    have hbl : b < w.heap.size := World.block_lt_of_cell? w _ hc
                    have hc4 : wr.cell? ⟨b, off + j4, none⟩ = some (.string ts[j4]) := (st7.cell (p := ⟨b, off + j4, none⟩) (fun h => h) hbl).trans hc
                    have hts := hall2.out ts[j4] (List.getElem_mem hlt4)
                    have hLs : Hid (L = txt ts[j4] ++ (ts.drop (j4 + 1)).flatMap txt) := by
                      show _ = _
                      rw [hL, List.drop_eq_getElem_cons hlt4, List.flatMap_cons]
                    have hnum := hid (text_app ts[j4] hts ((ts.drop (j4 + 1)).flatMap txt) 0)
                    have lR : Hid (((ts.drop (j4 + 1)).flatMap txt).length ≤ 300000) := by
                      show _ ≤ _
                      have h := lL
                      rw [hLs.out, List.length_append] at h
                      omega
                    have i7' : Hid (IsIn wr w5.heap.size (txt ts[j4] ++ (ts.drop (j4 + 1)).flatMap txt) 0) := by rw [← hLs.out]; exact i7
                    have lL' : Hid ((txt ts[j4] ++ (ts.drop (j4 + 1)).flatMap txt).length ≤ maxLen) := by rw [← hLs.out]; exact le_max (by omega)
                    obtain ⟨R, hR⟩ : ∃ R, (ts.drop (j4 + 1)).flatMap txt = R := ⟨_, rfl⟩
                    rw [hR] at hnum lR i7' lL'
                    have HR := hid hR
                    have hst' : Hid (str (textVal 255 (txt ts[j4] ++ R)) = ts[j4]) := by show _ = _; rw [hnum.out.1]; exact (str_of _).symm
                    clear hR hc hL i7 hLs lL
                    generalize ts[j4] = t at *
                    go_wp2_with fail
                    go_region_held (fun w' => w'.cell? ⟨b, off + j4, none⟩ = some (.string t)) (first | assumption | go_keep)
                      (first | (go_at_call 17; refine (inText_call 255 _ _ 0 _ (by exact i7'.out) lL'.out t R 0 hst'.out hnum.out.2.1 hnum.out.2.2).mono ?_; rintro e w8 ⟨rfl, s8, i8⟩; have hc5 := (s8.cell (p := ⟨b, off + j4, none⟩) (fun h => by have := hq.out; rw [show b = w5.heap.size from h] at hbl; omega) (World.block_lt_of_cell? _ _ (by exact hc4))).trans (by exact hc4)))
                    go_wp2
                    go_roundw
                    case rel => exact ⟨j4 + 1, R, by omega, by go_num, HR.out.symm, lR.out, (st7.drew).then s8 (fun q hq2 => .inr (by rw [show q = w5.heap.size from hq2]; exact hq.out)), i8, owns_step (owns_step ow7 ((Step.refl noF _).drew) (fun g hg h => h)) s8 (fun g hg h => by have := og5.out g hg; rw [show g = w5.heap.size from h] at this; omega)⟩
                    case measure => simp [intOf]; omega
                  · obtain rfl : j4 = ts.length := by omega
                    rw [List.drop_length] at hL
                    simp at hL
                    subst hL
                    go_wp2_with (go_at_call 23; refine (end_call _ _ _ _ i7 0 rfl).mono ?_; rintro e w9 ⟨rfl, rfl⟩)
                    go_loopw [17] (fun i wq => ∃ j : Nat, 1 ≤ j ∧ i = .int .i64 j ∧ Step noF w wq ∧ wq.ownsRow 0 3 1 (.slice ao ns.length cc) ns.length (intsOf ns)) (fun i _ => ns.length - (intOf i).toNat)
                    case atStart => exact ⟨1, Nat.le_refl _, rfl, st7, ow7⟩
                    case round =>
                      clear ow7 st7 i7 lL
                      obtain ⟨j5, hj5, rfl, st7, ow7⟩ := hrel
                      by_cases hlt5 : j5 < ns.length
                      · obtain ⟨g, hao, hcA, hgb⟩ := owns_cell ow7 (j5 - 1) (by simp [intsOf]; omega) (by simp [intsOf])
                        obtain ⟨g', hao', hcB, _⟩ := owns_cell ow7 j5 (by simp [intsOf]; omega) (by simp [intsOf])
                        have hgg : g' = g := by rw [hao] at hao'; injection hao' with h; injection h with h; exact h.symm
                        subst hgg
                        subst hao
                        clear hao'
                        have hl1 : j5 - 1 < ns.length := by omega
                        obtain ⟨r1, r2, r3⟩ := nsr.out ns[j5 - 1] (List.getElem_mem hl1)
                        obtain ⟨q1, q2, q3⟩ := nsr.out ns[j5] (List.getElem_mem hlt5)
                        obtain ⟨m1, hm1⟩ := Int.eq_ofNat_of_zero_le r1
                        obtain ⟨m2, hm2⟩ := Int.eq_ofNat_of_zero_le q1
                        have cA : wr.cell? ⟨g', j5 - 1, none⟩ = some (.int .i64 (m1 : Int)) := by rw [hcA]; simp only [intsOf, List.getElem?_map, List.getElem?_eq_getElem hl1, Option.map_some, hm1]
                        have cB : wr.cell? ⟨g', j5, none⟩ = some (.int .i64 (m2 : Int)) := by rw [hcB]; simp only [intsOf, List.getElem?_map, List.getElem?_eq_getElem hlt5, Option.map_some, hm2]
                        have f1 : m1 < 256 ^ k := by rw [hm1] at r2; exact_mod_cast r2
                        have f2 : m2 < 256 ^ k := by rw [hm2] at q2; exact_mod_cast q2
                        have p1 : m1 ≤ 9223372036854775807 := by rw [hm1] at r3; omega
                        have p2 : m2 ≤ 9223372036854775807 := by rw [hm2] at q3; omega
                        have hless : Hid (Op.bytesLess (str (be k m1)).toList (str (be k m2)).toList = decide ((m1 : Int) < (m2 : Int))) := by
                          show _ = _
                          rw [ByteArray.toList_eq, ByteArray.toList_eq, str_list, str_list, bytesLess_be k m1 m2 f1 f2]
                          simp
                        have V1 : Hid ((if numV (k : Int) [(m1 : Int)] then (0 : Int) else 1) = 0) := by show _ = _; rw [if_pos (numV_all k hk _ (by intro n hn; simp at hn; subst hn; rw [hm1] at r1 r2 r3; exact ⟨r1, r2, r3⟩))]
                        have V2 : Hid ((if numV (k : Int) [(m2 : Int)] then (0 : Int) else 1) = 0) := by show _ = _; rw [if_pos (numV_all k hk _ (by intro n hn; simp at hn; subst hn; rw [hm2] at q1 q2 q3; exact ⟨q1, q2, q3⟩))]
                        have B1' : Hid ([] ++ numB (k : Int) [(m1 : Int)] = be k m1) := by show _ = _; simp [numB, numV_all k hk [(m1 : Int)] (by intro n hn; simp at hn; subst hn; rw [hm1] at r1 r2 r3; exact ⟨r1, r2, r3⟩)]
                        have B2' : Hid ([] ++ numB (k : Int) [(m2 : Int)] = be k m2) := by show _ = _; simp [numB, numV_all k hk [(m2 : Int)] (by intro n hn; simp at hn; subst hn; rw [hm2] at q1 q2 q3; exact ⟨q1, q2, q3⟩)]
                        have I1 : Hid (inI64 [(m1 : Int)]) := by intro n hn; simp at hn; subst hn; omega
                        have I2 : Hid (inI64 [(m2 : Int)]) := by intro n hn; simp at hn; subst hn; omega
                        clear hcA hcB hm1 hm2 r1 r2 r3 q1 q2 q3 f1 f2
                        have hgl : g' < wr.heap.size := World.block_lt_of_cell? wr _ cA
                        have ei : ((j5 : Int) - 1).toNat = j5 - 1 := by omega
                        have hj5i : (1 : Int) ≤ (j5 : Int) := by omega
                        have oA : Hid (IsOut ((wr.alloc (.cells #[.slice none 0 0] 27)).alloc (.cells #[.slice none 0 0] 27)) wr.heap.size (oneF wr.heap.size) []) := (newOut wr).step ((Step.refl _ _).alloc _)
                        have oB : Hid (IsOut ((wr.alloc (.cells #[.slice none 0 0] 27)).alloc (.cells #[.slice none 0 0] 27)) (wr.heap.size + 1) (oneF (wr.heap.size + 1)) []) := by have h := newOut (wr.alloc (.cells #[.slice none 0 0] 27)); simp at h; exact hid h
                        go_wp2_with fail
                        refine (num_call k [(m1 : Int)] 1 rfl I1.out (by simp) _ 1 wr.heap.size (oneF wr.heap.size) [] _ (oA.out.step ((Step.refl _ _).alloc _)) (by simp) (rowAt_new _ _ oA.out.lt _ _ _ (by simp) _ rfl) _ B1'.out 0 V1.out).mono ?_
                        rintro e wA ⟨rfl, FA, sA, oA1, nA⟩
                        have dA := ((((Step.refl noF wr).alloc _).alloc _).alloc _).keep sA cA (fun h => by rw [show g' = wr.heap.size from h] at hgl; omega)
                        have dB := ((((Step.refl noF wr).alloc _).alloc _).alloc _).keep sA cB (fun h => by rw [show g' = wr.heap.size from h] at hgl; omega)
                        have zA : wr.heap.size + 3 ≤ wA.heap.size := by have := sA.size; simpa using this
                        have oB1 := (oB.out.step ((Step.refl _ _).alloc _)).mono sA (fun q hq h => by rw [show q = wr.heap.size + 1 from hq] at h; have : wr.heap.size + 1 = wr.heap.size := h; omega)
                        go_wp2_with fail
                        refine (num_call k [(m2 : Int)] 1 rfl I2.out (by simp) _ 1 (wr.heap.size + 1) (oneF (wr.heap.size + 1)) [] _ (oB1.step ((Step.refl _ _).alloc _)) (by simp) (rowAt_new _ _ oB1.lt _ _ _ rfl _ rfl) _ B2'.out 0 V2.out).mono ?_
                        rintro e wB ⟨rfl, FB, sB, oB2, nB⟩
                        have eA := ((Step.refl noF wA).alloc _).keep sB dA (fun h => by rw [show g' = wr.heap.size + 1 from h] at hgl; omega)
                        have eB := ((Step.refl noF wA).alloc _).keep sB dB (fun h => by rw [show g' = wr.heap.size + 1 from h] at hgl; omega)
                        have oA2 := (oA1.step ((Step.refl _ _).alloc _)).mono sB (fun q hq h => by rw [show q = wr.heap.size + 1 from h] at hq; rcases nA _ hq with x | x; have : wr.heap.size + 1 = wr.heap.size := x; omega; simp at x; omega)
                        have stB : Step noF w wB := ((((st7.alloc _).alloc _).alloc _).then sA (fun q hq => .inr (by rw [show q = wr.heap.size from hq]; exact st7.size)) |>.alloc _).then sB (fun q hq => .inr (by rw [show q = wr.heap.size + 1 from hq]; have := st7.size; omega))
                        have owB := owns_step (owns_step (owns_step ow7 ((((Step.refl noF wr).alloc _).alloc _).alloc _) (fun g hg h => h)) sA (fun g hg h => by have := (ow7.lt g hg).2; rw [show g = wr.heap.size from h] at this; omega) |> fun h => owns_step h ((Step.refl noF wA).alloc _) (fun g hg h => h)) sB (fun g hg h => by have := (ow7.lt g hg).2; rw [show g = wr.heap.size + 1 from h] at this; omega)
                        have hlen1 := be_length k m1
                        have hless' := hless.out
                        have hwr1 : IntKind.i64.wrap ((j5 : Int) - 1) = (j5 : Int) - 1 := by rw [IntKind.wrap_i64]; omega
                        have hwr2 : wrap64 ((j5 : Int) - 1) = (j5 : Int) - 1 := by unfold wrap64; omega
                        have hi1 : (0 : Int) ≤ (j5 : Int) - 1 := by omega
                        have hi2 : (j5 : Int) - 1 < (ns.length : Int) := by omega
                        have hi3 : (j5 : Int) < (ns.length : Int) := by omega
                        clear dA dB cA cB
                        go_wp2_with fail
                        go_region_held (fun w' => w'.cell? ⟨g', j5 - 1, none⟩ = some (.int .i64 (m1 : Int)) ∧ w'.cell? ⟨g', j5, none⟩ = some (.int .i64 (m2 : Int))) (first | assumption | (exact ⟨eA, eB⟩) | go_keep)
                          (first | (go_at_call 12; refine (bytes_ab _ wr.heap.size (wr.heap.size + 1) FA FB (be k m1) (be k m2) _ ?_ ?_ ?_).mono ?_; (first | exact .inl rfl | exact .inr rfl); exact oA2.drew; exact oB2.drew; rintro e w9 ⟨rfl, rfl⟩) | (go_at_call 13; refine (len_call wr.heap.size FA (be k m1) _ ?_ k ?_).mono ?_; exact oA2.drew; rw [hlen1]; rintro e w9 ⟨rfl, rfl⟩))
                        go_wp2
                        go_roundw
                        case rel => exact ⟨j5 + 1, by omega, by go_num, stB.drew, owns_step owB ((Step.refl noF _).drew) (fun g hg h => h)⟩
                        case measure => simp [intOf]; omega
                      · go_wp2
                        go_ret
                        exact ⟨rfl, st7⟩
end Go.Proofs.Ytfenclojhhfhbaa
