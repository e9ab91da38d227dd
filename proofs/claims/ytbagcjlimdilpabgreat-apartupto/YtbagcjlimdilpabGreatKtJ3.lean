/- Texts that follow one another, joined. -/
import Derived.Test.YtbagcjlimdilpabGreatKtRefA
import Derived.Test.YtbagcjlimdilpabGreatKtJ2
import Derived.Test.YtbagcjlimdilpabGreatKtJ0
/- The walk of the document's 'walk': all objects, and the places of wrong headers. -/
namespace Go.Proofs.YtbagcjlimdilpabGreat
open Go.RowKit

theorem Tryz.info3 : (Tryz.prog.info? 3).map (fun i => (i.zero, i.size, i.bytes)) = some (some (.int .i64 0), 1, 8) := by kernel_rfl

def obCells (o : Ob) : List Value := [.int .i64 o.block, .int .i64 o.span, .int .i64 o.ptrs]
def obsCells (l : List Ob) : List Value := l.flatMap obCells
theorem obsCells_snoc (l : List Ob) (o : Ob) : obsCells (l ++ [o]) = obsCells l ++ obCells o := by simp [obsCells]
/-- the list v is the numbers l, in a row of its own -/
abbrev OwnN (base : Nat) (w : World) (v : Value) (l : List Nat) : Prop := w.ownsRow base 3 1 v l.length (l.map fun (x : Nat) => Value.int .i64 (x : Int))

theorem new_at (w : World) (o : Obj) (n : Nat) (hn : w.heap.size = n) : (w.alloc o).heap[n]? = some o := by subst hn; exact Go.Deep.blk_alloc_new w o
theorem obCells_one (o : Ob) : ∀ u ∈ obCells o, u.oneCell' = true := by
  intro u hu
  simp only [obCells, List.mem_cons, List.not_mem_nil, or_false] at hu
  rcases hu with rfl | rfl | rfl <;> rfl

theorem x_kept {wr w1 w2 : World} {B : Nat} {e : TypeId} {sz : Nat} {v : Value} {n : Nat} {xs : List Value} (h : wr.ownsRow B e sz v n xs) (hf : Fr New wr w1) {o1 o2 : Obj} (hg : ((w1.alloc o1).alloc o2).grownBy w2 v.ownBlock) : w2.heap[w1.heap.size]? = some o1 := by
  rw [hg.block w1.heap.size (by simp; omega) (fun hh => by have := (h.lt _ hh.symm).2; have := hf.size; omega), Go.Deep.blk_alloc_lt _ _ _ (by simp)]
  exact Go.Deep.blk_alloc_new w1 o1

end Go.Proofs.YtbagcjlimdilpabGreat

/- Walks of the document's find, place and reached. -/
namespace Go.Proofs.YtbagcjlimdilpabGreat
open Go.RowKit

theorem obsCells_get (l : List Ob) (i j : Nat) (hi : i < l.length) (hj : j < 3) : (obsCells l)[i * 3 + j]? = (obCells l[i])[j]? := by
  induction l generalizing i with
  | nil => simp at hi
  | cons e r ih =>
    simp only [obsCells, List.flatMap_cons]
    cases i with
    | zero => rw [List.getElem?_append_left (by simp [obCells]; omega)]; simp
    | succ i =>
      rw [List.getElem?_append_right (by simp [obCells]; omega)]
      have := ih i (by simpa using hi)
      rw [show (i + 1) * 3 + j - (obCells e).length = i * 3 + j by simp [obCells]; omega]
      exact this

/-- a list of objects, as it lies -/
def LiesO (w : World) (v : Value) (l : List Ob) : Prop := ∃ a cap, v = .slice a l.length cap ∧ l.length ≤ 1048576 ∧ (∀ o ∈ l, o.block ≤ 1048576 ∧ o.span ≤ 4 ∧ o.ptrs < 32) ∧
  (0 < l.length → ∃ g, a = some ⟨g, 0, none⟩ ∧ g < w.heap.size ∧ ∀ i (hi : i < l.length), w.cell? ⟨g, i * 3, none⟩ = some (.int .i64 (l[i]).block) ∧ w.cell? ⟨g, i * 3 + 1, none⟩ = some (.int .i64 (l[i]).span) ∧ w.cell? ⟨g, i * 3 + 2, none⟩ = some (.int .i64 (l[i]).ptrs))
theorem LiesO.fr {T : Nat → Prop} {w w' : World} {v : Value} {l : List Ob} (h : LiesO w v l) (hf : Fr T w w') (hn : ∀ g, v.ownBlock = some g → ¬ T g) : LiesO w' v l := by
  obtain ⟨a, c, rfl, hl, hb, hc⟩ := h
  refine ⟨a, c, rfl, hl, hb, fun hp => ?_⟩
  obtain ⟨g, rfl, hg, hcc⟩ := hc hp
  refine ⟨g, rfl, Nat.lt_of_lt_of_le hg hf.size, fun i hi => ?_⟩
  obtain ⟨h1, h2, h3⟩ := hcc i hi
  exact ⟨hf.cell h1 (hn g rfl), hf.cell h2 (hn g rfl), hf.cell h3 (hn g rfl)⟩

end Go.Proofs.YtbagcjlimdilpabGreat

/- Walks of the program's small functions: words through the interface, shapes, places, heads. -/
namespace Go.Proofs.YtbagcjlimdilpabGreat
open Go.RowKit

/-- words as the program hands them on -/
abbrev rowV (a : Option Addr) (n c : Nat) : Value := .iface 61 (.slice a n c)
theorem meth_len (a : Option Addr) (n c : Nat) (w : World) : (method 290 61 (.slice a n c) "Len").run Tryz.prog w = .ok (136, .slice a n c) w := by kernel_rfl
theorem meth_read (a : Option Addr) (n c : Nat) (w : World) : (method 290 61 (.slice a n c) "Read").run Tryz.prog w = .ok (137, .slice a n c) w := by kernel_rfl
theorem meth_put (a : Option Addr) (n c : Nat) (w : World) : (method 290 61 (.slice a n c) "Put").run Tryz.prog w = .ok (85, .slice a n c) w := by kernel_rfl
theorem ahead_read (a : Option Addr) (n c : Nat) (w : World) : (nilAhead 290 61 (.slice a n c) "Read").run Tryz.prog w = .ok (some false) w := by kernel_rfl
theorem ahead_put (a : Option Addr) (n c : Nat) (w : World) : (nilAhead 290 61 (.slice a n c) "Put").run Tryz.prog w = .ok (some false) w := by kernel_rfl

theorem klen_any (a : Option Addr) (n c : Nat) (w : World) :
    Calls Tryz.prog 136 #[.slice a n c] w fun e w' => e = .returned (.int .i64 n) ∧ w' = w := by
  go_enter Tryz.func136, Tryz.ntmps136
  go_wp2
  go_ret
  exact ⟨rfl, rfl⟩
theorem kread_any (sb so n c i : Nat) (x : Int) (w : World) (hi : i < n) (hc : w.cell? ⟨sb, so + i, none⟩ = some (.int .u64 x)) :
    Calls Tryz.prog 137 #[.slice (some ⟨sb, so, none⟩) n c, .int .i64 i] w fun e w' => e = .returned (.int .u64 x) ∧ w' = w := by
  go_enter Tryz.func137, Tryz.ntmps137
  go_wp2
  go_ret
  exact ⟨rfl, rfl⟩
theorem kput_any (g n c i : Nat) (x y : Int) (w : World) (hi : i < n) (hc : w.cell? ⟨g, i, none⟩ = some (.int .u64 x)) (hz : w.frozen? ⟨g, i, none⟩ = false) :
    Calls Tryz.prog 85 #[.slice (some ⟨g, 0, none⟩) n c, .int .i64 i, .int .u64 y] w fun e w' => e = .returned (.tuple #[]) ∧ w' = w.setCell ⟨g, i, none⟩ (.int .u64 y) := by
  go_enter Tryz.func85, Tryz.ntmps85
  go_wp2
  go_end0
  exact ⟨rfl, rfl⟩

/-- words behind the interface, while nothing but new blocks has come since w: how its methods are found, and what they answer -/
structure RowAt (w : World) (t : Nat) (x : Value) (fL fR : Nat) (y : Value) (ws : List Int) : Prop where
  mlen : ∀ w', Fr New w w' → (method 290 t x "Len").run Tryz.prog w' = .ok (fL, y) w'
  mread : ∀ w', Fr New w w' → (method 290 t x "Read").run Tryz.prog w' = .ok (fR, y) w'
  aread : ∀ w', (nilAhead 290 t x "Read").run Tryz.prog w' = .ok (some false) w'
  clen : ∀ a w', (callFunc fL a).run Tryz.prog w' = .ok (.enter fL a) w'
  cread : ∀ a w', (callFunc fR a).run Tryz.prog w' = .ok (.enter fR a) w'
  len : ∀ w', Fr New w w' → Calls Tryz.prog fL #[y] w' fun e w'' => e = .returned (.int .i64 ws.length) ∧ w'' = w'
  read : ∀ w', Fr New w w' → ∀ i, i < ws.length → Calls Tryz.prog fR #[y, .int .i64 (i : Nat)] w' fun e w'' => e = .returned (.int .u64 (wd ws i)) ∧ w'' = w'
theorem RowAt.grow {w w1 : World} {t : Nat} {x : Value} {fL fR : Nat} {y : Value} {ws : List Int} (h : RowAt w t x fL fR y ws) (hf : Fr New w w1) : RowAt w1 t x fL fR y ws :=
  ⟨fun w' h' => h.mlen w' (hf.same h'), fun w' h' => h.mread w' (hf.same h'), h.aread, h.clen, h.cread, fun w' h' => h.len w' (hf.same h'), fun w' h' => h.read w' (hf.same h')⟩
theorem call_klen (a : Array Value) (w : World) : (callFunc 136 a).run Tryz.prog w = .ok (.enter 136 a) w := by kernel_rfl
theorem call_kread (a : Array Value) (w : World) : (callFunc 137 a).run Tryz.prog w = .ok (.enter 137 a) w := by kernel_rfl
theorem kept_row {sb so L c : Nat} {ws : List Int} {w : World} (hL : ws.length = L) (hcw : ∀ i, i < L → w.cell? ⟨sb, so + i, none⟩ = some (.int .u64 (wd ws i))) :
    RowAt w 61 (.slice (some ⟨sb, so, none⟩) L c) 136 137 (.slice (some ⟨sb, so, none⟩) L c) ws :=
  ⟨fun w' _ => meth_len _ _ _ w', fun w' _ => meth_read _ _ _ w', fun w' => ahead_read _ _ _ w', call_klen, call_kread, fun w' _ => by rw [hL]; exact klen_any _ _ _ w', fun w' hf i hi => kread_any sb so L c i _ w' (by omega) (hf.cell (hcw i (by omega)) id)⟩

theorem place_of (b : Nat) (w : World) (hb : b ≤ 1048576) :
    Calls Tryz.prog 69 #[.int .i64 ((b + 1 : Nat) : Int)] w fun e w' => e = .returned (.int .i64 ((106 + 8 * b : Nat) : Int)) ∧ w' = w := by
  go_enter Tryz.func69, Tryz.ntmps69
  go_wp2
  go_ret
  exact ⟨ret_i (by omega), rfl⟩
theorem lblocks_any (L : Nat) (w : World) (h : 106 ≤ L) (hL : L ≤ 1048576) :
    Calls Tryz.prog 49 #[.int .i64 L] w fun e w' => e = .returned (.int .i64 (((L - 106) / 8 : Nat) : Int)) ∧ w' = w := by
  go_enter Tryz.func49, Tryz.ntmps49
  go_wp2
  go_ret
  exact ⟨ret_i (by first | omega | (rw [Int.tdiv_eq_ediv_of_nonneg (by omega)]; omega)), rfl⟩
end Go.Proofs.YtbagcjlimdilpabGreat

/- Walks of the program's Shaped, Logged, ParseHeader, HeadOf, wrongHead. -/
namespace Go.Proofs.YtbagcjlimdilpabGreat
open Go.RowKit

theorem lblocks_low (L : Nat) (w : World) (h : L < 106) :
    Calls Tryz.prog 49 #[.int .i64 L] w fun e w' => ∃ v : Int, v ≤ 0 ∧ e = .returned (.int .i64 v) ∧ w' = w := by
  go_enter Tryz.func49, Tryz.ntmps49
  go_wp2
  go_ret
  refine ⟨_, ?_, rfl, rfl⟩
  rw [show (L : Int) - 106 = -((106 : Int) - L) by omega, Int.neg_tdiv, Int.tdiv_eq_ediv_of_nonneg (by omega)]
  omega
theorem shaped_yes (L : Nat) (w : World) (h : nblk L ≠ 0) :
    Calls Tryz.prog 24 #[.int .i64 L] w fun e w' => e = .returned (.bool true) ∧ w' = w := by
  obtain ⟨h1, h2, h3⟩ := nblk_some h
  obtain ⟨n, hn⟩ : ∃ n, n = nblk L := ⟨_, rfl⟩
  rw [← hn] at h1 h2 h3
  clear h hn
  subst h1
  have HB : Hid (Calls Tryz.prog 49 #[.int .i64 ((106 + 8 * n : Nat) : Int)] w fun e w' => e = .returned (.int .i64 (n : Int)) ∧ w' = w) := by
    have := lblocks_any (106 + 8 * n) w (by omega) (by omega)
    rwa [show (106 + 8 * n - 106) / 8 = n by omega] at this
  have hde : (106 + 8 * (n : Int) == ((106 + 8 * n : Nat) : Int)) = true := by simp
  go_enter Tryz.func24, Tryz.ntmps24
  go_wp2_with (first
    | (go_at_call 49; refine calls_same HB.out ?_)
    | (go_at_call 35; refine calls_same (fits_true n w (by omega) (by omega)) ?_)
    | (go_at_call 36; refine calls_same (length_any n w h3) ?_))
  go_ret
  exact ⟨rfl, rfl⟩
theorem shaped_no (L : Nat) (w : World) (hL : L ≤ 1048576) (h : nblk L = 0) :
    Calls Tryz.prog 24 #[.int .i64 L] w fun e w' => e = .returned (.bool false) ∧ w' = w := by
  by_cases hlo : L < 106
  · go_enter Tryz.func24, Tryz.ntmps24
    go_wp2_with (first
      | (go_at_call 49; refine (lblocks_low L w hlo).mono ?_; rintro e w' ⟨v, hv, rfl, rfl⟩)
      | (go_at_call 35; refine calls_same (fits_false _ _ (by omega)) ?_))
    go_ret
    exact ⟨rfl, rfl⟩
  · obtain ⟨v, hv⟩ : ∃ v, v = (L - 106) / 8 := ⟨_, rfl⟩
    have HB : Hid (Calls Tryz.prog 49 #[.int .i64 (L : Int)] w fun e w' => e = .returned (.int .i64 (v : Int)) ∧ w' = w) := by
      have := lblocks_any L w (by omega) hL
      rwa [← hv] at this
    by_cases hf : 1 ≤ v ∧ v ≤ 32
    · have hne : L ≠ 106 + 8 * v := nblk_none h v hf.1 hf.2
      have hde : (106 + 8 * (v : Int) == (L : Int)) = false := by simp; omega
      clear hv
      go_enter Tryz.func24, Tryz.ntmps24
      go_wp2_with (first
        | (go_at_call 49; refine calls_same HB.out ?_)
        | (go_at_call 35; refine calls_same (fits_true v w (by omega) (by omega)) ?_)
        | (go_at_call 36; refine calls_same (length_any v w hf.2) ?_))
      go_ret
      exact ⟨rfl, rfl⟩
    · clear hv
      go_enter Tryz.func24, Tryz.ntmps24
      go_wp2_with (first
        | (go_at_call 49; refine calls_same HB.out ?_)
        | (go_at_call 35; refine calls_same (fits_false v w (by omega)) ?_))
      go_ret
      exact ⟨rfl, rfl⟩

theorem logged_any (p : Int) (L : Nat) (w : World) (h8 : 8 ≤ L) (hL : L ≤ 1048576) :
    Calls Tryz.prog 71 #[.int .u64 p, .int .i64 L] w fun e w' => e = .returned (.bool (okAt L p)) ∧ w' = w := by
  have hw1 : IntKind.u64.wrap (L : Int) = L := by rw [IntKind.wrap_u64]; omega
  by_cases h1 : p < 8
  · rw [okAt_iff.2 ⟨by omega, .inl h1⟩]
    have hd1 : decide (p < 8) = true := by simpa using h1
    go_enter Tryz.func71, Tryz.ntmps71
    go_wp2
    go_ret
    exact ⟨rfl, rfl⟩
  · have hd1 : decide (p < 8) = false := by simpa using h1
    by_cases h2 : 106 ≤ p
    · have hd2 : decide (106 ≤ p) = true := by simpa using h2
      by_cases h3 : p < L
      · rw [okAt_iff.2 ⟨h3, .inr h2⟩]
        have hd3 : decide (p < (L : Int)) = true := by simpa using h3
        go_enter Tryz.func71, Tryz.ntmps71
        go_wp2
        go_ret
        exact ⟨rfl, rfl⟩
      · have he : okAt L p = false := by
          rcases hk : okAt L p with _ | _
          · rfl
          · exact absurd (okAt_iff.1 hk).1 h3
        rw [he]
        have hd3 : decide (p < (L : Int)) = false := by simpa using h3
        go_enter Tryz.func71, Tryz.ntmps71
        go_wp2
        go_ret
        exact ⟨rfl, rfl⟩
    · have hd2 : decide (106 ≤ p) = false := by simpa using h2
      have he : okAt L p = false := by
        rcases hk : okAt L p with _ | _
        · rfl
        · have := (okAt_iff.1 hk).2; omega
      rw [he]
      go_enter Tryz.func71, Tryz.ntmps71
      go_wp2
      go_ret
      exact ⟨rfl, rfl⟩

theorem words_any' (s : Nat) (w : World) (hs : s ≤ 1048576) : Calls Tryz.prog 60 #[.int .i64 s] w fun e w' => e = .returned (.int .i64 (8 * (s : Int) - 1)) ∧ w' = w := by
  go_enter Tryz.func60, Tryz.ntmps60
  go_wp2
  go_ret
  exact ⟨rfl, rfl⟩

/-- may there be an object with that span and so many pointers? -/
def properB (s p : Int) : Bool := decide (1 ≤ s) && decide (s ≤ 4) && decide (0 ≤ p) && decide (p ≤ 8 * s - 1)
theorem properB_iff {s p : Int} : properB s p = true ↔ 1 ≤ s ∧ s ≤ 4 ∧ 0 ≤ p ∧ p < 8 * s := by
  unfold properB
  simp only [Bool.and_eq_true, decide_eq_true_eq]
  omega
theorem wordsZ_any (s : Int) (w : World) (hs : -1048576 ≤ s ∧ s ≤ 1048576) : Calls Tryz.prog 60 #[.int .i64 s] w fun e w' => e = .returned (.int .i64 (8 * s - 1)) ∧ w' = w := by
  go_enter Tryz.func60, Tryz.ntmps60
  go_wp2
  go_ret
  exact ⟨rfl, rfl⟩
theorem proper_any (s p : Int) (w : World) : Calls Tryz.prog 63 #[.int .i64 s, .int .i64 p] w fun e w' => e = .returned (.bool (properB s p)) ∧ w' = w := by
  by_cases h1 : 1 ≤ s
  · have hd1 : decide (1 ≤ s) = true := by simpa using h1
    by_cases h2 : s ≤ 4
    · have hd2 : decide (s ≤ 4) = true := by simpa using h2
      by_cases h3 : 0 ≤ p
      · have hd3 : decide (0 ≤ p) = true := by simpa using h3
        have HP : Hid (properB s p = decide (p ≤ 8 * s - 1)) := by unfold properB; rw [hd1, hd2, hd3]; rfl
        go_enter Tryz.func63, Tryz.ntmps63
        go_wp2_with (go_at_call 60; refine calls_same (wordsZ_any s w (by omega)) ?_)
        go_ret
        exact ⟨by rw [HP.out]; rfl, rfl⟩
      · have hd3 : decide (0 ≤ p) = false := by simpa using h3
        have HP : Hid (properB s p = false) := by unfold properB; rw [hd1, hd2, hd3]; rfl
        go_enter Tryz.func63, Tryz.ntmps63
        go_wp2
        go_ret
        exact ⟨by rw [HP.out]; rfl, rfl⟩
    · have hd2 : decide (s ≤ 4) = false := by simpa using h2
      have HP : Hid (properB s p = false) := by unfold properB; rw [hd1, hd2]; rfl
      go_enter Tryz.func63, Tryz.ntmps63
      go_wp2
      go_ret
      exact ⟨by rw [HP.out]; rfl, rfl⟩
  · have hd1 : decide (1 ≤ s) = false := by simpa using h1
    have HP : Hid (properB s p = false) := by unfold properB; rw [hd1]; rfl
    go_enter Tryz.func63, Tryz.ntmps63
    go_wp2
    go_ret
    exact ⟨by rw [HP.out]; rfl, rfl⟩

/-- a header by itself -/
def hdr1 (h : Int) : Prop := 1000100 ≤ h ∧ h < 1000500 ∧ ptrsOf h < 8 * spanOf h
theorem parse_yes (h : Int) (w : World) (hh : hdr1 h) :
    Calls Tryz.prog 92 #[.int .u64 h] w fun e w' => e = .returned (.tuple #[.int .i64 (spanOf h), .int .i64 (ptrsOf h), .bool true]) ∧ w' = w := by
  obtain ⟨h1, h2, h3⟩ := hh
  obtain ⟨r, hr⟩ : ∃ r, r = h - 1000000 := ⟨_, rfl⟩
  obtain rfl : h = r + 1000000 := by omega
  obtain ⟨s, hs⟩ : ∃ s, s = spanOf (r + 1000000) := ⟨_, rfl⟩
  obtain ⟨p, hp⟩ : ∃ p, p = ptrsOf (r + 1000000) := ⟨_, rfl⟩
  rw [← hs, ← hp] at h3
  have hs' : r / 100 = s := by rw [hs]; unfold spanOf; omega
  have hp' : r % 100 = p := by rw [hp]; unfold ptrsOf; omega
  have hw1 : IntKind.u64.wrap (r + 1000000 - 1000000) = r := by rw [IntKind.wrap_u64]; omega
  have hw2 : IntKind.i64.wrap r = r := by rw [IntKind.wrap_i64]; omega
  rw [← hs, ← hp]
  have HPR : Hid (Calls Tryz.prog 63 #[.int .i64 (s : Int), .int .i64 (p : Int)] w fun e w' => e = .returned (.bool true) ∧ w' = w) := by
    have := proper_any (s : Int) (p : Int) w
    rwa [properB_iff.2 ⟨by omega, by omega, by omega, by omega⟩] at this
  clear hs hp hr
  go_enter Tryz.func92, Tryz.ntmps92
  go_wp2_with (go_at_call 63; refine calls_same HPR.out ?_)
  exact bodyPost_ret (v := .tuple #[.int .i64 s, .int .i64 p, .bool true]) (by simp [results, Tryz.results92, go_sem]) rfl ⟨rfl, rfl⟩
theorem parse_no (h : Int) (w : World) (hh : ¬ hdr1 h) :
    Calls Tryz.prog 92 #[.int .u64 h] w fun e w' => e = .returned (.tuple #[.int .i64 0, .int .i64 0, .bool false]) ∧ w' = w := by
  by_cases h1 : h < 1000000
  · have hd1 : decide (h < 1000000) = true := by simpa using h1
    go_enter Tryz.func92, Tryz.ntmps92
    go_wp2
    exact bodyPost_ret (v := .tuple #[.int .i64 0, .int .i64 0, .bool false]) (by simp [results, Tryz.results92, go_sem]) rfl ⟨rfl, rfl⟩
  · have hd1 : decide (h < 1000000) = false := by simpa using h1
    by_cases h2 : 1000500 ≤ h
    · have hd2 : decide (1000500 ≤ h) = true := by simpa using h2
      go_enter Tryz.func92, Tryz.ntmps92
      go_wp2
      exact bodyPost_ret (v := .tuple #[.int .i64 0, .int .i64 0, .bool false]) (by simp [results, Tryz.results92, go_sem]) rfl ⟨rfl, rfl⟩
    · have hd2 : decide (1000500 ≤ h) = false := by simpa using h2
      obtain ⟨r, hr⟩ : ∃ r, r = h - 1000000 := ⟨_, rfl⟩
      obtain rfl : h = r + 1000000 := by omega
      obtain ⟨s, hs⟩ : ∃ s, s = spanOf (r + 1000000) := ⟨_, rfl⟩
      obtain ⟨p, hp⟩ : ∃ p, p = ptrsOf (r + 1000000) := ⟨_, rfl⟩
      have hs' : r / 100 = s := by rw [hs]; unfold spanOf; omega
      have hp' : r % 100 = p := by rw [hp]; unfold ptrsOf; omega
      have hw1 : IntKind.u64.wrap (r + 1000000 - 1000000) = r := by rw [IntKind.wrap_u64]; omega
      have hw2 : IntKind.i64.wrap r = r := by rw [IntKind.wrap_i64]; omega
      have hx : s < 1 ∨ (1 ≤ s ∧ 8 * s ≤ p) := by
        by_cases hs1 : s < 1
        · exact .inl hs1
        · right
          refine ⟨by omega, ?_⟩
          rcases Nat.lt_or_ge p (8 * s) with hlt | hge
          · exact absurd ⟨by omega, by omega, by rw [← hs, ← hp]; exact hlt⟩ hh
          · exact hge
      have HPR : Hid (Calls Tryz.prog 63 #[.int .i64 (s : Int), .int .i64 (p : Int)] w fun e w' => e = .returned (.bool false) ∧ w' = w) := by
        have := proper_any (s : Int) (p : Int) w
        rwa [show properB s p = false from by
          rcases hq : properB (s : Int) (p : Int) with _ | _
          · rfl
          · have := properB_iff.1 hq; omega] at this
      clear hs hp hr hh hx
      go_enter Tryz.func92, Tryz.ntmps92
      go_wp2_with (go_at_call 63; refine calls_same HPR.out ?_)
      exact bodyPost_ret (v := .tuple #[.int .i64 0, .int .i64 0, .bool false]) (by simp [results, Tryz.results92, go_sem]) rfl ⟨rfl, rfl⟩

/-- the words of a head -/
def headArr (hs : List Int) : Obj := .cells ((hs.map (Value.int .u64)).toArray) 89 (0, 0)
theorem head_eight {ws hs : List Int} (h8 : hs.length = 8) (h : ∀ j, j < 8 → hs[j]? = some (wd ws j)) : hs = [wd ws 0, wd ws 1, wd ws 2, wd ws 3, wd ws 4, wd ws 5, wd ws 6, wd ws 7] := by
  apply List.ext_getElem?
  intro i
  by_cases hi : i < 8
  · rw [h i hi]
    match i, hi with
    | 0, _ => rfl
    | 1, _ => rfl
    | 2, _ => rfl
    | 3, _ => rfl
    | 4, _ => rfl
    | 5, _ => rfl
    | 6, _ => rfl
    | 7, _ => rfl
  · rw [List.getElem?_eq_none (by omega), List.getElem?_eq_none (by simp; omega)]
/-- a head as a value -/
abbrev headA (ws : List Int) : Value := .agg #[.int .u64 (wd ws 0), .int .u64 (wd ws 1), .int .u64 (wd ws 2), .int .u64 (wd ws 3), .int .u64 (wd ws 4), .int .u64 (wd ws 5), .int .u64 (wd ws 6), .int .u64 (wd ws 7)]
/-- what the loop keeps -/
structure Heading (w : World) (ws : List Int) (k : Nat) (wr : World) : Prop where
  fr : Fr New w wr
  blk : ∃ hs : List Int, wr.heap[w.heap.size + 1]? = some (headArr hs) ∧ hs.length = 8 ∧ ∀ j, j < k → hs[j]? = some (wd ws j)
  res : wr.heap[w.heap.size]? = some (headArr [0, 0, 0, 0, 0, 0, 0, 0])
set_option maxRecDepth 100000 in
theorem headOf_row (t : Nat) (x : Value) (fL fR : Nat) (y : Value) (ws : List Int) (w : World) (h8 : 8 ≤ ws.length) (hrow : RowAt w t x fL fR y ws) :
    Calls Tryz.prog 58 #[.iface t x] w fun e w' => e = .returned (headA ws) ∧ Fr New w w' := by
  have HW : Hid (∀ wr, Fr New w wr → ∀ i, i < ws.length → Calls Tryz.prog fR #[y, .int .i64 (i : Nat)] wr fun e w'' => e = .returned (.int .u64 (wd ws i)) ∧ w'' = wr) := hrow.read
  have HM : Hid (∀ w', Fr New w w' → (method 290 t x "Read").run Tryz.prog w' = .ok (fR, y) w') := hrow.mread
  have hcf := hrow.cread
  clear hrow
  go_enter Tryz.func58, Tryz.ntmps58
  go_wp2
  go_loopw [5] (fun t wr => ∃ k : Nat, k ≤ 8 ∧ t = .int .i64 k ∧ Heading w ws k wr) (fun t _ => 8 - (intOf t).toNat)
  case atStart => exact ⟨0, by omega, rfl, ⟨((Fr.refl _ _).alloc _).alloc _, ⟨[0, 0, 0, 0, 0, 0, 0, 0], new_at2 w _ _, rfl, fun j hj => by omega⟩, (Go.Deep.blk_alloc_lt _ _ _ (by simp)).trans (Go.Deep.blk_alloc_new w _)⟩⟩
  case round =>
    obtain ⟨k, hk, rfl, hH⟩ := hrel
    by_cases hlt : k < 8
    · have HC : Hid (Calls Tryz.prog fR #[y, .int .i64 (k : Nat)] wr fun e w'' => e = .returned (.int .u64 (wd ws k)) ∧ w'' = wr) := HW.out wr hH.fr k (by omega)
      have hm := HM.out wr hH.fr
      obtain ⟨hs, hb, hl, hj⟩ := hH.blk
      have hcb : wr.cell? ⟨w.heap.size + 1, k, none⟩ = some (.int .u64 (hs.getD k 0)) := by
        rw [(block_cells hb).1]
        simp [List.getD, show k < hs.length by omega]
      have hzb := (block_cells hb).2 k
      have HN : Hid (Heading w ws (k + 1) (wr.setCell ⟨w.heap.size + 1, k, none⟩ (.int .u64 (wd ws k)))) := by
        refine ⟨hH.fr.setCell (fun h => absurd h (by simp)) _, ⟨hs.set k (wd ws k), ?_, by simpa using hl, fun j hjk => ?_⟩, ?_⟩
        · rw [heap_setCell_same wr _ k _ _ _ hb]
          simp [headArr, List.map_set]
        · by_cases he : j = k
          · subst he; rw [List.getElem?_set_self (by omega)]
          · rw [List.getElem?_set_ne (by omega)]; exact hj j (by omega)
        · rw [Go.Deep.blk_setCell_other _ _ _ _ (by simp)]; exact hH.res
      obtain ⟨z, hx⟩ : ∃ z, z = wd ws k := ⟨_, rfl⟩
      rw [← hx] at HC HN
      clear hb hj hx hH
      go_wp2_with (refine calls_same HC.out ?_)
      go_roundw
      case rel => exact ⟨k + 1, by omega, by go_num, HN.out⟩
      case measure => simp [intOf]; omega
    · obtain rfl : k = 8 := by omega
      obtain ⟨hs, hb, hl, hj⟩ := hH.blk
      obtain rfl := head_eight hl hj
      obtain ⟨hcc, hzz⟩ := block_cells hb
      obtain ⟨hcr, hzr⟩ := block_cells hH.res
      have hf := hH.fr
      clear hb hj hH hl
      go_wp2
      refine bodyPost_ret (v := headA ws) (by simp [results, Tryz.results58, go_sem, hcr]) rfl ⟨rfl, ?_⟩
      iterate 8 refine Fr.setCell ?_ (fun h => absurd h (by simp)) _
      exact hf
theorem headOf_any (sb so L c : Nat) (ws : List Int) (w : World) (hL : ws.length = L) (h8 : 8 ≤ L) (hcw : ∀ i, i < L → w.cell? ⟨sb, so + i, none⟩ = some (.int .u64 (wd ws i))) :
    Calls Tryz.prog 58 #[rowV (some ⟨sb, so, none⟩) L c] w fun e w' => e = .returned (headA ws) ∧ Fr New w w' := headOf_row _ _ _ _ _ ws w (by omega) (kept_row hL hcw)
end Go.Proofs.YtbagcjlimdilpabGreat

/- The walk of the document's 'reached': an object is marked just where it is reached. -/
namespace Go.Proofs.YtbagcjlimdilpabGreat
open Go.RowKit

theorem Tryz.info4 : (Tryz.prog.info? 4).map (fun i => (i.zero, i.size, i.bytes)) = some (some (.bool false), 1, 1) := by kernel_rfl

/-- block g is just those marks -/
def BRow (w : World) (g : Nat) (out : List Bool) : Prop := w.heap[g]? = some (.cells ((out.map Value.bool).toArray) 4 (0, 0))
theorem BRow.cell {w : World} {g : Nat} {out : List Bool} (h : BRow w g out) (k : Nat) (hk : k < out.length) : w.cell? ⟨g, k, none⟩ = some (.bool out[k]) := by
  simp [World.cell?, show w.heap[g]? = _ from h, hk]
theorem BRow.free {w : World} {g : Nat} {out : List Bool} (h : BRow w g out) (k : Nat) : w.frozen? ⟨g, k, none⟩ = false := by
  simp [World.frozen?, show w.heap[g]? = _ from h]
theorem BRow.set {w : World} {g : Nat} {out : List Bool} (h : BRow w g out) (k : Nat) (y : Bool) : BRow (w.setCell ⟨g, k, none⟩ (.bool y)) g (out.set k y) := by
  have := heap_setCell_same w g k _ _ (.bool y) h
  unfold BRow
  rw [this]
  simp [List.map_set]
theorem BRow.ofOwn {w : World} {g base n : Nat} {xs : List Value} {out : List Bool} (h : w.ownsRow base 4 1 (.slice (some ⟨g, 0, none⟩) n n) n xs) (hx : xs = out.map Value.bool) : BRow w g out := by
  rcases h.2 with ⟨h', _⟩ | ⟨g', cap', cur, h', _, hg, _, _, hcs, htk⟩
  · cases h'
  · simp only [Value.slice.injEq, Option.some.injEq, Addr.mk.injEq, and_true, true_and] at h'
    obtain ⟨rfl, rfl⟩ := h'
    unfold BRow
    rw [hg, ← hx, ← htk, List.take_of_length_le (by rw [Array.length_toList, hcs]; exact Nat.le_refl _)]
theorem made_false (n : Nat) : (madeCells (Value.bool false).cells (n * 1)).toList = (List.replicate n false).map Value.bool := by
  rw [Nat.mul_one, List.map_replicate]; exact toList_madeCells_one _ n

/-- what the search keeps in memory -/
structure Mem (w : World) (g : Nat) (out : List Bool) (wr : World) : Prop where
  row : BRow wr g out
  fr : Fr New w wr
theorem Mem.put {w : World} {out : List Bool} {wr : World} (h : Mem w w.heap.size out wr) (k : Nat) : Mem w w.heap.size (out.set k true) (wr.setCell ⟨w.heap.size, k, none⟩ (.bool true)) :=
  ⟨h.row.set k true, h.fr.setCell (fun hlt => absurd hlt (by simp)) _⟩
theorem Mem.grow {w : World} {out : List Bool} {wr w' : World} (h : Mem w w.heap.size out wr) (hf : Fr New wr w') : Mem w w.heap.size out w' := ⟨hf.heap h.row id, h.fr.same hf⟩

/-- the objects lie within the words -/
def Within (ws : List Int) (l : List Ob) : Prop := ∀ o ∈ l, 106 + 8 * (o.block + o.span) ≤ ws.length ∧ o.ptrs < 8 * o.span

end Go.Proofs.YtbagcjlimdilpabGreat

/- The walk of the document's Check: it tells the first thing that is wrong, and its place. -/
namespace Go.Proofs.YtbagcjlimdilpabGreat
open Go.RowKit

theorem within_objs (ws : List Int) : Within ws (objs ws) := fun _ ho => ⟨(objs_in ho).1, (objs_in ho).2.2.2.1⟩

theorem ret_two {c a b : Int} (h : a = b) : Ending.returned (.tuple #[.int .i64 c, .int .i64 a]) = .returned (.tuple #[.int .i64 c, .int .i64 b]) := by rw [h]

end Go.Proofs.YtbagcjlimdilpabGreat

/- The walk of the document's 'asks'. -/
namespace Go.Proofs.YtbagcjlimdilpabGreat
open Go.RowKit

theorem wd_U {ws : List Int} (hU : ∀ z ∈ ws, U z) (i : Nat) : U (wd ws i) := by
  unfold wd
  by_cases hl : i < ws.length
  · rw [List.getD_eq_getElem?_getD, List.getElem?_eq_getElem hl]; exact hU _ (List.getElem_mem _)
  · rw [List.getD_eq_getElem?_getD, List.getElem?_eq_none (by omega)]; exact ⟨by decide, by decide⟩

theorem two_one (x y : Int) : ∀ u ∈ [Value.int .u64 x, Value.int .u64 y], u.oneCell' = true := by
  intro u hu
  simp only [List.mem_cons, List.not_mem_nil, or_false] at hu
  rcases hu with rfl | rfl <;> rfl

end Go.Proofs.YtbagcjlimdilpabGreat

/- What the document's Repair keeps in memory while it works, apart from its walk. -/
namespace Go.Proofs.YtbagcjlimdilpabGreat
open Go.RowKit

/-- the words that are worked on, in a row of their own -/
structure Mem2 (w : World) (g c L : Nat) (cur : List Int) (wr : World) : Prop where
  own : wr.ownsRow w.heap.size 41 1 (.slice (some ⟨g, 0, none⟩) L c) L (cur.map (Value.int .u64))
  len : cur.length = L
  fr : Fr New w wr
theorem Mem2.base {w : World} {g c L : Nat} {cur : List Int} {wr : World} (h : Mem2 w g c L cur wr) : w.heap.size ≤ g := (own_block h.own rfl).1
theorem Mem2.cell {w : World} {g c L : Nat} {cur : List Int} {wr : World} (h : Mem2 w g c L cur wr) (k : Nat) (hk : k < L) : wr.cell? ⟨g, k, none⟩ = some (.int .u64 (wd cur k)) := by
  have hk' : k < cur.length := by rw [h.len]; exact hk
  rw [h.own.cellAt k (by omega)]
  unfold wd
  simp [hk', List.getD]
theorem Mem2.free {w : World} {g c L : Nat} {cur : List Int} {wr : World} (h : Mem2 w g c L cur wr) (k : Nat) : wr.frozen? ⟨g, k, none⟩ = false := h.own.frozenAt k
theorem Mem2.put {w : World} {g c L : Nat} {cur : List Int} {wr : World} (h : Mem2 w g c L cur wr) (k : Nat) (y : Int) : Mem2 w g c L (cur.set k y) (wr.setCell ⟨g, k, none⟩ (.int .u64 y)) :=
  ⟨by rw [List.map_set]; exact (h.own.stored k (.int .u64 y)).1, by simpa using h.len, h.fr.setCell (fun hlt => absurd hlt (by have := h.base; simp; omega)) _⟩
theorem Mem2.grow {w : World} {g c L : Nat} {cur : List Int} {wr w' : World} (h : Mem2 w g c L cur wr) (hf : Fr New wr w') : Mem2 w g c L cur w' := ⟨hf.owns h.own (fun _ _ h => h), h.len, h.fr.same hf⟩
theorem Mem2.rowU {w : World} {g c L : Nat} {cur : List Int} {wr : World} (h : Mem2 w g c L cur wr) : RowU wr (some ⟨g, 0, none⟩) cur := rowU_own h.own
theorem Mem2.cap {w : World} {g c L : Nat} {cur : List Int} {wr : World} (h : Mem2 w g c L cur wr) : L ≤ c := by
  rcases h.own.2 with ⟨h', _⟩ | ⟨g', cap', cur', h', _, _, hc, _⟩
  · cases h'
  · simp only [Value.slice.injEq, Option.some.injEq, Addr.mk.injEq, and_true, true_and] at h'
    omega
/-- a row of another kind stays where a word is put -/
theorem own_put {w wr : World} {g c L : Nat} {cur : List Int} (h : Mem2 w g c L cur wr) (k : Nat) (y : Value) {B : Nat} {e : TypeId} {sz : Nat} {v : Value} {n : Nat} {xs : List Value} (ho : wr.ownsRow B e sz v n xs) (he : e ≠ 41) : (wr.setCell ⟨g, k, none⟩ y).ownsRow B e sz v n xs := by
  have hf : Fr (fun k => k = g) wr (wr.setCell ⟨g, k, none⟩ y) := (Fr.refl (fun k => k = g) wr).setCell (p := ⟨g, k, none⟩) (fun _ => rfl) _
  refine hf.owns ho (fun g' hg' hh => ?_)
  obtain ⟨_, c1, h1⟩ := own_block ho hg'
  obtain ⟨_, c2, h2⟩ := own_block h.own rfl
  exact type_ne h1 h2 he hh
theorem row_put {w wr : World} {g c L : Nat} {cur : List Int} (h : Mem2 w g c L cur wr) (k : Nat) (y : Value) {gb : Nat} {out : List Bool} (ho : BRow wr gb out) : BRow (wr.setCell ⟨g, k, none⟩ y) gb out := by
  have hf : Fr (fun k => k = g) wr (wr.setCell ⟨g, k, none⟩ y) := (Fr.refl (fun k => k = g) wr).setCell (p := ⟨g, k, none⟩) (fun _ => rfl) _
  refine hf.heap ho (fun hh => ?_)
  obtain ⟨_, c2, h2⟩ := own_block h.own rfl
  exact type_ne ho h2 (by decide) hh

theorem own_zero {w : World} {B : Nat} {e : TypeId} {sz : Nat} {v : Value} {n : Nat} {xs : List Value} (h : w.ownsRow B e sz v n xs) : w.ownsRow 0 e sz v n xs := by
  refine ⟨h.1, ?_⟩
  rcases h.2 with h | ⟨g, cap, cur, rfl, _, r⟩
  · exact .inl h
  · exact .inr ⟨g, cap, cur, rfl, Nat.zero_le _, r⟩
theorem emptyU (w : World) : (w.alloc (.cells #[] 41)).ownsRow w.heap.size 41 1 (.slice (some ⟨w.heap.size, 0, none⟩) 0 0) 0 [] := World.ownsRow_made w #[] 0 (Nat.le_refl _) (by decide) (by simp)

theorem copy_news {w : World} {x : Addr} {ws : List Int} (h : RowU w (some x) ws) (o : Obj) : ∀ j u, (ws.map (Value.int .u64))[j]? = some u → (w.alloc o).cell? (x.add j) = some u := by
  intro j u hu
  have hp : 0 < (ws.map (Value.int .u64)).length := by
    rcases Nat.lt_or_ge j (ws.map (Value.int .u64)).length with h | h
    · omega
    · rw [List.getElem?_eq_none h] at hu; cases hu
  obtain ⟨ad, had, hn⟩ := news_row (rowU_fr ((Fr.refl New w).alloc o) h (fun _ _ h => h)) hp
  cases had
  exact hn j u hu
theorem copy_mem {w w1 : World} {g c : Nat} {ws : List Int} (h : w1.ownsRow w.heap.size 41 1 (.slice (some ⟨g, 0, none⟩) (0 + ws.length) c) (0 + ws.length) ([] ++ ws.map (Value.int .u64)))
    (hg : (w.alloc (.cells #[] 41)).grownBy w1 (Value.slice (some ⟨w.heap.size, 0, none⟩) 0 0).ownBlock) : Mem2 w g c ws.length ws w1 :=
  ⟨by simpa using h, rfl, ((Fr.refl New w).alloc _).grown hg (fun k hk hv => by simp [Value.ownBlock] at hv; omega)⟩

/-- what is put where a record asks for it -/
theorem done_set (ws : List Int) (i : Nat) : (doneS ws i).set (wd ws (10 + 2 * i)).toNat (wd ws (11 + 2 * i)) = doneS ws (i + 1) := rfl
theorem doneS_U {ws : List Int} (hU : ∀ z ∈ ws, U z) (k : Nat) : ∀ z ∈ doneS ws k, U z := by
  induction k with
  | zero => exact hU
  | succ k ih =>
    intro z hz
    rcases List.mem_or_eq_of_mem_set hz with h | rfl
    · exact ih z h
    · exact wd_U hU _
end Go.Proofs.YtbagcjlimdilpabGreat

/- The walk of the program's Kept.Copy: words in memory of their own. -/
namespace Go.Proofs.YtbagcjlimdilpabGreat
open Go.RowKit

theorem splice_all {xs ys : List Value} (h : xs.length = ys.length) : splice xs 0 ys = ys := by
  unfold splice
  simp [h]
set_option maxRecDepth 100000 in
theorem kcopy_any (a : Option Addr) (cap : Nat) (ws : List Int) (w : World) (hm : ws.length ≤ 1048576) (hp : 0 < ws.length) (hr : RowU w a ws) :
    Calls Tryz.prog 23 #[.slice a ws.length cap] w fun e w' => e = .returned (.slice (some ⟨w.heap.size, 0, none⟩) ws.length ws.length) ∧ Row w' w.heap.size ws ∧ Fr New w w' := by
  obtain ⟨i0, hi, hz0, hz1, hz2⟩ := info_parts Tryz.info41
  obtain ⟨sb, so, rfl, hsb, hcw⟩ := rowU_plain hr hp
  have HRU : Hid (∀ W, Fr New w W → RowU W (some ⟨sb, so, none⟩) ws) := fun W hf => rowU_fr hf hr (fun _ _ h => h)
  have hmin : Hid ((ws.map (Value.int .u64)).length = Nat.min ws.length ws.length) := by show _ = _; simp
  obtain ⟨L, hL⟩ : ∃ L, L = ws.length := ⟨_, rfl⟩
  have HL : Hid (L = ws.length) := hL
  rw [← hL] at hmin hm hp ⊢
  clear hr hcw hL
  go_enter Tryz.func23, Tryz.ntmps23
  go_wp2_with (first
    | (at_make; refine wpList_make_full _ rfl (.tmp 5) (.tmp 5) 61 rfl w.heap.size 41 i0 (.int .u64 0) 1 Tryz.underlying61 hi hz0 hz1 .i64 .i64 _ _ L rfl rfl (by omega) (by omega) (by rw [hz2]; omega) (by unfold maxLen; omega) (Nat.le_refl _) ?_; intro w1 hown1 hg1; have hr1 := Row.ofOwn hown1 (made_zeros _); have hf1 := (Fr.refl New w).grownNew hg1; clear hown1 hg1)
    | (refine wpList_copy_splice rfl (.tmp 7) (.tmp 8) 61 61 rfl 41 Tryz.underlying61 Tryz.size41 (some ⟨w.heap.size, 0, none⟩) (some ⟨sb, so, none⟩) L L L cap (by rfl) (by rfl) w.heap.size 0 _ 41 hr1 (ws.map (Value.int .u64)) hmin.out (fun hp => ⟨rfl, news_row (HRU.out w1 hf1) hp⟩) (by simp [← HL.out]) (ints_oneU _) w.heap.size w (hf1.below (Nat.le_refl _) (fun _ _ h => h)) (Nat.le_refl _) ?_; intro w4 hr4 hb4; have hR4 : Row w4 w.heap.size ws := (by have hr4' := hr4.out; rw [splice_all (by simp [← HL.out])] at hr4'; exact hr4'); have hF4 : Fr New w w4 := ((Fr.ofBelow hb4).mono (fun j hj h => by omega)))
    | fail)
  go_ret
  exact ⟨rfl, hR4, hF4⟩
end Go.Proofs.YtbagcjlimdilpabGreat

/- Walks of the program's search for an object: Compare, BinarySearchFunc, Held, Dangling. -/
namespace Go.Proofs.YtbagcjlimdilpabGreat
open Go.RowKit

/-- a list of objects, as the program keeps it -/
def LiesT (w : World) (v : Value) (l : List Ob) : Prop := ∃ a cap, v = .slice a l.length cap ∧ l.length ≤ 1048576 ∧ (∀ o ∈ l, o.block ≤ 1048576 ∧ o.span ≤ 4 ∧ o.ptrs < 32) ∧
  (0 < l.length → ∃ g, a = some ⟨g, 0, none⟩ ∧ g < w.heap.size ∧ ∀ i (hi : i < l.length), w.cell? ⟨g, i * 4, none⟩ = some (.int .i64 1) ∧ w.cell? ⟨g, i * 4 + 1, none⟩ = some (.int .i64 (((l[i]).block + 1 : Nat) : Int)) ∧ w.cell? ⟨g, i * 4 + 2, none⟩ = some (.int .i64 (l[i]).span) ∧ w.cell? ⟨g, i * 4 + 3, none⟩ = some (.int .i64 (l[i]).ptrs))
theorem LiesT.fr {T : Nat → Prop} {w w' : World} {v : Value} {l : List Ob} (h : LiesT w v l) (hf : Fr T w w') (hn : ∀ g, v.ownBlock = some g → ¬ T g) : LiesT w' v l := by
  obtain ⟨a, c, rfl, hl, hb, hc⟩ := h
  refine ⟨a, c, rfl, hl, hb, fun hp => ?_⟩
  obtain ⟨g, rfl, hg, hcc⟩ := hc hp
  refine ⟨g, rfl, Nat.lt_of_lt_of_le hg hf.size, fun i hi => ?_⟩
  obtain ⟨h1, h2, h3, h4⟩ := hcc i hi
  exact ⟨hf.cell h1 (hn g rfl), hf.cell h2 (hn g rfl), hf.cell h3 (hn g rfl), hf.cell h4 (hn g rfl)⟩

/-- in the order of their handles -/
def Asc (l : List Ob) : Prop := ∀ i j (hi : i < l.length) (hj : j < l.length), i < j → (l[i]).block < (l[j]).block
theorem walkF_ge {ws : List Int} {n f b : Nat} : ∀ o ∈ (walkF ws n f b).1, b ≤ o.block := by
  induction f generalizing b with
  | zero => intro o ho; simp [walkF] at ho
  | succ f ih =>
    intro o ho
    rw [walkF] at ho
    split at ho
    · split at ho
      · rename_i o' hs
        obtain ⟨e1, e2, _⟩ := slot_obs hs
        rcases List.mem_cons.1 ho with rfl | ho
        · omega
        · have := ih o ho; omega
      · have := ih o ho; omega
      · have := ih o ho; omega
    · simp at ho
theorem asc_cons {o : Ob} {l : List Ob} (h : ∀ x ∈ l, o.block < x.block) (hl : Asc l) : Asc (o :: l) := by
  intro i j hi hj hij
  cases j with
  | zero => omega
  | succ j =>
    cases i with
    | zero => simpa using h _ (List.getElem_mem (by simpa using hj))
    | succ i => simpa using hl i j (by simpa using hi) (by simpa using hj) (by omega)
theorem walkF_asc {ws : List Int} {n f b : Nat} : Asc (walkF ws n f b).1 := by
  induction f generalizing b with
  | zero => intro i j hi; simp [walkF] at hi
  | succ f ih =>
    rw [walkF]
    split
    · split
      · rename_i o hs
        obtain ⟨e1, e2, _⟩ := slot_obs hs
        refine asc_cons (fun x hx => ?_) ih
        have := walkF_ge x hx
        omega
      · exact ih
      · exact ih
    · intro i j hi; simp at hi
theorem objs_asc (ws : List Int) : Asc (objs ws) := walkF_asc

/-- what Compare says -/
def cmpI (x y : Int) : Int := if x < y then -1 else if y < x then 1 else 0
theorem nan_any (x : Int) (w : World) : Calls Tryz.prog 84 #[.int .u64 x] w fun e w' => e = .returned (.bool false) ∧ w' = w := by
  go_enter Tryz.func84, Tryz.ntmps84
  go_wp2
  go_ret
  exact ⟨by simp, rfl⟩
theorem compare_any (x y : Int) (w : World) : Calls Tryz.prog 68 #[.int .u64 x, .int .u64 y] w fun e w' => e = .returned (.int .i64 (cmpI x y)) ∧ w' = w := by
  by_cases h1 : x < y
  · have e : cmpI x y = -1 := by unfold cmpI; rw [if_pos h1]
    rw [e]
    clear e
    go_enter Tryz.func68, Tryz.ntmps68
    go_wp2_with (go_at_call 84; refine calls_same (nan_any _ _) ?_)
    go_ret
    exact ⟨rfl, rfl⟩
  · by_cases h2 : y < x
    · have e : cmpI x y = 1 := by unfold cmpI; rw [if_neg h1, if_pos h2]
      rw [e]
      clear e
      go_enter Tryz.func68, Tryz.ntmps68
      go_wp2_with (go_at_call 84; refine calls_same (nan_any _ _) ?_)
      go_ret
      exact ⟨rfl, rfl⟩
    · have e : cmpI x y = 0 := by unfold cmpI; rw [if_neg h1, if_neg h2]
      rw [e]
      clear e
      go_enter Tryz.func68, Tryz.ntmps68
      go_wp2_with (go_at_call 84; refine calls_same (nan_any _ _) ?_)
      go_ret
      exact ⟨rfl, rfl⟩
theorem held1_any (k s p : Int) (B : Nat) (h : Int) (w : World) (hB : B ≤ 1048577) :
    Calls Tryz.prog 67 #[.agg #[.int .i64 k, .int .i64 B, .int .i64 s, .int .i64 p], .int .u64 h] w fun e w' => e = .returned (.int .i64 (cmpI B h)) ∧ Fr New w w' := by
  have hw1 : IntKind.u64.wrap (B : Int) = B := by rw [IntKind.wrap_u64]; omega
  go_enter Tryz.func67, Tryz.ntmps67
  go_wp2_with (go_at_call 68; refine calls_same (compare_any _ _ _) ?_)
  go_ret
  exact ⟨rfl, (Fr.refl _ _).alloc _⟩
theorem cmpI_neg {x y : Int} : cmpI x y < 0 ↔ x < y := by
  unfold cmpI; split
  · simp; assumption
  · split <;> (simp; omega)
theorem cmpI_zero {x y : Int} : cmpI x y = 0 ↔ x = y := by
  unfold cmpI; split
  · simp; omega
  · split
    · simp; omega
    · simp; omega

/-- the handle of the i-th -/
def hnd (l : List Ob) (i : Nat) : Nat := (l.getD i ⟨0, 0, 0⟩).block + 1
theorem hnd_eq {l : List Ob} {i : Nat} (hi : i < l.length) : hnd l i = (l[i]).block + 1 := by unfold hnd; simp [List.getD, hi]
theorem idx_at {l : List Ob} {h : Int} {k : Nat} (ha : Asc l) (hk : k < l.length) (he : (hnd l k : Int) = h) : idx l h = some k := by
  rw [hnd_eq hk] at he
  refine idx_first hk he (fun i hi => ?_)
  have := ha i k (by omega) hk hi
  omega
theorem idx_not {l : List Ob} {h : Int} (hn : ∀ i, i < l.length → (hnd l i : Int) ≠ h) : idx l h = none := by
  refine idx_no (fun i hi => ?_)
  have := hn i hi
  rwa [hnd_eq hi] at this

/-- what the search tells -/
def SearchIs (l : List Ob) (h : Int) (v : Value) : Prop := (∃ k : Nat, idx l h = some k ∧ v = .tuple #[.int .i64 k, .bool true]) ∨ (idx l h = none ∧ ∃ k : Nat, v = .tuple #[.int .i64 k, .bool false])

set_option maxHeartbeats 2000000 in
set_option maxRecDepth 100000 in
theorem bsearch_any (v : Value) (l : List Ob) (h : Int) (w : World) (hv : LiesT w v l) (ha : Asc l) :
    Calls Tryz.prog 66 #[v, .int .u64 h, .func (.func 67) #[] #[]] w fun e w' => ∃ r, e = .returned r ∧ SearchIs l h r ∧ Fr New w w' := by
  obtain ⟨a, cap, rfl, hl, hb, hc⟩ := hv
  have HA : Hid (Asc l) := ha
  have HC : Hid (0 < l.length → ∃ g, a = some ⟨g, 0, none⟩ ∧ ∀ wr, Fr New w wr → ∀ i (hi : i < l.length), ∃ s p : Int, wr.cell? ⟨g, i * 4, none⟩ = some (.int .i64 1) ∧ wr.cell? ⟨g, i * 4 + 1, none⟩ = some (.int .i64 (hnd l i)) ∧ wr.cell? ⟨g, i * 4 + 2, none⟩ = some (.int .i64 s) ∧ wr.cell? ⟨g, i * 4 + 3, none⟩ = some (.int .i64 p)) := by
    intro hp
    obtain ⟨g, e, _, hcc⟩ := hc hp
    refine ⟨g, e, fun wr hf i hi => ⟨_, _, hf.cell (hcc i hi).1 id, ?_, hf.cell (hcc i hi).2.2.1 id, hf.cell (hcc i hi).2.2.2 id⟩⟩
    rw [hnd_eq hi]
    exact hf.cell (hcc i hi).2.1 id
  have HH : Hid (∀ i, i < l.length → hnd l i ≤ 1048577) := fun i hi => by
    rw [hnd_eq hi]
    have := (hb l[i] (List.getElem_mem _)).1
    omega
  have HM : Hid (∀ i j, i < j → j < l.length → hnd l i < hnd l j) := fun i j hij hj => by
    rw [hnd_eq (show i < l.length by omega), hnd_eq hj]
    have := ha i j (by omega) hj hij
    omega
  clear hc hb ha
  go_enter Tryz.func66, Tryz.ntmps66
  go_wp2
  go_loopg [9, 10] l.length (fun gh s9 s10 wr => ∃ lo hi : Nat, s9 = .int .i64 lo ∧ s10 = .int .i64 hi ∧ lo ≤ hi ∧ hi ≤ l.length ∧ gh = hi - lo ∧ Fr New w wr ∧ Hid ((∀ i, i < lo → (hnd l i : Int) < h) ∧ (∀ i, hi ≤ i → i < l.length → h ≤ (hnd l i : Int))))
  case atStart => exact ⟨0, l.length, rfl, rfl, Nat.zero_le _, Nat.le_refl _, by omega, Fr.refl _ _, (⟨fun i hi => by omega, fun i h1 h2 => by omega⟩ : (∀ i, i < 0 → (hnd l i : Int) < h) ∧ (∀ i, l.length ≤ i → i < l.length → h ≤ (hnd l i : Int)))⟩
  case round =>
    obtain ⟨lo, hi, rfl, rfl, hlh, hin, rfl, hf, HI⟩ := hrel
    by_cases hlt : lo < hi
    · obtain ⟨g, rfl, hcells⟩ := HC.out (by omega)
      obtain ⟨m, hm⟩ : ∃ m : Nat, m = (lo + hi) / 2 := ⟨_, rfl⟩
      have hm1 : m < l.length := by omega
      have hmI : ((lo : Int) + hi) / 2 = m := by omega
      have hlm : lo ≤ m := by omega
      have hmh : m < hi := by omega
      have HMM : Hid (m = (lo + hi) / 2) := hm
      clear hm
      obtain ⟨s, p, c0, c1, c2, c3⟩ := hcells wr hf m hm1
      have hB := HH.out m hm1
      obtain ⟨B, hBB⟩ : ∃ B, B = hnd l m := ⟨_, rfl⟩
      rw [← hBB] at c1 hB
      have HBB : Hid (B = hnd l m) := hBB
      clear hBB hcells
      have HK : Hid (Calls Tryz.prog 67 #[.agg #[.int .i64 1, .int .i64 B, .int .i64 s, .int .i64 p], .int .u64 h] wr fun e w' => e = .returned (.int .i64 (cmpI B h)) ∧ Fr New wr w') := held1_any 1 s p B h wr hB
      by_cases hBh : (B : Int) < h
      · have hcn := cmpI_neg.2 hBh
        obtain ⟨q, hq⟩ : ∃ q, q = cmpI B h := ⟨_, rfl⟩
        rw [← hq] at HK hcn
        clear hq
        go_wp2_with (go_at_call 67; refine HK.out.mono ?_; rintro e w' ⟨rfl, hf'⟩)
        go_roundg (hi - (m + 1))
        case measure => omega
        case rel =>
          exact ⟨m + 1, hi, by go_num, rfl, by omega, hin, rfl, hf.same hf', (⟨fun i hi' => by
            rcases Nat.lt_or_ge i m with h' | h'
            · have := HM.out i m h' hm1; rw [← HBB.out] at this; omega
            · obtain rfl : i = m := by omega
              rw [← HBB.out]; exact hBh, HI.out.2⟩ : (∀ i, i < m + 1 → (hnd l i : Int) < h) ∧ (∀ i, hi ≤ i → i < l.length → h ≤ (hnd l i : Int)))⟩
      · have hcn : ¬ cmpI B h < 0 := fun hh => hBh (cmpI_neg.1 hh)
        obtain ⟨q, hq⟩ : ∃ q, q = cmpI B h := ⟨_, rfl⟩
        rw [← hq] at HK hcn
        clear hq
        go_wp2_with (go_at_call 67; refine HK.out.mono ?_; rintro e w' ⟨rfl, hf'⟩)
        go_roundg (m - lo)
        case measure => omega
        case rel =>
          exact ⟨lo, m, rfl, rfl, by omega, by omega, rfl, hf.same hf', (⟨HI.out.1, fun i h1 h2 => by
            rcases Nat.lt_or_ge m i with h' | h'
            · have := HM.out m i h' h2; rw [← HBB.out] at this; omega
            · obtain rfl : i = m := by omega
              rw [← HBB.out]; omega⟩ : (∀ i, i < lo → (hnd l i : Int) < h) ∧ (∀ i, m ≤ i → i < l.length → h ≤ (hnd l i : Int)))⟩
    · obtain rfl : lo = hi := by omega
      by_cases hlast : lo < l.length
      · have hd : decide ((lo : Int) < (l.length : Int)) = true := by simp; omega
        obtain ⟨g, rfl, hcells⟩ := HC.out (by omega)
        obtain ⟨s, p, c0, c1, c2, c3⟩ := hcells wr hf lo hlast
        have hB := HH.out lo hlast
        obtain ⟨B, hBB⟩ : ∃ B, B = hnd l lo := ⟨_, rfl⟩
        rw [← hBB] at c1 hB
        have HBB : Hid (B = hnd l lo) := hBB
        clear hBB hcells
        have HK : Hid (Calls Tryz.prog 67 #[.agg #[.int .i64 1, .int .i64 B, .int .i64 s, .int .i64 p], .int .u64 h] wr fun e w' => e = .returned (.int .i64 (cmpI B h)) ∧ Fr New wr w') := held1_any 1 s p B h wr hB
        by_cases hBh : (B : Int) = h
        · have HT : Hid (SearchIs l h (.tuple #[.int .i64 lo, .bool true])) := .inl ⟨lo, idx_at HA.out hlast (by rw [← HBB.out]; exact hBh), rfl⟩
          have hcn := cmpI_zero.2 hBh
          rw [hcn] at HK
          clear hcn hBh
          go_wp2_with (go_at_call 67; refine HK.out.mono ?_; rintro e w' ⟨rfl, hf'⟩)
          go_ret2
          exact ⟨_, rfl, HT.out, hf.same hf'⟩
        · have HT : Hid (SearchIs l h (.tuple #[.int .i64 lo, .bool false])) := .inr ⟨idx_not (fun i hi he => by
            rcases Nat.lt_or_ge i lo with h' | h'
            · have := HI.out.1 i h'; omega
            · rcases Nat.lt_or_ge lo i with h'' | h''
              · have h1 := HM.out lo i h'' hi
                have h2 := HI.out.2 lo (Nat.le_refl _) hlast
                omega
              · obtain rfl : i = lo := by omega
                rw [← HBB.out] at he; exact hBh he), lo, rfl⟩
          have hcn : (cmpI B h == 0) = false := by simpa using fun hh => hBh (cmpI_zero.1 hh)
          obtain ⟨q, hq⟩ : ∃ q, q = cmpI B h := ⟨_, rfl⟩
          rw [← hq] at HK hcn
          clear hq hBh
          go_wp2_with (go_at_call 67; refine HK.out.mono ?_; rintro e w' ⟨rfl, hf'⟩)
          go_ret2
          exact ⟨_, rfl, HT.out, hf.same hf'⟩
      · have hd : decide ((lo : Int) < (l.length : Int)) = false := by simp; omega
        have HT : Hid (SearchIs l h (.tuple #[.int .i64 lo, .bool false])) := .inr ⟨idx_not (fun i hi he => by
            have := HI.out.1 i (by omega); omega), lo, rfl⟩
        go_wp2
        go_ret2
        exact ⟨_, rfl, HT.out, hf⟩

/-- what Held tells -/
def HeldIs (l : List Ob) (h : Int) (v : Value) : Prop := (∃ k, ∃ hk : k < l.length, idx l h = some k ∧ v = .tuple #[.agg #[.int .i64 1, .int .i64 (((l[k]).block + 1 : Nat) : Int), .int .i64 (l[k]).span, .int .i64 (l[k]).ptrs], .bool true]) ∨
  (idx l h = none ∧ v = .tuple #[.agg #[.int .i64 0, .int .i64 0, .int .i64 0, .int .i64 0], .bool false])
set_option maxRecDepth 100000 in
theorem held_any (v : Value) (l : List Ob) (h : Int) (w : World) (hv : LiesT w v l) (ha : Asc l) :
    Calls Tryz.prog 39 #[v, .int .u64 h] w fun e w' => ∃ r, e = .returned r ∧ HeldIs l h r ∧ Fr New w w' := by
  have HS : Hid (∀ o, Calls Tryz.prog 66 #[v, .int .u64 h, .func (.func 67) #[] #[]] (w.alloc o) fun e w' => ∃ r, e = .returned r ∧ SearchIs l h r ∧ Fr New (w.alloc o) w') := fun o => bsearch_any v l h _ (hv.fr ((Fr.refl New w).alloc o) (fun _ _ h => h)) ha
  have HV : Hid (∀ wr, Fr New w wr → LiesT wr v l) := fun wr hf => hv.fr hf (fun _ _ h => h)
  obtain ⟨a, cap, rfl, hl, hb, hc⟩ := hv
  clear hc hb ha
  have hmf : ∀ (fn : Fn) (first cap : Array Value) (w : World), (Instr.makeFunc fn first cap).run Tryz.prog w = .ok (.func fn first cap) w := fun _ _ _ _ => rfl
  rcases hx : idx l h with _ | k
  · go_enter Tryz.func39, Tryz.ntmps39
    go_wp2_with (go_at_call 66; refine (HS.out _).mono ?_; rintro e w1 ⟨r, rfl, hs, hf1⟩; obtain ⟨hcr, hzr⟩ := block_cells (hf1.heap (k := w.heap.size) (Go.Deep.blk_alloc_new w _) id); obtain ⟨k, rfl⟩ : ∃ k : Nat, r = .tuple #[.int .i64 k, .bool false] := (by rcases hs with ⟨k, hk, _⟩ | ⟨_, hk⟩; (rw [hx] at hk; cases hk); exact hk))
    refine bodyPost_ret (v := .tuple #[.agg #[.int .i64 0, .int .i64 0, .int .i64 0, .int .i64 0], .bool false]) (by simp [results, Tryz.results39, go_sem, hcr]) rfl ⟨_, rfl, .inr ⟨hx, rfl⟩, ?_⟩
    have hf : Fr New w w1 := ((Fr.refl _ _).alloc _).same hf1
    iterate 4 refine Fr.setCell ?_ (fun h => absurd h (by simp)) _
    exact hf
  · have hk := idx_lt hx
    go_enter Tryz.func39, Tryz.ntmps39
    go_wp2_with (go_at_call 66; refine (HS.out _).mono ?_; rintro e w1 ⟨r, rfl, hs, hf1⟩; obtain ⟨hcr, hzr⟩ := block_cells (hf1.heap (k := w.heap.size) (Go.Deep.blk_alloc_new w _) id); obtain rfl : r = .tuple #[.int .i64 k, .bool true] := (by rcases hs with ⟨k', hk', e⟩ | ⟨hk', _⟩; (rw [hx] at hk'; cases hk'; exact e); (rw [hx] at hk'; cases hk')); obtain ⟨a', cap', e', _, _, hcl⟩ := HV.out w1 (((Fr.refl _ _).alloc _).same hf1); cases e'; obtain ⟨g, rfl, hg, hcc⟩ := hcl (by omega); obtain ⟨c0, c1, c2, c3⟩ := hcc k hk; have hd : decide ((k : Int) < (l.length : Int)) = true := (by simp; omega))
    refine bodyPost_ret (v := .tuple #[.agg #[.int .i64 1, .int .i64 (((l[k]).block + 1 : Nat) : Int), .int .i64 (l[k]).span, .int .i64 (l[k]).ptrs], .bool true]) (by simp [results, Tryz.results39, go_sem, hcr]) rfl ⟨_, rfl, .inl ⟨k, hk, hx, rfl⟩, ?_⟩
    have hf : Fr New w w1 := ((Fr.refl _ _).alloc _).same hf1
    iterate 4 refine Fr.setCell ?_ (fun h => absurd h (by simp)) _
    exact hf
end Go.Proofs.YtbagcjlimdilpabGreat

/- A search by a list of words that wait, as mathematics: what is marked at its end is what is reached. -/
namespace Go.Proofs.YtbagcjlimdilpabGreat

/-- the i-th object is marked -/
def mkd (l : List Ob) (M : List Bool) (i : Nat) : Prop := M.getD (hnd l i) false = true
theorem hnd_inj {l : List Ob} (ha : Asc l) {i k : Nat} (hi : i < l.length) (hk : k < l.length) (h : hnd l i = hnd l k) : i = k := by
  rw [hnd_eq hi, hnd_eq hk] at h
  rcases Nat.lt_or_ge i k with h1 | h1
  · have := ha i k hi hk h1; omega
  · rcases Nat.lt_or_ge k i with h2 | h2
    · have := ha k i hk hi h2; omega
    · omega
theorem mk_set {l : List Ob} {M : List Bool} {h i : Nat} (hh : h < M.length) : mkd l (M.set h true) i ↔ hnd l i = h ∨ mkd l M i := by
  unfold mkd
  rw [List.getD_eq_getElem?_getD, List.getD_eq_getElem?_getD]
  by_cases he : hnd l i = h
  · rw [he]; simp [hh]
  · rw [List.getElem?_set_ne (by omega)]; simp [he]
/-- the marks of the objects alone -/
def marksOf (l : List Ob) (M : List Bool) : List Bool := (List.range l.length).map (fun i => M.getD (hnd l i) false)
theorem marksOf_len (l : List Ob) (M : List Bool) : (marksOf l M).length = l.length := by simp [marksOf]
theorem marksOf_get {l : List Ob} {M : List Bool} {i : Nat} (hi : i < l.length) : (marksOf l M)[i]? = some (M.getD (hnd l i) false) := by simp [marksOf, hi]
theorem marksOf_set {l : List Ob} (ha : Asc l) {M : List Bool} {k : Nat} (hk : k < l.length) (hh : hnd l k < M.length) : marksOf l (M.set (hnd l k) true) = (marksOf l M).set k true := by
  apply List.ext_getElem?
  intro i
  by_cases hi : i < l.length
  · rw [marksOf_get hi]
    by_cases he : i = k
    · subst he
      rw [List.getElem?_set_self (by rw [marksOf_len]; exact hi)]
      simp [hh]
    · rw [List.getElem?_set_ne (by omega), marksOf_get hi, List.getD_eq_getElem?_getD, List.getElem?_set_ne (fun hx => he (hnd_inj ha hk hi hx).symm), ← List.getD_eq_getElem?_getD]
  · rw [List.getElem?_eq_none (by rw [marksOf_len]; omega), List.getElem?_eq_none (by simp [marksOf_len]; omega)]
/-- so many objects are not marked -/
def unm (l : List Ob) (M : List Bool) : Nat := unmarked (marksOf l M)
theorem unm_set {l : List Ob} (ha : Asc l) {M : List Bool} {k : Nat} (hk : k < l.length) (hh : hnd l k < M.length) (hn : ¬ mkd l M k) : unm l (M.set (hnd l k) true) + 1 = unm l M := by
  unfold unm
  rw [marksOf_set ha hk hh]
  refine unmarked_set (by rw [marksOf_len]; exact hk) ?_
  have := marksOf_get (M := M) hk
  rw [List.getElem?_eq_getElem (by rw [marksOf_len]; exact hk), Option.some.injEq] at this
  rw [this]
  unfold mkd at hn
  simpa using hn
theorem unm_start (l : List Ob) (n : Nat) : unm l (List.replicate n false) ≤ l.length := by
  unfold unm unmarked
  have := List.countP_le_length (p := fun b => !b) (l := marksOf l (List.replicate n false))
  rw [marksOf_len] at this
  exact this

/-- what the search keeps: R roots have been seen; of object c q pointers alone -/
structure Dfs (ws : List Int) (l : List Ob) (W : List Int) (M : List Bool) (R c q : Nat) : Prop where
  sound : ∀ i, i < l.length → mkd l M i → Reach ws l i
  wsound : ∀ x ∈ W, ∀ k, idx l x = some k → Reach ws l k
  roots : ∀ r, r < R → ∀ k, idx l (wd ws (3 + r)) = some k → mkd l M k ∨ wd ws (3 + r) ∈ W
  ptrs : ∀ i (hi : i < l.length) p k, mkd l M i → p < (l[i]).ptrs → (i = c → p < q) → idx l (wd ws (pl l[i] p)) = some k → mkd l M k ∨ wd ws (pl l[i] p) ∈ W
  room : W.length + 40 * unm l M + (if c < l.length then 32 - q else 0) ≤ R + 40 * l.length
theorem dfs_start (ws : List Int) (l : List Ob) (n : Nat) : Dfs ws l [] (List.replicate n false) 0 l.length 0 := by
  have hno : ∀ i, ¬ mkd l (List.replicate n false) i := fun i h => by
    unfold mkd at h
    rw [List.getD_eq_getElem?_getD, List.getElem?_replicate] at h
    split at h <;> simp at h
  refine ⟨fun i _ h => absurd h (hno i), fun x hx => by simp at hx, fun r hr => by omega, fun i hi p k h => absurd h (hno i), ?_⟩
  have := unm_start l n
  rw [if_neg (by omega)]
  simp
  omega
theorem Dfs.root {ws : List Int} {l : List Ob} {W : List Int} {M : List Bool} {R q : Nat} (h : Dfs ws l W M R l.length q) (hR : R < 4) : Dfs ws l (W ++ [wd ws (3 + R)]) M (R + 1) l.length q := by
  refine ⟨h.sound, fun x hx k hk => ?_, fun r hr k hk => ?_, fun i hi p k h1 h2 h3 h4 => ?_, ?_⟩
  · rcases List.mem_append.1 hx with hx | hx
    · exact h.wsound x hx k hk
    · obtain rfl : x = wd ws (3 + R) := by simpa using hx
      exact reach_root hR hk
  · rcases Nat.lt_or_ge r R with h' | h'
    · rcases h.roots r h' k hk with h1 | h1
      · exact .inl h1
      · exact .inr (List.mem_append_left _ h1)
    · obtain rfl : r = R := by omega
      exact .inr (by simp)
  · rcases h.ptrs i hi p k h1 h2 h3 h4 with h1 | h1
    · exact .inl h1
    · exact .inr (List.mem_append_left _ h1)
  · have := h.room
    rw [if_neg (by omega)] at this ⊢
    simp
    omega
theorem Dfs.drop {ws : List Int} {l : List Ob} {W : List Int} {x : Int} {M : List Bool} {q : Nat} (h : Dfs ws l (W ++ [x]) M 4 l.length q) (hx : ∀ k, idx l x = some k → mkd l M k) : Dfs ws l W M 4 l.length q := by
  have key : ∀ y k, idx l y = some k → (mkd l M k ∨ y ∈ W ++ [x]) → mkd l M k ∨ y ∈ W := fun y k hy hm => by
    rcases hm with hm | hm
    · exact .inl hm
    · rcases List.mem_append.1 hm with hm | hm
      · exact .inr hm
      · obtain rfl : y = x := by simpa using hm
        exact .inl (hx k hy)
  refine ⟨h.sound, fun y hy => h.wsound y (List.mem_append_left _ hy), fun r hr k hk => key _ k hk (h.roots r hr k hk), fun i hi p k h1 h2 h3 h4 => key _ k h4 (h.ptrs i hi p k h1 h2 h3 h4), ?_⟩
  have := h.room
  simp at this ⊢
  omega
theorem Dfs.mark {ws : List Int} {l : List Ob} (ha : Asc l) {W : List Int} {x : Int} {M : List Bool} {q : Nat} (h : Dfs ws l (W ++ [x]) M 4 l.length q) {k : Nat} (hk : k < l.length) (hx : idx l x = some k) (hh : hnd l k < M.length) (hn : ¬ mkd l M k) :
    Dfs ws l W (M.set (hnd l k) true) 4 k 0 := by
  have hm : ∀ i, mkd l M i → mkd l (M.set (hnd l k) true) i := fun i hi => (mk_set hh).2 (.inr hi)
  have hmk : mkd l (M.set (hnd l k) true) k := (mk_set hh).2 (.inl rfl)
  have key : ∀ y j, idx l y = some j → (mkd l M j ∨ y ∈ W ++ [x]) → mkd l (M.set (hnd l k) true) j ∨ y ∈ W := fun y j hy hm' => by
    rcases hm' with hm' | hm'
    · exact .inl (hm j hm')
    · rcases List.mem_append.1 hm' with hm' | hm'
      · exact .inr hm'
      · obtain rfl : y = x := by simpa using hm'
        rw [hx] at hy
        cases hy
        exact .inl hmk
  refine ⟨fun i hi hmi => ?_, fun y hy => h.wsound y (List.mem_append_left _ hy), fun r hr j hj => key _ j hj (h.roots r hr j hj), fun i hi p j h1 h2 h3 h4 => ?_, ?_⟩
  · rcases (mk_set hh).1 hmi with he | he
    · obtain rfl := hnd_inj ha hi hk he
      exact h.wsound x (by simp) i hx
    · exact h.sound i hi he
  · rcases (mk_set hh).1 h1 with he | he
    · obtain rfl := hnd_inj ha hi hk he
      have := h3 rfl
      omega
    · exact key _ j h4 (h.ptrs i hi p j he h2 (fun he => by omega) h4)
  · have := h.room
    have hu := unm_set ha hk hh hn
    rw [if_neg (by omega)] at this
    rw [if_pos hk]
    simp at this ⊢
    omega
theorem Dfs.push {ws : List Int} {l : List Ob} {W : List Int} {M : List Bool} {k q : Nat} (h : Dfs ws l W M 4 k q) (hk : k < l.length) (hm : mkd l M k) (hq : q < (l[k]).ptrs) (hq32 : q < 32) : Dfs ws l (W ++ [wd ws (pl l[k] q)]) M 4 k (q + 1) := by
  refine ⟨h.sound, fun x hx j hj => ?_, fun r hr j hj => ?_, fun i hi p j h1 h2 h3 h4 => ?_, ?_⟩
  · rcases List.mem_append.1 hx with hx | hx
    · exact h.wsound x hx j hj
    · obtain rfl : x = wd ws (pl l[k] q) := by simpa using hx
      exact reach_step hk (h.sound k hk hm) hq hj
  · rcases h.roots r hr j hj with h1 | h1
    · exact .inl h1
    · exact .inr (List.mem_append_left _ h1)
  · by_cases he : i = k ∧ p = q
    · obtain ⟨rfl, rfl⟩ := he
      exact .inr (by simp)
    · rcases h.ptrs i hi p j h1 h2 (fun hik => by have := h3 hik; omega) h4 with h1 | h1
      · exact .inl h1
      · exact .inr (List.mem_append_left _ h1)
  · have := h.room
    rw [if_pos hk] at this ⊢
    simp
    omega
theorem Dfs.all {ws : List Int} {l : List Ob} {W : List Int} {M : List Bool} {k q : Nat} (h : Dfs ws l W M 4 k q) (hk : k < l.length) (hq : (l[k]).ptrs ≤ q) : Dfs ws l W M 4 l.length 0 := by
  refine ⟨h.sound, h.wsound, h.roots, fun i hi p j h1 h2 h3 h4 => h.ptrs i hi p j h1 h2 (fun hik => by subst hik; omega) h4, ?_⟩
  have := h.room
  rw [if_neg (by omega)]
  omega
theorem Dfs.done {ws : List Int} {l : List Ob} {M : List Bool} {q : Nat} (h : Dfs ws l [] M 4 l.length q) (hlt : ∀ r k, idx l r = some k → k < l.length) (i : Nat) (hi : i < l.length) : mkd l M i ↔ Reach ws l i :=
  ⟨h.sound i hi, fun hr => (hr (fun i => i < l.length ∧ mkd l M i) ⟨fun r hr k hk => ⟨hlt _ k hk, (h.roots r hr k hk).resolve_right (by simp)⟩, fun i hi' p k ho hp hk => ⟨hlt _ k hk, (h.ptrs i hi' p k ho.2 hp (fun he => by omega) hk).resolve_right (by simp)⟩⟩).2⟩
end Go.Proofs.YtbagcjlimdilpabGreat

