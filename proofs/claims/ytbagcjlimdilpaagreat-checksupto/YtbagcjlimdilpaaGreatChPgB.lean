/- Walks of the program's Shaped, Logged, ParseHeader, HeadOf, wrongHead. -/
import Derived.Test.YtbagcjlimdilpaaGreatChJ3
import Derived.Test.YtbagcjlimdilpaaGreatChJ1
namespace Go.Proofs.YtbagcjlimdilpaaGreat
open Go.RowKit

theorem lblocks_low (L : Nat) (w : World) (h : L < 106) :
    Calls Tryz.prog 95 #[.int .i64 L] w fun e w' => ∃ v : Int, v ≤ 0 ∧ e = .returned (.int .i64 v) ∧ w' = w := by
  go_enter Tryz.func95, Tryz.ntmps95
  go_wp2
  go_ret
  refine ⟨_, ?_, rfl, rfl⟩
  rw [show (L : Int) - 106 = -((106 : Int) - L) by omega, Int.neg_tdiv, Int.tdiv_eq_ediv_of_nonneg (by omega)]
  omega
theorem shaped_yes (L : Nat) (w : World) (h : nblk L ≠ 0) :
    Calls Tryz.prog 46 #[.int .i64 L] w fun e w' => e = .returned (.bool true) ∧ w' = w := by
  obtain ⟨h1, h2, h3⟩ := nblk_some h
  obtain ⟨n, hn⟩ : ∃ n, n = nblk L := ⟨_, rfl⟩
  rw [← hn] at h1 h2 h3
  clear h hn
  subst h1
  have HB : Hid (Calls Tryz.prog 95 #[.int .i64 ((106 + 8 * n : Nat) : Int)] w fun e w' => e = .returned (.int .i64 (n : Int)) ∧ w' = w) := by
    have := lblocks_any (106 + 8 * n) w (by omega) (by omega)
    rwa [show (106 + 8 * n - 106) / 8 = n by omega] at this
  have hde : (106 + 8 * (n : Int) == ((106 + 8 * n : Nat) : Int)) = true := by simp
  go_enter Tryz.func46, Tryz.ntmps46
  go_wp2_with (first
    | (go_at_call 95; refine calls_same HB.out ?_)
    | (go_at_call 64; refine calls_same (fits_true n w (by omega) (by omega)) ?_)
    | (go_at_call 65; refine calls_same (length_any n w h3) ?_))
  go_ret
  exact ⟨rfl, rfl⟩
theorem shaped_no (L : Nat) (w : World) (hL : L ≤ 1048576) (h : nblk L = 0) :
    Calls Tryz.prog 46 #[.int .i64 L] w fun e w' => e = .returned (.bool false) ∧ w' = w := by
  by_cases hlo : L < 106
  · go_enter Tryz.func46, Tryz.ntmps46
    go_wp2_with (first
      | (go_at_call 95; refine (lblocks_low L w hlo).mono ?_; rintro e w' ⟨v, hv, rfl, rfl⟩)
      | (go_at_call 64; refine calls_same (fits_false _ _ (by omega)) ?_))
    go_ret
    exact ⟨rfl, rfl⟩
  · obtain ⟨v, hv⟩ : ∃ v, v = (L - 106) / 8 := ⟨_, rfl⟩
    have HB : Hid (Calls Tryz.prog 95 #[.int .i64 (L : Int)] w fun e w' => e = .returned (.int .i64 (v : Int)) ∧ w' = w) := by
      have := lblocks_any L w (by omega) hL
      rwa [← hv] at this
    by_cases hf : 1 ≤ v ∧ v ≤ 32
    · have hne : L ≠ 106 + 8 * v := nblk_none h v hf.1 hf.2
      have hde : (106 + 8 * (v : Int) == (L : Int)) = false := by simp; omega
      clear hv
      go_enter Tryz.func46, Tryz.ntmps46
      go_wp2_with (first
        | (go_at_call 95; refine calls_same HB.out ?_)
        | (go_at_call 64; refine calls_same (fits_true v w (by omega) (by omega)) ?_)
        | (go_at_call 65; refine calls_same (length_any v w hf.2) ?_))
      go_ret
      exact ⟨rfl, rfl⟩
    · clear hv
      go_enter Tryz.func46, Tryz.ntmps46
      go_wp2_with (first
        | (go_at_call 95; refine calls_same HB.out ?_)
        | (go_at_call 64; refine calls_same (fits_false v w (by omega)) ?_))
      go_ret
      exact ⟨rfl, rfl⟩

theorem logged_any (p : Int) (L : Nat) (w : World) (h8 : 8 ≤ L) (hL : L ≤ 1048576) :
    Calls Tryz.prog 137 #[.int .u64 p, .int .i64 L] w fun e w' => e = .returned (.bool (okAt L p)) ∧ w' = w := by
  have hw1 : IntKind.u64.wrap (L : Int) = L := by rw [IntKind.wrap_u64]; omega
  by_cases h1 : p < 8
  · rw [okAt_iff.2 ⟨by omega, .inl h1⟩]
    have hd1 : decide (p < 8) = true := by simpa using h1
    go_enter Tryz.func137, Tryz.ntmps137
    go_wp2
    go_ret
    exact ⟨rfl, rfl⟩
  · have hd1 : decide (p < 8) = false := by simpa using h1
    by_cases h2 : 106 ≤ p
    · have hd2 : decide (106 ≤ p) = true := by simpa using h2
      by_cases h3 : p < L
      · rw [okAt_iff.2 ⟨h3, .inr h2⟩]
        have hd3 : decide (p < (L : Int)) = true := by simpa using h3
        go_enter Tryz.func137, Tryz.ntmps137
        go_wp2
        go_ret
        exact ⟨rfl, rfl⟩
      · have he : okAt L p = false := by
          rcases hk : okAt L p with _ | _
          · rfl
          · exact absurd (okAt_iff.1 hk).1 h3
        rw [he]
        have hd3 : decide (p < (L : Int)) = false := by simpa using h3
        go_enter Tryz.func137, Tryz.ntmps137
        go_wp2
        go_ret
        exact ⟨rfl, rfl⟩
    · have hd2 : decide (106 ≤ p) = false := by simpa using h2
      have he : okAt L p = false := by
        rcases hk : okAt L p with _ | _
        · rfl
        · have := (okAt_iff.1 hk).2; omega
      rw [he]
      go_enter Tryz.func137, Tryz.ntmps137
      go_wp2
      go_ret
      exact ⟨rfl, rfl⟩

theorem words_any' (s : Nat) (w : World) (hs : s ≤ 1048576) : Calls Tryz.prog 108 #[.int .i64 s] w fun e w' => e = .returned (.int .i64 (8 * (s : Int) - 1)) ∧ w' = w := by
  go_enter Tryz.func108, Tryz.ntmps108
  go_wp2
  go_ret
  exact ⟨rfl, rfl⟩

/-- may there be an object with that span and so many pointers? -/
def properB (s p : Int) : Bool := decide (1 ≤ s) && decide (s ≤ 4) && decide (0 ≤ p) && decide (p ≤ 8 * s - 1)
theorem properB_iff {s p : Int} : properB s p = true ↔ 1 ≤ s ∧ s ≤ 4 ∧ 0 ≤ p ∧ p < 8 * s := by
  unfold properB
  simp only [Bool.and_eq_true, decide_eq_true_eq]
  omega
theorem wordsZ_any (s : Int) (w : World) (hs : -1048576 ≤ s ∧ s ≤ 1048576) : Calls Tryz.prog 108 #[.int .i64 s] w fun e w' => e = .returned (.int .i64 (8 * s - 1)) ∧ w' = w := by
  go_enter Tryz.func108, Tryz.ntmps108
  go_wp2
  go_ret
  exact ⟨rfl, rfl⟩
theorem proper_any (s p : Int) (w : World) : Calls Tryz.prog 67 #[.int .i64 s, .int .i64 p] w fun e w' => e = .returned (.bool (properB s p)) ∧ w' = w := by
  by_cases h1 : 1 ≤ s
  · have hd1 : decide (1 ≤ s) = true := by simpa using h1
    by_cases h2 : s ≤ 4
    · have hd2 : decide (s ≤ 4) = true := by simpa using h2
      by_cases h3 : 0 ≤ p
      · have hd3 : decide (0 ≤ p) = true := by simpa using h3
        have HP : Hid (properB s p = decide (p ≤ 8 * s - 1)) := by unfold properB; rw [hd1, hd2, hd3]; rfl
        go_enter Tryz.func67, Tryz.ntmps67
        go_wp2_with (go_at_call 108; refine calls_same (wordsZ_any s w (by omega)) ?_)
        go_ret
        exact ⟨by rw [HP.out]; rfl, rfl⟩
      · have hd3 : decide (0 ≤ p) = false := by simpa using h3
        have HP : Hid (properB s p = false) := by unfold properB; rw [hd1, hd2, hd3]; rfl
        go_enter Tryz.func67, Tryz.ntmps67
        go_wp2
        go_ret
        exact ⟨by rw [HP.out]; rfl, rfl⟩
    · have hd2 : decide (s ≤ 4) = false := by simpa using h2
      have HP : Hid (properB s p = false) := by unfold properB; rw [hd1, hd2]; rfl
      go_enter Tryz.func67, Tryz.ntmps67
      go_wp2
      go_ret
      exact ⟨by rw [HP.out]; rfl, rfl⟩
  · have hd1 : decide (1 ≤ s) = false := by simpa using h1
    have HP : Hid (properB s p = false) := by unfold properB; rw [hd1]; rfl
    go_enter Tryz.func67, Tryz.ntmps67
    go_wp2
    go_ret
    exact ⟨by rw [HP.out]; rfl, rfl⟩

/-- a header by itself -/
def hdr1 (h : Int) : Prop := 1000100 ≤ h ∧ h < 1000500 ∧ ptrsOf h < 8 * spanOf h
theorem parse_yes (h : Int) (w : World) (hh : hdr1 h) :
    Calls Tryz.prog 157 #[.int .u64 h] w fun e w' => e = .returned (.tuple #[.int .i64 (spanOf h), .int .i64 (ptrsOf h), .bool true]) ∧ w' = w := by
  obtain ⟨h1, h2, h3⟩ := hh
  obtain ⟨r, hr⟩ : ∃ r, r = h - 1000000 := ⟨_, rfl⟩
  obtain rfl : h = r + 1000000 := by omega
  obtain ⟨s, hs⟩ : ∃ s, s = spanOf (r + 1000000) := ⟨_, rfl⟩
  obtain ⟨p, hp⟩ : ∃ p, p = ptrsOf (r + 1000000) := ⟨_, rfl⟩
  rw [← hs, ← hp] at h3
  have hs' : r / 100 = s := by rw [hs]; unfold spanOf; omega
  have hp' : r % 100 = p := by rw [hp]; unfold ptrsOf; omega
  have hw1 : IntKind.u64.wrap (r + 1000000 - 1000000) = r := by rw [IntKind.wrap_u64]; omega
  have hw2 : IntKind.i64.wrap r = r := by rw [IntKind.wrap_i64]; omega
  rw [← hs, ← hp]
  have HPR : Hid (Calls Tryz.prog 67 #[.int .i64 (s : Int), .int .i64 (p : Int)] w fun e w' => e = .returned (.bool true) ∧ w' = w) := by
    have := proper_any (s : Int) (p : Int) w
    rwa [properB_iff.2 ⟨by omega, by omega, by omega, by omega⟩] at this
  clear hs hp hr
  go_enter Tryz.func157, Tryz.ntmps157
  go_wp2_with (go_at_call 67; refine calls_same HPR.out ?_)
  exact bodyPost_ret (v := .tuple #[.int .i64 s, .int .i64 p, .bool true]) (by simp [results, Tryz.results157, go_sem]) rfl ⟨rfl, rfl⟩
theorem parse_no (h : Int) (w : World) (hh : ¬ hdr1 h) :
    Calls Tryz.prog 157 #[.int .u64 h] w fun e w' => e = .returned (.tuple #[.int .i64 0, .int .i64 0, .bool false]) ∧ w' = w := by
  by_cases h1 : h < 1000000
  · have hd1 : decide (h < 1000000) = true := by simpa using h1
    go_enter Tryz.func157, Tryz.ntmps157
    go_wp2
    exact bodyPost_ret (v := .tuple #[.int .i64 0, .int .i64 0, .bool false]) (by simp [results, Tryz.results157, go_sem]) rfl ⟨rfl, rfl⟩
  · have hd1 : decide (h < 1000000) = false := by simpa using h1
    by_cases h2 : 1000500 ≤ h
    · have hd2 : decide (1000500 ≤ h) = true := by simpa using h2
      go_enter Tryz.func157, Tryz.ntmps157
      go_wp2
      exact bodyPost_ret (v := .tuple #[.int .i64 0, .int .i64 0, .bool false]) (by simp [results, Tryz.results157, go_sem]) rfl ⟨rfl, rfl⟩
    · have hd2 : decide (1000500 ≤ h) = false := by simpa using h2
      obtain ⟨r, hr⟩ : ∃ r, r = h - 1000000 := ⟨_, rfl⟩
      obtain rfl : h = r + 1000000 := by omega
      obtain ⟨s, hs⟩ : ∃ s, s = spanOf (r + 1000000) := ⟨_, rfl⟩
      obtain ⟨p, hp⟩ : ∃ p, p = ptrsOf (r + 1000000) := ⟨_, rfl⟩
      have hs' : r / 100 = s := by rw [hs]; unfold spanOf; omega
      have hp' : r % 100 = p := by rw [hp]; unfold ptrsOf; omega
      have hw1 : IntKind.u64.wrap (r + 1000000 - 1000000) = r := by rw [IntKind.wrap_u64]; omega
      have hw2 : IntKind.i64.wrap r = r := by rw [IntKind.wrap_i64]; omega
      have hx : s < 1 ∨ (1 ≤ s ∧ 8 * s ≤ p) := by
        by_cases hs1 : s < 1
        · exact .inl hs1
        · right
          refine ⟨by omega, ?_⟩
          rcases Nat.lt_or_ge p (8 * s) with hlt | hge
          · exact absurd ⟨by omega, by omega, by rw [← hs, ← hp]; exact hlt⟩ hh
          · exact hge
      have HPR : Hid (Calls Tryz.prog 67 #[.int .i64 (s : Int), .int .i64 (p : Int)] w fun e w' => e = .returned (.bool false) ∧ w' = w) := by
        have := proper_any (s : Int) (p : Int) w
        rwa [show properB s p = false from by
          rcases hq : properB (s : Int) (p : Int) with _ | _
          · rfl
          · have := properB_iff.1 hq; omega] at this
      clear hs hp hr hh hx
      go_enter Tryz.func157, Tryz.ntmps157
      go_wp2_with (go_at_call 67; refine calls_same HPR.out ?_)
      exact bodyPost_ret (v := .tuple #[.int .i64 0, .int .i64 0, .bool false]) (by simp [results, Tryz.results157, go_sem]) rfl ⟨rfl, rfl⟩

/-- the words of a head -/
def headArr (hs : List Int) : Obj := .cells ((hs.map (Value.int .u64)).toArray) 126 (0, 0)
theorem head_eight {ws hs : List Int} (h8 : hs.length = 8) (h : ∀ j, j < 8 → hs[j]? = some (wd ws j)) : hs = [wd ws 0, wd ws 1, wd ws 2, wd ws 3, wd ws 4, wd ws 5, wd ws 6, wd ws 7] := by
  apply List.ext_getElem?
  intro i
  by_cases hi : i < 8
  · rw [h i hi]
    match i, hi with
    | 0, _ => rfl
    | 1, _ => rfl
    | 2, _ => rfl
    | 3, _ => rfl
    | 4, _ => rfl
    | 5, _ => rfl
    | 6, _ => rfl
    | 7, _ => rfl
  · rw [List.getElem?_eq_none (by omega), List.getElem?_eq_none (by simp; omega)]
/-- a head as a value -/
abbrev headA (ws : List Int) : Value := .agg #[.int .u64 (wd ws 0), .int .u64 (wd ws 1), .int .u64 (wd ws 2), .int .u64 (wd ws 3), .int .u64 (wd ws 4), .int .u64 (wd ws 5), .int .u64 (wd ws 6), .int .u64 (wd ws 7)]
/-- what the loop keeps -/
structure Heading (w : World) (ws : List Int) (k : Nat) (wr : World) : Prop where
  fr : Fr New w wr
  blk : ∃ hs : List Int, wr.heap[w.heap.size + 1]? = some (headArr hs) ∧ hs.length = 8 ∧ ∀ j, j < k → hs[j]? = some (wd ws j)
  res : wr.heap[w.heap.size]? = some (headArr [0, 0, 0, 0, 0, 0, 0, 0])
set_option maxRecDepth 100000 in
theorem headOf_row (t : Nat) (x : Value) (fL fR : Nat) (y : Value) (ws : List Int) (w : World) (h8 : 8 ≤ ws.length) (hrow : RowAt w t x fL fR y ws) :
    Calls Tryz.prog 111 #[.iface t x] w fun e w' => e = .returned (headA ws) ∧ Fr New w w' := by
  have HW : Hid (∀ wr, Fr New w wr → ∀ i, i < ws.length → Calls Tryz.prog fR #[y, .int .i64 (i : Nat)] wr fun e w'' => e = .returned (.int .u64 (wd ws i)) ∧ w'' = wr) := hrow.read
  have HM : Hid (∀ w', Fr New w w' → (method 356 t x "Read").run Tryz.prog w' = .ok (fR, y) w') := hrow.mread
  have hcf := hrow.cread
  clear hrow
  go_enter Tryz.func111, Tryz.ntmps111
  go_wp2
  go_loopw [5] (fun t wr => ∃ k : Nat, k ≤ 8 ∧ t = .int .i64 k ∧ Heading w ws k wr) (fun t _ => 8 - (intOf t).toNat)
  case atStart => exact ⟨0, by omega, rfl, ⟨((Fr.refl _ _).alloc _).alloc _, ⟨[0, 0, 0, 0, 0, 0, 0, 0], new_at2 w _ _, rfl, fun j hj => by omega⟩, (Go.Deep.blk_alloc_lt _ _ _ (by simp)).trans (Go.Deep.blk_alloc_new w _)⟩⟩
  case round =>
    obtain ⟨k, hk, rfl, hH⟩ := hrel
    by_cases hlt : k < 8
    · have HC : Hid (Calls Tryz.prog fR #[y, .int .i64 (k : Nat)] wr fun e w'' => e = .returned (.int .u64 (wd ws k)) ∧ w'' = wr) := HW.out wr hH.fr k (by omega)
      have hm := HM.out wr hH.fr
      obtain ⟨hs, hb, hl, hj⟩ := hH.blk
      have hcb : wr.cell? ⟨w.heap.size + 1, k, none⟩ = some (.int .u64 (hs.getD k 0)) := by
        rw [(block_cells hb).1]
        simp [List.getD, show k < hs.length by omega]
      have hzb := (block_cells hb).2 k
      have HN : Hid (Heading w ws (k + 1) (wr.setCell ⟨w.heap.size + 1, k, none⟩ (.int .u64 (wd ws k)))) := by
        refine ⟨hH.fr.setCell (fun h => absurd h (by simp)) _, ⟨hs.set k (wd ws k), ?_, by simpa using hl, fun j hjk => ?_⟩, ?_⟩
        · rw [heap_setCell_same wr _ k _ _ _ hb]
          simp [headArr, List.map_set]
        · by_cases he : j = k
          · subst he; rw [List.getElem?_set_self (by omega)]
          · rw [List.getElem?_set_ne (by omega)]; exact hj j (by omega)
        · rw [Go.Deep.blk_setCell_other _ _ _ _ (by simp)]; exact hH.res
      obtain ⟨z, hx⟩ : ∃ z, z = wd ws k := ⟨_, rfl⟩
      rw [← hx] at HC HN
      clear hb hj hx hH
      go_wp2_with (refine calls_same HC.out ?_)
      go_roundw
      case rel => exact ⟨k + 1, by omega, by go_num, HN.out⟩
      case measure => simp [intOf]; omega
    · obtain rfl : k = 8 := by omega
      obtain ⟨hs, hb, hl, hj⟩ := hH.blk
      obtain rfl := head_eight hl hj
      obtain ⟨hcc, hzz⟩ := block_cells hb
      obtain ⟨hcr, hzr⟩ := block_cells hH.res
      have hf := hH.fr
      clear hb hj hH hl
      go_wp2
      refine bodyPost_ret (v := headA ws) (by simp [results, Tryz.results111, go_sem, hcr]) rfl ⟨rfl, ?_⟩
      iterate 8 refine Fr.setCell ?_ (fun h => absurd h (by simp)) _
      exact hf
theorem headOf_any (sb so L c : Nat) (ws : List Int) (w : World) (hL : ws.length = L) (h8 : 8 ≤ L) (hcw : ∀ i, i < L → w.cell? ⟨sb, so + i, none⟩ = some (.int .u64 (wd ws i))) :
    Calls Tryz.prog 111 #[rowV (some ⟨sb, so, none⟩) L c] w fun e w' => e = .returned (headA ws) ∧ Fr New w w' := headOf_row _ _ _ _ _ ws w (by omega) (kept_row hL hcw)
end Go.Proofs.YtbagcjlimdilpaaGreat
