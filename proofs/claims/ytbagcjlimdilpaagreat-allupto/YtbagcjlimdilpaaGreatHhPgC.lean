/- The walk of the program's wrongHead. -/
import Derived.Test.YtbagcjlimdilpaaGreatHhJ3
import Derived.ChangeKeysEq
import Derived.Deep.CutRange
namespace Go.Proofs.YtbagcjlimdilpaaGreat
open Go.RowKit

theorem items_step (xs ys : Array Value) (i : Nat) (is : List Nat) (x y : Int) (w : World) (hx : xs[i]? = some (.int .u64 x)) (hy : ys[i]? = some (.int .u64 y)) :
    (Op.eqItems 9999 50 1 xs ys (i :: is)).run Tryz.prog w = if x = y then (Op.eqItems 9999 50 1 xs ys is).run Tryz.prog w else .ok false w := by
  have he : Tryz.prog.plainKey 50 = true := by kernel_rfl
  simp only [Op.eqItems, Sem.run_bind]
  rw [Nat.mul_one, run_part_plain w he hx]
  simp only [Result.andThen_ok]
  rw [run_part_plain w he hy]
  simp only [Result.andThen_ok]
  rw [show (9999 : Nat) = 9998 + 1 from rfl, run_equalIn_int w 9998 50 .u64 .u64 x y Tryz.underlying50]
  simp only [Result.andThen_ok]
  by_cases h : x = y
  · subst h; simp
  · simp [h]
theorem head_eq (x0 x1 x2 x3 x4 x5 x6 x7 m n s : Int) (w : World) :
    (Op.equalIn 10000 126 (.agg #[.int .u64 x0, .int .u64 x1, .int .u64 x2, .int .u64 x3, .int .u64 x4, .int .u64 x5, .int .u64 x6, .int .u64 x7])
      (.agg #[.int .u64 m, .int .u64 n, .int .u64 x2, .int .u64 x3, .int .u64 x4, .int .u64 x5, .int .u64 x6, .int .u64 s])).run Tryz.prog w = .ok (x0 == m && (x1 == n && x7 == s)) w := by
  obtain ⟨i0, hi, hz0, hz1, hz2⟩ := info_parts Tryz.info50
  rw [run_equalIn_array w 9999 (n := 8) (e := 50) _ _ Tryz.underlying126 hi]
  have hc : Tryz.prog.cellsOf 50 = 1 := by kernel_rfl
  rw [hc, show List.range 8 = [0, 1, 2, 3, 4, 5, 6, 7] from rfl]
  rw [items_step _ _ 0 _ x0 m w rfl rfl, items_step _ _ 1 _ x1 n w rfl rfl, items_step _ _ 2 _ x2 x2 w rfl rfl, items_step _ _ 3 _ x3 x3 w rfl rfl, items_step _ _ 4 _ x4 x4 w rfl rfl, items_step _ _ 5 _ x5 x5 w rfl rfl, items_step _ _ 6 _ x6 x6 w rfl rfl, items_step _ _ 7 _ x7 s w rfl rfl]
  simp only [if_true, Op.eqItems, Sem.run_pure]
  by_cases h0 : x0 = m
  · by_cases h1 : x1 = n
    · by_cases h7 : x7 = s
      · simp [h0, h1, h7]
      · simp [h0, h1, h7]
    · simp [h0, h1]
  · simp [h0]
/-- where a head is wrong first, and whether it is -/
def headS (ws : List Int) (n : Nat) : Int × Bool :=
  if wd ws 0 ≠ 20261114 then (0, true) else if wd ws 1 ≠ n then (1, true) else if wd ws 7 ≠ sumL (ws.take 7) then (7, true) else (0, false)
theorem take_seven {ws : List Int} (h : 8 ≤ ws.length) : ws.take 7 = [wd ws 0, wd ws 1, wd ws 2, wd ws 3, wd ws 4, wd ws 5, wd ws 6] := by
  match ws, h with
  | a :: b :: c :: d :: e :: f :: g :: r, _ => rfl

theorem rel_one {w w1 w2 : World} {H F : Array Value} (hf1 : Fr New w w1) (hw : Fr New (w1.alloc (.cells H 126)) w2) :
    ∃ g, (Value.pointer (some ⟨w2.heap.size, 0, none⟩)) = .pointer (some ⟨g, 0, none⟩) ∧ (w2.alloc (.cells F 126)).heap[g]? = some (.cells F 126 (0, 0)) ∧ (w2.alloc (.cells F 126)).heap[w1.heap.size]? = some (.cells H 126 (0, 0)) ∧ Fr New w (w2.alloc (.cells F 126)) :=
  ⟨_, rfl, Go.Deep.blk_alloc_new w2 _, ((Fr.refl New w2).alloc _).heap (hw.heap (Go.Deep.blk_alloc_new w1 _) id) id, ((hf1.alloc _).same hw).alloc _⟩
theorem set_eight {w : World} {g : Nat} {x0 x1 x2 x3 x4 x5 x6 x7 y0 y1 y2 y3 y4 y5 y6 y7 : Value} (h : w.heap[g]? = some (.cells #[x0, x1, x2, x3, x4, x5, x6, x7] 126 (0, 0))) :
    ((((((((w.setCell ⟨g, 0, none⟩ y0).setCell ⟨g, 1, none⟩ y1).setCell ⟨g, 2, none⟩ y2).setCell ⟨g, 3, none⟩ y3).setCell ⟨g, 4, none⟩ y4).setCell ⟨g, 5, none⟩ y5).setCell ⟨g, 6, none⟩ y6).setCell ⟨g, 7, none⟩ y7).heap[g]? = some (.cells #[y0, y1, y2, y3, y4, y5, y6, y7] 126 (0, 0)) := by
  have h0 : (w.setCell ⟨g, 0, none⟩ y0).heap[g]? = some (.cells #[y0, x1, x2, x3, x4, x5, x6, x7] 126 (0, 0)) := (heap_setCell_same _ g 0 _ _ y0 h).trans (by simp)
  have h1 : ((w.setCell ⟨g, 0, none⟩ y0).setCell ⟨g, 1, none⟩ y1).heap[g]? = some (.cells #[y0, y1, x2, x3, x4, x5, x6, x7] 126 (0, 0)) := (heap_setCell_same _ g 1 _ _ y1 h0).trans (by simp)
  have h2 : (((w.setCell ⟨g, 0, none⟩ y0).setCell ⟨g, 1, none⟩ y1).setCell ⟨g, 2, none⟩ y2).heap[g]? = some (.cells #[y0, y1, y2, x3, x4, x5, x6, x7] 126 (0, 0)) := (heap_setCell_same _ g 2 _ _ y2 h1).trans (by simp)
  have h3 : ((((w.setCell ⟨g, 0, none⟩ y0).setCell ⟨g, 1, none⟩ y1).setCell ⟨g, 2, none⟩ y2).setCell ⟨g, 3, none⟩ y3).heap[g]? = some (.cells #[y0, y1, y2, y3, x4, x5, x6, x7] 126 (0, 0)) := (heap_setCell_same _ g 3 _ _ y3 h2).trans (by simp)
  have h4 : (((((w.setCell ⟨g, 0, none⟩ y0).setCell ⟨g, 1, none⟩ y1).setCell ⟨g, 2, none⟩ y2).setCell ⟨g, 3, none⟩ y3).setCell ⟨g, 4, none⟩ y4).heap[g]? = some (.cells #[y0, y1, y2, y3, y4, x5, x6, x7] 126 (0, 0)) := (heap_setCell_same _ g 4 _ _ y4 h3).trans (by simp)
  have h5 : ((((((w.setCell ⟨g, 0, none⟩ y0).setCell ⟨g, 1, none⟩ y1).setCell ⟨g, 2, none⟩ y2).setCell ⟨g, 3, none⟩ y3).setCell ⟨g, 4, none⟩ y4).setCell ⟨g, 5, none⟩ y5).heap[g]? = some (.cells #[y0, y1, y2, y3, y4, y5, x6, x7] 126 (0, 0)) := (heap_setCell_same _ g 5 _ _ y5 h4).trans (by simp)
  have h6 : (((((((w.setCell ⟨g, 0, none⟩ y0).setCell ⟨g, 1, none⟩ y1).setCell ⟨g, 2, none⟩ y2).setCell ⟨g, 3, none⟩ y3).setCell ⟨g, 4, none⟩ y4).setCell ⟨g, 5, none⟩ y5).setCell ⟨g, 6, none⟩ y6).heap[g]? = some (.cells #[y0, y1, y2, y3, y4, y5, y6, x7] 126 (0, 0)) := (heap_setCell_same _ g 6 _ _ y6 h5).trans (by simp)
  have h7 : ((((((((w.setCell ⟨g, 0, none⟩ y0).setCell ⟨g, 1, none⟩ y1).setCell ⟨g, 2, none⟩ y2).setCell ⟨g, 3, none⟩ y3).setCell ⟨g, 4, none⟩ y4).setCell ⟨g, 5, none⟩ y5).setCell ⟨g, 6, none⟩ y6).setCell ⟨g, 7, none⟩ y7).heap[g]? = some (.cells #[y0, y1, y2, y3, y4, y5, y6, y7] 126 (0, 0)) := (heap_setCell_same _ g 7 _ _ y7 h6).trans (by simp)
  exact h7
theorem rel_two {w w1 w2 : World} {H : Array Value} {z0 z1 z2 z3 z4 z5 z6 z7 y0 y1 y2 y3 y4 y5 y6 y7 : Value} (hf1 : Fr New w w1) (hw : Fr New ((w1.alloc (.cells H 126)).alloc (.cells #[z0, z1, z2, z3, z4, z5, z6, z7] 126)) w2) :
    ∃ g, (Value.pointer (some ⟨w1.heap.size + 1, 0, none⟩)) = .pointer (some ⟨g, 0, none⟩) ∧
      ((((((((w2.setCell ⟨w1.heap.size + 1, 0, none⟩ y0).setCell ⟨w1.heap.size + 1, 1, none⟩ y1).setCell ⟨w1.heap.size + 1, 2, none⟩ y2).setCell ⟨w1.heap.size + 1, 3, none⟩ y3).setCell ⟨w1.heap.size + 1, 4, none⟩ y4).setCell ⟨w1.heap.size + 1, 5, none⟩ y5).setCell ⟨w1.heap.size + 1, 6, none⟩ y6).setCell ⟨w1.heap.size + 1, 7, none⟩ y7).heap[g]? = some (.cells #[y0, y1, y2, y3, y4, y5, y6, y7] 126 (0, 0)) ∧
      ((((((((w2.setCell ⟨w1.heap.size + 1, 0, none⟩ y0).setCell ⟨w1.heap.size + 1, 1, none⟩ y1).setCell ⟨w1.heap.size + 1, 2, none⟩ y2).setCell ⟨w1.heap.size + 1, 3, none⟩ y3).setCell ⟨w1.heap.size + 1, 4, none⟩ y4).setCell ⟨w1.heap.size + 1, 5, none⟩ y5).setCell ⟨w1.heap.size + 1, 6, none⟩ y6).setCell ⟨w1.heap.size + 1, 7, none⟩ y7).heap[w1.heap.size]? = some (.cells H 126 (0, 0)) ∧
      Fr New w ((((((((w2.setCell ⟨w1.heap.size + 1, 0, none⟩ y0).setCell ⟨w1.heap.size + 1, 1, none⟩ y1).setCell ⟨w1.heap.size + 1, 2, none⟩ y2).setCell ⟨w1.heap.size + 1, 3, none⟩ y3).setCell ⟨w1.heap.size + 1, 4, none⟩ y4).setCell ⟨w1.heap.size + 1, 5, none⟩ y5).setCell ⟨w1.heap.size + 1, 6, none⟩ y6).setCell ⟨w1.heap.size + 1, 7, none⟩ y7) := by
  refine ⟨_, rfl, set_eight (hw.heap (new_at2 w1 _ _) id), ?_, ?_⟩
  · refine Fr.heap (T := fun k => k = w1.heap.size + 1) (w := w2) ?_ (hw.heap ((Go.Deep.blk_alloc_lt _ _ _ (by simp)).trans (Go.Deep.blk_alloc_new w1 _)) id) (by simp)
    iterate 8 refine Fr.setCell (T := fun k => k = w1.heap.size + 1) ?_ (fun _ => rfl) _
    exact Fr.refl _ _
  · have hf := ((hf1.alloc _).alloc _).same hw
    have := hf1.size
    iterate 8 refine Fr.setCell ?_ (fun h => absurd h (by simp; omega)) _
    exact hf
/-- the k-th of two heads -/
def headAt (hs : List Int) (k : Nat) : Int := hs.getD k 0
theorem headAt7 (a b c d e f g h : Int) : headAt [a, b, c, d, e, f, g, h] 7 = h := rfl
theorem diff_at {ws : List Int} {n : Nat} {x0 x1 x2 x3 x4 x5 x6 x7 : Int} (HS : headS ws n = if x0 ≠ 20261114 then (0, true) else if x1 ≠ n then (1, true) else if x7 ≠ sumL [x0, x1, x2, x3, x4, x5, x6] then (7, true) else (0, false)) (hd : (x0 == 20261114 && (x1 == (n : Int) && x7 == sumL [20261114, n, x2, x3, x4, x5, x6])) = false) :
    ∃ P : Nat, P < 8 ∧ (∀ k, k < P → headAt [x0, x1, x2, x3, x4, x5, x6, x7] k = headAt [20261114, n, x2, x3, x4, x5, x6, sumL [20261114, n, x2, x3, x4, x5, x6]] k) ∧
      headAt [x0, x1, x2, x3, x4, x5, x6, x7] P ≠ headAt [20261114, n, x2, x3, x4, x5, x6, sumL [20261114, n, x2, x3, x4, x5, x6]] P ∧ headS ws n = ((P : Int), true) := by
  by_cases h0 : x0 = 20261114
  · by_cases h1 : x1 = n
    · have h7 : x7 ≠ sumL [20261114, n, x2, x3, x4, x5, x6] := by
        intro h
        rw [h0, h1, ← h] at hd
        simp at hd
      subst h0 h1
      refine ⟨7, by omega, fun k hk => ?_, by rw [headAt7, headAt7]; exact h7, ?_⟩
      · match k, hk with
        | 0, _ => rfl
        | 1, _ => rfl
        | 2, _ => rfl
        | 3, _ => rfl
        | 4, _ => rfl
        | 5, _ => rfl
        | 6, _ => rfl
      · rw [HS, if_neg (by simp), if_neg (by simp), if_pos h7]; rfl
    · subst h0
      refine ⟨1, by omega, fun k hk => ?_, h1, ?_⟩
      · match k, hk with
        | 0, _ => rfl
      · rw [HS, if_neg (by simp), if_pos h1]; rfl
  · refine ⟨0, by omega, fun k hk => by omega, h0, ?_⟩
    rw [HS, if_pos h0]; rfl
theorem same_at {ws : List Int} {n : Nat} {x0 x1 x2 x3 x4 x5 x6 x7 : Int} (HS : headS ws n = if x0 ≠ 20261114 then (0, true) else if x1 ≠ n then (1, true) else if x7 ≠ sumL [x0, x1, x2, x3, x4, x5, x6] then (7, true) else (0, false)) (hd : (x0 == 20261114 && (x1 == (n : Int) && x7 == sumL [20261114, n, x2, x3, x4, x5, x6])) = true) : headS ws n = (0, false) := by
  simp only [Bool.and_eq_true, beq_iff_eq] at hd
  obtain ⟨rfl, rfl, rfl⟩ := hd
  rw [HS, if_neg (by simp), if_neg (by simp), if_neg (by simp)]
theorem head_cell {w : World} {g : Nat} {hs : List Int} (h : w.heap[g]? = some (headArr hs)) (h8 : hs.length = 8) (k : Nat) (hk : k < 8) : w.cell? ⟨g, k, none⟩ = some (.int .u64 (headAt hs k)) := by
  rw [(block_cells h).1]
  simp [headAt, List.getD, show k < hs.length by omega]

set_option maxHeartbeats 16000000 in
set_option maxRecDepth 100000 in
theorem wrongHead_row (t : Nat) (x : Value) (fL fR : Nat) (y : Value) (L n : Nat) (ws : List Int) (w : World) (hL : ws.length = L) (hn : L = 106 + 8 * n) (hn32 : n ≤ 32) (hrow : RowAt w t x fL fR y ws) :
    Calls Tryz.prog 98 #[.iface t x] w fun e w' => e = .returned (.tuple #[.int .i64 (headS ws n).1, .bool (headS ws n).2]) ∧ Fr New w w' := by
  have HB : Hid (∀ w, Calls Tryz.prog 95 #[.int .i64 (L : Int)] w fun e w' => e = .returned (.int .i64 (n : Int)) ∧ w' = w) := fun w => by
    have := lblocks_any L w (by omega) (by omega)
    rwa [show (L - 106) / 8 = n by omega] at this
  have HO : Hid (Calls Tryz.prog 111 #[.iface t x] w fun e w' => e = .returned (headA ws) ∧ Fr New w w') := headOf_row t x fL fR y ws w (by omega) hrow
  have HM : Hid (∀ w', Fr New w w' → (method 356 t x "Len").run Tryz.prog w' = .ok (fL, y) w') := hrow.mlen
  have HLN : Hid (∀ w', Fr New w w' → Calls Tryz.prog fL #[y] w' fun e w'' => e = .returned (.int .i64 L) ∧ w'' = w') := by rw [← hL]; exact hrow.len
  have hcf := hrow.clen
  have hL8 : 8 ≤ ws.length := by omega
  have h7 := take_seven hL8
  have HS : Hid (headS ws n = if wd ws 0 ≠ 20261114 then (0, true) else if wd ws 1 ≠ n then (1, true) else if wd ws 7 ≠ sumL [wd ws 0, wd ws 1, wd ws 2, wd ws 3, wd ws 4, wd ws 5, wd ws 6] then (7, true) else (0, false)) := by show _ = _; unfold headS; rw [h7]
  obtain ⟨x0, hx0⟩ : ∃ x, x = wd ws 0 := ⟨_, rfl⟩
  obtain ⟨x1, hx1⟩ : ∃ x, x = wd ws 1 := ⟨_, rfl⟩
  obtain ⟨x2, hx2⟩ : ∃ x, x = wd ws 2 := ⟨_, rfl⟩
  obtain ⟨x3, hx3⟩ : ∃ x, x = wd ws 3 := ⟨_, rfl⟩
  obtain ⟨x4, hx4⟩ : ∃ x, x = wd ws 4 := ⟨_, rfl⟩
  obtain ⟨x5, hx5⟩ : ∃ x, x = wd ws 5 := ⟨_, rfl⟩
  obtain ⟨x6, hx6⟩ : ∃ x, x = wd ws 6 := ⟨_, rfl⟩
  obtain ⟨x7, hx7⟩ : ∃ x, x = wd ws 7 := ⟨_, rfl⟩
  unfold headA at HO
  rw [← hx0, ← hx1, ← hx2, ← hx3, ← hx4, ← hx5, ← hx6, ← hx7] at HO HS
  have hL1 : L ≤ 362 := by omega
  clear hx0 hx1 hx2 hx3 hx4 hx5 hx6 hx7 h7 hrow hL hn hL8
  go_enter Tryz.func98, Tryz.ntmps98
  go_upto_region 2 with (go_at_call 111; refine HO.out.mono ?_; rintro e w1 ⟨rfl, hf1⟩)
  have hb1 : (w1.alloc (.cells #[.int .u64 x0, .int .u64 x1, .int .u64 x2, .int .u64 x3, .int .u64 x4, .int .u64 x5, .int .u64 x6, .int .u64 x7] 126)).heap[w1.heap.size]? = some (headArr [x0, x1, x2, x3, x4, x5, x6, x7]) := Go.Deep.blk_alloc_new w1 _
  have hfa : Fr New w (w1.alloc (.cells #[.int .u64 x0, .int .u64 x1, .int .u64 x2, .int .u64 x3, .int .u64 x4, .int .u64 x5, .int .u64 x6, .int .u64 x7] 126)) := hf1.alloc _
  go_cut [5] from 9 to 14 (fun s5 wx => ∃ g, s5 = .pointer (some ⟨g, 0, none⟩) ∧ wx.heap[g]? = some (headArr [20261114, n, x2, x3, x4, x5, x6, sumL [20261114, n, x2, x3, x4, x5, x6]]) ∧ wx.heap[w1.heap.size]? = some (headArr [x0, x1, x2, x3, x4, x5, x6, x7]) ∧ Fr New w wx)
  case first =>
    go_region_with (first
      | (rw [HM.out]; rotate_left 1; focus (repeat (first | exact Fr.refl _ _ | assumption | apply Fr.drew | apply Fr.alloc)))
      | (refine calls_same (HLN.out _ (by repeat (first | exact Fr.refl _ _ | assumption | apply Fr.drew | apply Fr.alloc))) ?_)
      | (go_at_call 95; refine calls_same (HB.out _) ?_)
      | (go_at_call 114; refine (fitted_any _ _ _ _ _ _ _ _ n (World.drew ((w1.alloc _).alloc _)) hn32).mono ?_; rintro e w2 ⟨rfl, hf2⟩; obtain ⟨hcc, hzz⟩ := block_cells (hf2.heap (k := w1.heap.size + 1) (new_at2 w1 _ _) id))
      | (go_at_call 114; refine (fitted_any _ _ _ _ _ _ _ _ n _ hn32).mono ?_; rintro e w2 ⟨rfl, hf2⟩))
    all_goals (try go_wp2_with fail)
    all_goals go_meet
    all_goals (first
      | exact rel_one hf1 (by first | exact hf2 | exact (Fr.refl New _).drew.same hf2 | exact (Fr.refl New _).drew.drew.same hf2)
      | exact rel_two hf1 (by first | exact hf2 | exact (Fr.refl New _).drew.same hf2 | exact (Fr.refl New _).drew.drew.same hf2))
  case rest =>
    obtain ⟨g, rfl, hg, hh, hf⟩ := hcut
    obtain ⟨hgc, hgz⟩ := block_cells hg
    obtain ⟨hhc, hhz⟩ := block_cells hh
    have hq := head_eq x0 x1 x2 x3 x4 x5 x6 x7 20261114 n (sumL [20261114, n, x2, x3, x4, x5, x6])
    clear hb1 hfa
    rcases hd : (x0 == 20261114 && (x1 == (n : Int) && x7 == sumL [20261114, n, x2, x3, x4, x5, x6])) with _ | _
    · obtain ⟨P, hP, hlo, hne, hS⟩ := diff_at HS.out hd
      rw [hd] at hq
      have HSS : Hid (headS ws n = ((P : Int), true)) := hS
      have HA : Hid (∀ k, k < 8 → wc.cell? ⟨w1.heap.size, k, none⟩ = some (.int .u64 (headAt [x0, x1, x2, x3, x4, x5, x6, x7] k))) := head_cell hh rfl
      have HG : Hid (∀ k, k < 8 → wc.cell? ⟨g, k, none⟩ = some (.int .u64 (headAt [20261114, n, x2, x3, x4, x5, x6, sumL [20261114, n, x2, x3, x4, x5, x6]] k))) := head_cell hg rfl
      have HLO : Hid (∀ k, k < P → headAt [x0, x1, x2, x3, x4, x5, x6, x7] k = headAt [20261114, n, x2, x3, x4, x5, x6, sumL [20261114, n, x2, x3, x4, x5, x6]] k) := hlo
      have HNE : Hid (headAt [x0, x1, x2, x3, x4, x5, x6, x7] P ≠ headAt [20261114, n, x2, x3, x4, x5, x6, sumL [20261114, n, x2, x3, x4, x5, x6]] P) := hne
      clear hd hlo hne hS HS
      go_wp2
      clear hq hgc hgz hhc hhz
      go_loopg [6] P (fun gh t wr => ∃ k j : Nat, k ≤ P ∧ gh = P - k ∧ t = .int .i64 k ∧ wr = wc.drewN j)
      case atStart => exact ⟨0, 0, by omega, rfl, rfl, rfl⟩
      case round =>
        obtain ⟨k, j, hkP, rfl, rfl, rfl⟩ := hrel
        have ca := HA.out k (by omega)
        have cb := HG.out k (by omega)
        obtain ⟨A, hA⟩ : ∃ A, A = headAt [x0, x1, x2, x3, x4, x5, x6, x7] k := ⟨_, rfl⟩
        obtain ⟨B, hB⟩ : ∃ B, B = headAt [20261114, n, x2, x3, x4, x5, x6, sumL [20261114, n, x2, x3, x4, x5, x6]] k := ⟨_, rfl⟩
        rw [← hA] at ca
        rw [← hB] at cb
        have k0 : (0 : Int) ≤ (k : Int) := by omega
        have k8 : (k : Int) < 8 := by omega
        by_cases hlt : k < P
        · obtain rfl : A = B := by rw [hA, hB]; exact HLO.out k hlt
          clear hA hB
          go_wp2
          go_quiet (fail)
          go_wp2
          go_roundg (P - (k + 1))
          case measure => omega
          case rel => exact ⟨k + 1, j + nq, by omega, rfl, by go_num, rfl⟩
        · obtain rfl : k = P := by omega
          have hne : (A == B) = false := by rw [hA, hB]; simpa using HNE.out
          clear hA hB
          go_wp2
          go_quiet (fail)
          go_wp2
          go_ret2
          rw [HSS.out]
          exact ⟨rfl, (hf.drewN _).drewN _⟩
    · have HSS : Hid (headS ws n = (0, false)) := same_at HS.out hd
      rw [hd] at hq
      clear hd HS
      go_wp2
      go_ret2
      rw [HSS.out]
      exact ⟨rfl, hf⟩
theorem wrongHead_any (sb so L c n : Nat) (ws : List Int) (w : World) (hL : ws.length = L) (hn : L = 106 + 8 * n) (hn32 : n ≤ 32) (hcw : ∀ i, i < L → w.cell? ⟨sb, so + i, none⟩ = some (.int .u64 (wd ws i))) :
    Calls Tryz.prog 98 #[rowV (some ⟨sb, so, none⟩) L c] w fun e w' => e = .returned (.tuple #[.int .i64 (headS ws n).1, .bool (headS ws n).2]) ∧ Fr New w w' :=
  wrongHead_row _ _ _ _ _ L n ws w hL hn hn32 (kept_row hL hcw)
end Go.Proofs.YtbagcjlimdilpaaGreat
