/- Walks of Format and of the document's Format: both give the same image. -/
import Derived.Test.YtbagcjlimdilpaaGreatChJ0
namespace Go.Proofs.YtbagcjlimdilpaaGreat
open Go.RowKit

def headL (n : Int) : List Int := [20261114, n, 0, 0, 0, 0, 0]
/-- the words of an image without objects -/
def imgL (n : Nat) : List Int := [20261114, (n : Int), 0, 0, 0, 0, 0, sumL (headL n)] ++ List.replicate (98 + 8 * n) 0
theorem imgL_len (n : Nat) : (imgL n).length = 106 + 8 * n := by simp [imgL]; omega

theorem seal_any (g : Nat) (zs : List Int) (w : World) (h8 : 8 ≤ zs.length) (hm : zs.length ≤ 1048576) (hr : Row w g zs) :
    Calls Tryz.prog 131 #[.slice (some ⟨g, 0, none⟩) zs.length zs.length] w fun e w' => e = .returned (.tuple #[]) ∧ w' = w.setCell ⟨g, 7, none⟩ (.int .u64 (sumL (zs.take 7))) := by
  have HS : Hid (Calls Tryz.prog 121 #[.slice (some ⟨g, 0, none⟩) 7 zs.length] w fun e w' => e = .returned (.int .u64 (sumL (zs.take 7))) ∧ w' = w) :=
    rsum_any _ 7 _ (zs.take 7) w (by simp; omega) (by decide) (rowU_take hr.rowU 7)
  have hfz := hr.free 7
  have hcl := hr.cell 7 (by omega)
  go_enter Tryz.func131, Tryz.ntmps131
  go_wp2_with (go_at_call 121; refine calls_same HS.out ?_)
  go_end0
  exact ⟨rfl, rfl⟩

theorem rfmt_no (n : Int) (w : World) (h : n < 1 ∨ 32 < n) :
    Calls Tryz.prog 119 #[.int .i64 n] w fun e w' => e = .returned (.tuple #[.slice none 0 0, .int .i64 1]) ∧ w' = w := by
  rcases h with h | h
  · go_enter Tryz.func119, Tryz.ntmps119
    go_wp2
    go_ret2
    exact ⟨rfl, rfl⟩
  · have h' : ¬ n < 1 := by omega
    go_enter Tryz.func119, Tryz.ntmps119
    go_wp2
    go_ret2
    exact ⟨rfl, rfl⟩

theorem imgL_made (n : Nat) : (((List.replicate (106 + 8 * n) (0 : Int)).set 0 20261114).set 1 (n : Int)).set 7 (sumL (headL n)) = imgL n := by
  rw [show 106 + 8 * n = (98 + 8 * n) + 1 + 1 + 1 + 1 + 1 + 1 + 1 + 1 by omega]
  simp only [List.replicate_succ, List.set_cons_zero, List.set_cons_succ, imgL]
  rfl
theorem imgL_take (n : Nat) : ((((List.replicate (106 + 8 * n) (0 : Int)).set 0 20261114).set 1 (n : Int))).take 7 = headL n := by
  rw [show 106 + 8 * n = (98 + 8 * n) + 1 + 1 + 1 + 1 + 1 + 1 + 1 + 1 by omega]
  simp only [List.replicate_succ, List.set_cons_zero, List.set_cons_succ, headL]
  rfl

theorem sealed_img {w : World} {g n : Nat} (h : Row w g (List.replicate (106 + 8 * n) 0)) :
    Row ((w.setCell ⟨g, 0, none⟩ (.int .u64 20261114)).setCell ⟨g, 1, none⟩ (.int .u64 n)) g (((List.replicate (106 + 8 * n) (0 : Int)).set 0 20261114).set 1 (n : Int)) := (h.set 0 20261114).set 1 n

theorem seal_img {w w1 : World} {n : Nat} (hn : n ≤ 32) (hf : Fr New w w1) (h : Row w1 w.heap.size (List.replicate (106 + 8 * n) 0)) :
    Calls Tryz.prog 131 #[.slice (some ⟨w.heap.size, 0, none⟩) (106 + 8 * n) (106 + 8 * n)] ((w1.setCell ⟨w.heap.size, 0, none⟩ (.int .u64 20261114)).setCell ⟨w.heap.size, 1, none⟩ (.int .u64 n)) fun e w' =>
      e = .returned (.tuple #[]) ∧ Row w' w.heap.size (imgL n) ∧ Fr New w w' := by
  have hr := sealed_img h
  have hlen : (((List.replicate (106 + 8 * n) (0 : Int)).set 0 20261114).set 1 (n : Int)).length = 106 + 8 * n := by simp
  have := seal_any w.heap.size _ _ (by rw [hlen]; omega) (by rw [hlen]; omega) hr
  rw [hlen] at this
  refine this.mono ?_
  rintro e w' ⟨rfl, rfl⟩
  refine ⟨rfl, ?_, ((hf.setCell (fun h => absurd h (by simp)) _).setCell (fun h => absurd h (by simp)) _).setCell (fun h => absurd h (by simp)) _⟩
  rw [← imgL_made, imgL_take]
  exact hr.set 7 _

set_option maxRecDepth 100000 in
theorem rfmt_yes (n : Nat) (w : World) (h1 : 1 ≤ n) (h2 : n ≤ 32) :
    Calls Tryz.prog 119 #[.int .i64 n] w fun e w' => e = .returned (.tuple #[.slice (some ⟨w.heap.size, 0, none⟩) (106 + 8 * n) (106 + 8 * n), .int .i64 0]) ∧ Row w' w.heap.size (imgL n) ∧ Fr New w w' := by
  obtain ⟨i0, hi, hz0, hz1, hz2⟩ := info_parts Tryz.info50
  have hw1 : IntKind.u64.wrap (n : Int) = n := by rw [IntKind.wrap_u64]; omega
  go_enter Tryz.func119, Tryz.ntmps119
  go_wp2_with (first
    | (at_make; refine wpList_make_full _ rfl (.tmp 13) (.tmp 13) 43 rfl w.heap.size 50 i0 (.int .u64 0) 1 Tryz.underlying43 hi hz0 hz1 .i64 .i64 _ _ (106 + 8 * n) rfl rfl (by omega) (by omega) (by rw [hz2]; omega) (by unfold maxLen; omega) (Nat.le_refl _) ?_; intro w1 hown1 hg1; have hr1 := Row.ofOwn hown1 (made_zeros _); have hf1 := (Fr.refl New w).grownNew hg1; clear hown1 hg1; have hc0 := hr1.cell 0 (by simp; omega); have hz0 := hr1.free 0; have hc1 := hr1.cell 1 (by simp; omega); have hz1 := hr1.free 1)
    | (go_at_call 131; refine (seal_img h2 hf1 hr1).mono ?_; rintro e w2 ⟨rfl, hr2, hf2⟩)
    | fail)
  go_ret2
  exact ⟨rfl, hr2, hf2⟩

theorem head_cells (w : World) (b : Nat) (zs : List Int) (t : TypeId) (h : w.heap[b]? = some (.cells ((zs.map (Value.int .u64)).toArray) t (0, 0))) : RowU w (some ⟨b, 0, none⟩) zs := by
  intro i hi
  refine ⟨_, rfl, ?_⟩
  rw [Addr.add_lit, Nat.zero_add]
  simp [World.cell?, h, hi, List.getD]

theorem head_row (w : World) (o : Obj) (zs : List Int) (t : TypeId) (n : Nat) : RowU ((w.alloc (.cells ((zs.map (Value.int .u64)).toArray) t)).alloc o) (some ⟨w.heap.size, 0, none⟩) (zs.take n) :=
  rowU_take (head_cells _ _ zs t ((Go.Deep.blk_alloc_lt _ o _ (by simp)).trans (Go.Deep.blk_alloc_new w _))) n

set_option maxRecDepth 100000 in
theorem sealed_any (x0 x1 x2 x3 x4 x5 x6 x7 : Int) (w : World) :
    Calls Tryz.prog 112 #[.agg #[.int .u64 x0, .int .u64 x1, .int .u64 x2, .int .u64 x3, .int .u64 x4, .int .u64 x5, .int .u64 x6, .int .u64 x7]] w fun e w' =>
      e = .returned (.agg #[.int .u64 x0, .int .u64 x1, .int .u64 x2, .int .u64 x3, .int .u64 x4, .int .u64 x5, .int .u64 x6, .int .u64 (sumL [x0, x1, x2, x3, x4, x5, x6])]) ∧ Fr New w w' := by
  have HS := fun o => lsum_any (some ⟨w.heap.size, 0, none⟩) 7 8 [x0, x1, x2, x3, x4, x5, x6] ((w.alloc (.cells #[.int .u64 x0, .int .u64 x1, .int .u64 x2, .int .u64 x3, .int .u64 x4, .int .u64 x5, .int .u64 x6, .int .u64 x7] 126)).alloc o) rfl (by decide)
    (head_row w o [x0, x1, x2, x3, x4, x5, x6, x7] 126 7)
  go_enter Tryz.func112, Tryz.ntmps112
  go_wp2_with (go_at_call 63; refine calls_same (HS _) ?_)
  refine bodyPost_ret (v := .agg #[.int .u64 x0, .int .u64 x1, .int .u64 x2, .int .u64 x3, .int .u64 x4, .int .u64 x5, .int .u64 x6, .int .u64 (sumL [x0, x1, x2, x3, x4, x5, x6])]) (by simp [results, Tryz.results112, go_sem]) rfl ⟨rfl, ?_⟩
  exact ((Fr.refl _ _).alloc _).alloc _

/-- the head of an image without roots and commits, as a value -/
abbrev headV (n : Int) : Value := .agg #[.int .u64 20261114, .int .u64 n, .int .u64 0, .int .u64 0, .int .u64 0, .int .u64 0, .int .u64 0, .int .u64 (sumL (headL n))]

theorem block_cells {w : World} {b : Nat} {cs : Array Value} {t : TypeId} (h : w.heap[b]? = some (.cells cs t (0, 0))) : (∀ i, w.cell? ⟨b, i, none⟩ = cs[i]?) ∧ (∀ i, w.frozen? ⟨b, i, none⟩ = false) :=
  ⟨fun i => by simp [World.cell?, h], fun i => by simp [World.frozen?, h]⟩

theorem new_at2 (w : World) (o o' : Obj) : ((w.alloc o).alloc o').heap[w.heap.size + 1]? = some o' := by
  have := Go.Deep.blk_alloc_new (w.alloc o) o'
  simpa using this

set_option maxRecDepth 100000 in
theorem fitted_any (x0 x1 x2 x3 x4 x5 x6 x7 : Int) (n : Nat) (w : World) (h2 : n ≤ 32) :
    Calls Tryz.prog 114 #[.agg #[.int .u64 x0, .int .u64 x1, .int .u64 x2, .int .u64 x3, .int .u64 x4, .int .u64 x5, .int .u64 x6, .int .u64 x7], .int .i64 n] w fun e w' =>
      e = .returned (.agg #[.int .u64 20261114, .int .u64 n, .int .u64 x2, .int .u64 x3, .int .u64 x4, .int .u64 x5, .int .u64 x6, .int .u64 (sumL [20261114, n, x2, x3, x4, x5, x6])]) ∧ Fr New w w' := by
  have hw1 : IntKind.u64.wrap (n : Int) = n := by rw [IntKind.wrap_u64]; omega
  go_enter Tryz.func114, Tryz.ntmps114
  go_wp2_with (go_at_call 112; refine (sealed_any _ _ _ _ _ _ _ _ _).mono ?_; rintro e w1 ⟨rfl, hf1⟩; obtain ⟨hcc, hzz⟩ := block_cells (hf1.heap (k := w.heap.size + 1) (new_at2 w _ _) id))
  refine bodyPost_ret (v := .agg #[.int .u64 20261114, .int .u64 n, .int .u64 x2, .int .u64 x3, .int .u64 x4, .int .u64 x5, .int .u64 x6, .int .u64 (sumL [20261114, n, x2, x3, x4, x5, x6])]) (by simp [results, Tryz.results114, go_sem, hcc]) rfl ⟨rfl, ?_⟩
  have hf : Fr New w w1 := (((Fr.refl _ _).alloc _).alloc _).same hf1
  iterate 8 refine Fr.setCell ?_ (fun h => absurd h (by simp)) _
  exact hf

set_option maxRecDepth 100000 in
theorem newHead_any (n : Nat) (w : World) (h2 : n ≤ 32) :
    Calls Tryz.prog 66 #[.int .i64 n] w fun e w' => e = .returned (headV n) ∧ Fr New w w' := by
  go_enter Tryz.func66, Tryz.ntmps66
  go_wp2_with (go_at_call 114; refine (fitted_any _ _ _ _ _ _ _ _ n _ h2).mono ?_; rintro e w1 ⟨rfl, hf1⟩; obtain ⟨hcc, hzz⟩ := block_cells (hf1.heap (k := w.heap.size) (Go.Deep.blk_alloc_new w _) id))
  refine bodyPost_ret (v := headV n) (by simp [results, Tryz.results66, go_sem, hcc, headV, headL]) rfl ⟨rfl, ?_⟩
  have hf : Fr New w w1 := ((Fr.refl _ _).alloc _).same hf1
  iterate 8 refine Fr.setCell ?_ (fun h => absurd h (by simp)) _
  exact hf

theorem fits_true (n : Int) (w : World) (h1 : 1 ≤ n) (h2 : n ≤ 32) : Calls Tryz.prog 64 #[.int .i64 n] w fun e w' => e = .returned (.bool true) ∧ w' = w := by
  have hd : decide (n ≤ 32) = true := by simpa using h2
  go_enter Tryz.func64, Tryz.ntmps64
  go_wp2
  go_ret
  exact ⟨rfl, rfl⟩
theorem fits_false (n : Int) (w : World) (h : n < 1 ∨ 32 < n) : Calls Tryz.prog 64 #[.int .i64 n] w fun e w' => e = .returned (.bool false) ∧ w' = w := by
  by_cases h1 : 1 ≤ n
  · have hd : decide (n ≤ 32) = false := by simp; omega
    go_enter Tryz.func64, Tryz.ntmps64
    go_wp2
    go_ret
    exact ⟨rfl, rfl⟩
  · have hd : decide (1 ≤ n) = false := by simpa using h1
    go_enter Tryz.func64, Tryz.ntmps64
    go_wp2
    go_ret
    exact ⟨rfl, rfl⟩
theorem length_any (n : Nat) (w : World) (h2 : n ≤ 32) : Calls Tryz.prog 65 #[.int .i64 n] w fun e w' => e = .returned (.int .i64 (106 + 8 * (n : Int))) ∧ w' = w := by
  go_enter Tryz.func65, Tryz.ntmps65
  go_wp2
  go_ret
  exact ⟨rfl, rfl⟩
theorem fmt_no (n : Int) (w : World) (h : n < 1 ∨ 32 < n) :
    Calls Tryz.prog 37 #[.int .i64 n] w fun e w' => e = .returned (.tuple #[.slice none 0 0, .int .i64 1]) ∧ w' = w := by
  go_enter Tryz.func37, Tryz.ntmps37
  go_wp2_with (go_at_call 64; refine calls_same (fits_false n w h) ?_)
  go_ret2
  exact ⟨rfl, rfl⟩

/-- the head's words -/
def headW (n : Int) : List Int := [20261114, n, 0, 0, 0, 0, 0, sumL (headL n)]
theorem spliced_img (n : Nat) : splice ((List.replicate (106 + 8 * n) (0 : Int)).map (Value.int .u64)) 0 ((headW n).map (Value.int .u64)) = (imgL n).map (Value.int .u64) := by
  unfold splice imgL
  simp [headW, List.drop_replicate]
  omega
theorem head_news (w : World) (n : Int) (hp : 0 < ((headW n).map (Value.int .u64)).length) :
    ∃ ad, some (⟨w.heap.size, 0, none⟩ : Addr) = some ad ∧ ∀ j v, ((headW n).map (Value.int .u64))[j]? = some v → (w.alloc (.cells #[.int .u64 20261114, .int .u64 n, .int .u64 0, .int .u64 0, .int .u64 0, .int .u64 0, .int .u64 0, .int .u64 (sumL (headL n))] 126)).cell? (ad.add j) = some v :=
  news_row (head_cells _ _ (headW n) 126 (Go.Deep.blk_alloc_new w _)) hp

set_option maxRecDepth 100000 in
theorem fmt_yes (n : Nat) (w : World) (h1 : 1 ≤ n) (h2 : n ≤ 32) :
    Calls Tryz.prog 37 #[.int .i64 n] w fun e w' => e = .returned (.tuple #[.slice (some ⟨w.heap.size, 0, none⟩) (106 + 8 * n) (106 + 8 * n), .int .i64 0]) ∧ Row w' w.heap.size (imgL n) ∧ Fr New w w' := by
  obtain ⟨i0, hi, hz0, hz1, hz2⟩ := info_parts Tryz.info50
  have hmin : Hid (((headW n).map (Value.int .u64)).length = Nat.min 8 (106 + 8 * n)) := by show _ = _; exact (Nat.min_eq_left (show 8 ≤ 106 + 8 * n by omega)).symm
  go_enter Tryz.func37, Tryz.ntmps37
  go_wp2_with (first
    | (at_make; refine wpList_make_full _ rfl (.tmp 10) (.tmp 10) 43 rfl w.heap.size 50 i0 (.int .u64 0) 1 Tryz.underlying43 hi hz0 hz1 .i64 .i64 _ _ (106 + 8 * n) rfl rfl (by omega) (by omega) (by rw [hz2]; omega) (by unfold maxLen; omega) (Nat.le_refl _) ?_; intro w1 hown1 hg1; have hr1 := Row.ofOwn hown1 (made_zeros _); have hf1 := (Fr.refl New w).grownNew hg1; clear hown1 hg1)
    | (go_at_call 64; refine calls_same (fits_true n w (by omega) (by omega)) ?_)
    | (go_at_call 65; refine calls_same (length_any n w h2) ?_)
    | (go_at_call 66; refine (newHead_any n w1 h2).mono ?_; rintro e w2 ⟨rfl, hf2⟩; have hr2 := hr1.fr hf2 id; have hf3 := hf1.same hf2; clear hf2 hr1)
    | (refine wpList_copy_splice rfl (.tmp 14) (.tmp 15) 43 43 rfl 50 Tryz.underlying43 Tryz.size50 (some ⟨w.heap.size, 0, none⟩) (some ⟨w2.heap.size, 0, none⟩) (106 + 8 * n) (106 + 8 * n) 8 8 (by rfl) (by rfl) w.heap.size 0 _ 50 (hr2.fr ((Fr.refl New w2).alloc _) id) ((headW n).map (Value.int .u64)) hmin.out (fun hp => ⟨rfl, head_news w2 n hp⟩) (by simp [headW]; omega) (ints_oneU _) w.heap.size w ((hf3.alloc _).below (Nat.le_refl _) (fun _ _ h => h)) (Nat.le_refl _) ?_; intro w4 hr4 hb4)
    | fail)
  go_ret2
  exact ⟨rfl, by unfold Row; rw [← spliced_img]; exact hr4.out, (Fr.ofBelow hb4).mono (fun j hj h => by omega)⟩
end Go.Proofs.YtbagcjlimdilpaaGreat
