/- Texts that follow one another, joined. -/
import Derived.Test.YtbagcjlimdilpaaGreatKtJ0
import Derived.ArgAppend
import Derived.Deep.AppendLies
/- Walks of Format and of the document's Format: both give the same image. -/
namespace Go.Proofs.YtbagcjlimdilpaaGreat
open Go.RowKit

def headL (n : Int) : List Int := [20261114, n, 0, 0, 0, 0, 0]
/-- the words of an image without objects -/
def imgL (n : Nat) : List Int := [20261114, (n : Int), 0, 0, 0, 0, 0, sumL (headL n)] ++ List.replicate (98 + 8 * n) 0
theorem imgL_len (n : Nat) : (imgL n).length = 106 + 8 * n := by simp [imgL]; omega

theorem seal_any (g : Nat) (zs : List Int) (w : World) (h8 : 8 ≤ zs.length) (hm : zs.length ≤ 1048576) (hr : Row w g zs) :
    Calls Tryz.prog 131 #[.slice (some ⟨g, 0, none⟩) zs.length zs.length] w fun e w' => e = .returned (.tuple #[]) ∧ w' = w.setCell ⟨g, 7, none⟩ (.int .u64 (sumL (zs.take 7))) := by
  have HS : Hid (Calls Tryz.prog 121 #[.slice (some ⟨g, 0, none⟩) 7 zs.length] w fun e w' => e = .returned (.int .u64 (sumL (zs.take 7))) ∧ w' = w) :=
    rsum_any _ 7 _ (zs.take 7) w (by simp; omega) (by decide) (rowU_take hr.rowU 7)
  have hfz := hr.free 7
  have hcl := hr.cell 7 (by omega)
  go_enter Tryz.func131, Tryz.ntmps131
  go_wp2_with (go_at_call 121; refine calls_same HS.out ?_)
  go_end0
  exact ⟨rfl, rfl⟩

theorem rfmt_no (n : Int) (w : World) (h : n < 1 ∨ 32 < n) :
    Calls Tryz.prog 119 #[.int .i64 n] w fun e w' => e = .returned (.tuple #[.slice none 0 0, .int .i64 1]) ∧ w' = w := by
  rcases h with h | h
  · go_enter Tryz.func119, Tryz.ntmps119
    go_wp2
    go_ret2
    exact ⟨rfl, rfl⟩
  · have h' : ¬ n < 1 := by omega
    go_enter Tryz.func119, Tryz.ntmps119
    go_wp2
    go_ret2
    exact ⟨rfl, rfl⟩

theorem imgL_made (n : Nat) : (((List.replicate (106 + 8 * n) (0 : Int)).set 0 20261114).set 1 (n : Int)).set 7 (sumL (headL n)) = imgL n := by
  rw [show 106 + 8 * n = (98 + 8 * n) + 1 + 1 + 1 + 1 + 1 + 1 + 1 + 1 by omega]
  simp only [List.replicate_succ, List.set_cons_zero, List.set_cons_succ, imgL]
  rfl
theorem imgL_take (n : Nat) : ((((List.replicate (106 + 8 * n) (0 : Int)).set 0 20261114).set 1 (n : Int))).take 7 = headL n := by
  rw [show 106 + 8 * n = (98 + 8 * n) + 1 + 1 + 1 + 1 + 1 + 1 + 1 + 1 by omega]
  simp only [List.replicate_succ, List.set_cons_zero, List.set_cons_succ, headL]
  rfl

theorem sealed_img {w : World} {g n : Nat} (h : Row w g (List.replicate (106 + 8 * n) 0)) :
    Row ((w.setCell ⟨g, 0, none⟩ (.int .u64 20261114)).setCell ⟨g, 1, none⟩ (.int .u64 n)) g (((List.replicate (106 + 8 * n) (0 : Int)).set 0 20261114).set 1 (n : Int)) := (h.set 0 20261114).set 1 n

theorem seal_img {w w1 : World} {n : Nat} (hn : n ≤ 32) (hf : Fr New w w1) (h : Row w1 w.heap.size (List.replicate (106 + 8 * n) 0)) :
    Calls Tryz.prog 131 #[.slice (some ⟨w.heap.size, 0, none⟩) (106 + 8 * n) (106 + 8 * n)] ((w1.setCell ⟨w.heap.size, 0, none⟩ (.int .u64 20261114)).setCell ⟨w.heap.size, 1, none⟩ (.int .u64 n)) fun e w' =>
      e = .returned (.tuple #[]) ∧ Row w' w.heap.size (imgL n) ∧ Fr New w w' := by
  have hr := sealed_img h
  have hlen : (((List.replicate (106 + 8 * n) (0 : Int)).set 0 20261114).set 1 (n : Int)).length = 106 + 8 * n := by simp
  have := seal_any w.heap.size _ _ (by rw [hlen]; omega) (by rw [hlen]; omega) hr
  rw [hlen] at this
  refine this.mono ?_
  rintro e w' ⟨rfl, rfl⟩
  refine ⟨rfl, ?_, ((hf.setCell (fun h => absurd h (by simp)) _).setCell (fun h => absurd h (by simp)) _).setCell (fun h => absurd h (by simp)) _⟩
  rw [← imgL_made, imgL_take]
  exact hr.set 7 _

set_option maxRecDepth 100000 in
theorem rfmt_yes (n : Nat) (w : World) (h1 : 1 ≤ n) (h2 : n ≤ 32) :
    Calls Tryz.prog 119 #[.int .i64 n] w fun e w' => e = .returned (.tuple #[.slice (some ⟨w.heap.size, 0, none⟩) (106 + 8 * n) (106 + 8 * n), .int .i64 0]) ∧ Row w' w.heap.size (imgL n) ∧ Fr New w w' := by
  obtain ⟨i0, hi, hz0, hz1, hz2⟩ := info_parts Tryz.info50
  have hw1 : IntKind.u64.wrap (n : Int) = n := by rw [IntKind.wrap_u64]; omega
  go_enter Tryz.func119, Tryz.ntmps119
  go_wp2_with (first
    | (at_make; refine wpList_make_full _ rfl (.tmp 13) (.tmp 13) 43 rfl w.heap.size 50 i0 (.int .u64 0) 1 Tryz.underlying43 hi hz0 hz1 .i64 .i64 _ _ (106 + 8 * n) rfl rfl (by omega) (by omega) (by rw [hz2]; omega) (by unfold maxLen; omega) (Nat.le_refl _) ?_; intro w1 hown1 hg1; have hr1 := Row.ofOwn hown1 (made_zeros _); have hf1 := (Fr.refl New w).grownNew hg1; clear hown1 hg1; have hc0 := hr1.cell 0 (by simp; omega); have hz0 := hr1.free 0; have hc1 := hr1.cell 1 (by simp; omega); have hz1 := hr1.free 1)
    | (go_at_call 131; refine (seal_img h2 hf1 hr1).mono ?_; rintro e w2 ⟨rfl, hr2, hf2⟩)
    | fail)
  go_ret2
  exact ⟨rfl, hr2, hf2⟩

theorem head_cells (w : World) (b : Nat) (zs : List Int) (t : TypeId) (h : w.heap[b]? = some (.cells ((zs.map (Value.int .u64)).toArray) t (0, 0))) : RowU w (some ⟨b, 0, none⟩) zs := by
  intro i hi
  refine ⟨_, rfl, ?_⟩
  rw [Addr.add_lit, Nat.zero_add]
  simp [World.cell?, h, hi, List.getD]

theorem head_row (w : World) (o : Obj) (zs : List Int) (t : TypeId) (n : Nat) : RowU ((w.alloc (.cells ((zs.map (Value.int .u64)).toArray) t)).alloc o) (some ⟨w.heap.size, 0, none⟩) (zs.take n) :=
  rowU_take (head_cells _ _ zs t ((Go.Deep.blk_alloc_lt _ o _ (by simp)).trans (Go.Deep.blk_alloc_new w _))) n

set_option maxRecDepth 100000 in
theorem sealed_any (x0 x1 x2 x3 x4 x5 x6 x7 : Int) (w : World) :
    Calls Tryz.prog 112 #[.agg #[.int .u64 x0, .int .u64 x1, .int .u64 x2, .int .u64 x3, .int .u64 x4, .int .u64 x5, .int .u64 x6, .int .u64 x7]] w fun e w' =>
      e = .returned (.agg #[.int .u64 x0, .int .u64 x1, .int .u64 x2, .int .u64 x3, .int .u64 x4, .int .u64 x5, .int .u64 x6, .int .u64 (sumL [x0, x1, x2, x3, x4, x5, x6])]) ∧ Fr New w w' := by
  have HS := fun o => lsum_any (some ⟨w.heap.size, 0, none⟩) 7 8 [x0, x1, x2, x3, x4, x5, x6] ((w.alloc (.cells #[.int .u64 x0, .int .u64 x1, .int .u64 x2, .int .u64 x3, .int .u64 x4, .int .u64 x5, .int .u64 x6, .int .u64 x7] 126)).alloc o) rfl (by decide)
    (head_row w o [x0, x1, x2, x3, x4, x5, x6, x7] 126 7)
  go_enter Tryz.func112, Tryz.ntmps112
  go_wp2_with (go_at_call 63; refine calls_same (HS _) ?_)
  refine bodyPost_ret (v := .agg #[.int .u64 x0, .int .u64 x1, .int .u64 x2, .int .u64 x3, .int .u64 x4, .int .u64 x5, .int .u64 x6, .int .u64 (sumL [x0, x1, x2, x3, x4, x5, x6])]) (by simp [results, Tryz.results112, go_sem]) rfl ⟨rfl, ?_⟩
  exact ((Fr.refl _ _).alloc _).alloc _

/-- the head of an image without roots and commits, as a value -/
abbrev headV (n : Int) : Value := .agg #[.int .u64 20261114, .int .u64 n, .int .u64 0, .int .u64 0, .int .u64 0, .int .u64 0, .int .u64 0, .int .u64 (sumL (headL n))]

theorem block_cells {w : World} {b : Nat} {cs : Array Value} {t : TypeId} (h : w.heap[b]? = some (.cells cs t (0, 0))) : (∀ i, w.cell? ⟨b, i, none⟩ = cs[i]?) ∧ (∀ i, w.frozen? ⟨b, i, none⟩ = false) :=
  ⟨fun i => by simp [World.cell?, h], fun i => by simp [World.frozen?, h]⟩

theorem new_at2 (w : World) (o o' : Obj) : ((w.alloc o).alloc o').heap[w.heap.size + 1]? = some o' := by
  have := Go.Deep.blk_alloc_new (w.alloc o) o'
  simpa using this

set_option maxRecDepth 100000 in
theorem fitted_any (x0 x1 x2 x3 x4 x5 x6 x7 : Int) (n : Nat) (w : World) (h2 : n ≤ 32) :
    Calls Tryz.prog 114 #[.agg #[.int .u64 x0, .int .u64 x1, .int .u64 x2, .int .u64 x3, .int .u64 x4, .int .u64 x5, .int .u64 x6, .int .u64 x7], .int .i64 n] w fun e w' =>
      e = .returned (.agg #[.int .u64 20261114, .int .u64 n, .int .u64 x2, .int .u64 x3, .int .u64 x4, .int .u64 x5, .int .u64 x6, .int .u64 (sumL [20261114, n, x2, x3, x4, x5, x6])]) ∧ Fr New w w' := by
  have hw1 : IntKind.u64.wrap (n : Int) = n := by rw [IntKind.wrap_u64]; omega
  go_enter Tryz.func114, Tryz.ntmps114
  go_wp2_with (go_at_call 112; refine (sealed_any _ _ _ _ _ _ _ _ _).mono ?_; rintro e w1 ⟨rfl, hf1⟩; obtain ⟨hcc, hzz⟩ := block_cells (hf1.heap (k := w.heap.size + 1) (new_at2 w _ _) id))
  refine bodyPost_ret (v := .agg #[.int .u64 20261114, .int .u64 n, .int .u64 x2, .int .u64 x3, .int .u64 x4, .int .u64 x5, .int .u64 x6, .int .u64 (sumL [20261114, n, x2, x3, x4, x5, x6])]) (by simp [results, Tryz.results114, go_sem, hcc]) rfl ⟨rfl, ?_⟩
  have hf : Fr New w w1 := (((Fr.refl _ _).alloc _).alloc _).same hf1
  iterate 8 refine Fr.setCell ?_ (fun h => absurd h (by simp)) _
  exact hf

set_option maxRecDepth 100000 in
theorem newHead_any (n : Nat) (w : World) (h2 : n ≤ 32) :
    Calls Tryz.prog 66 #[.int .i64 n] w fun e w' => e = .returned (headV n) ∧ Fr New w w' := by
  go_enter Tryz.func66, Tryz.ntmps66
  go_wp2_with (go_at_call 114; refine (fitted_any _ _ _ _ _ _ _ _ n _ h2).mono ?_; rintro e w1 ⟨rfl, hf1⟩; obtain ⟨hcc, hzz⟩ := block_cells (hf1.heap (k := w.heap.size) (Go.Deep.blk_alloc_new w _) id))
  refine bodyPost_ret (v := headV n) (by simp [results, Tryz.results66, go_sem, hcc, headV, headL]) rfl ⟨rfl, ?_⟩
  have hf : Fr New w w1 := ((Fr.refl _ _).alloc _).same hf1
  iterate 8 refine Fr.setCell ?_ (fun h => absurd h (by simp)) _
  exact hf

theorem fits_true (n : Int) (w : World) (h1 : 1 ≤ n) (h2 : n ≤ 32) : Calls Tryz.prog 64 #[.int .i64 n] w fun e w' => e = .returned (.bool true) ∧ w' = w := by
  have hd : decide (n ≤ 32) = true := by simpa using h2
  go_enter Tryz.func64, Tryz.ntmps64
  go_wp2
  go_ret
  exact ⟨rfl, rfl⟩
theorem fits_false (n : Int) (w : World) (h : n < 1 ∨ 32 < n) : Calls Tryz.prog 64 #[.int .i64 n] w fun e w' => e = .returned (.bool false) ∧ w' = w := by
  by_cases h1 : 1 ≤ n
  · have hd : decide (n ≤ 32) = false := by simp; omega
    go_enter Tryz.func64, Tryz.ntmps64
    go_wp2
    go_ret
    exact ⟨rfl, rfl⟩
  · have hd : decide (1 ≤ n) = false := by simpa using h1
    go_enter Tryz.func64, Tryz.ntmps64
    go_wp2
    go_ret
    exact ⟨rfl, rfl⟩
theorem length_any (n : Nat) (w : World) (h2 : n ≤ 32) : Calls Tryz.prog 65 #[.int .i64 n] w fun e w' => e = .returned (.int .i64 (106 + 8 * (n : Int))) ∧ w' = w := by
  go_enter Tryz.func65, Tryz.ntmps65
  go_wp2
  go_ret
  exact ⟨rfl, rfl⟩
theorem fmt_no (n : Int) (w : World) (h : n < 1 ∨ 32 < n) :
    Calls Tryz.prog 37 #[.int .i64 n] w fun e w' => e = .returned (.tuple #[.slice none 0 0, .int .i64 1]) ∧ w' = w := by
  go_enter Tryz.func37, Tryz.ntmps37
  go_wp2_with (go_at_call 64; refine calls_same (fits_false n w h) ?_)
  go_ret2
  exact ⟨rfl, rfl⟩

/-- the head's words -/
def headW (n : Int) : List Int := [20261114, n, 0, 0, 0, 0, 0, sumL (headL n)]
theorem spliced_img (n : Nat) : splice ((List.replicate (106 + 8 * n) (0 : Int)).map (Value.int .u64)) 0 ((headW n).map (Value.int .u64)) = (imgL n).map (Value.int .u64) := by
  unfold splice imgL
  simp [headW, List.drop_replicate]
  omega
theorem head_news (w : World) (n : Int) (hp : 0 < ((headW n).map (Value.int .u64)).length) :
    ∃ ad, some (⟨w.heap.size, 0, none⟩ : Addr) = some ad ∧ ∀ j v, ((headW n).map (Value.int .u64))[j]? = some v → (w.alloc (.cells #[.int .u64 20261114, .int .u64 n, .int .u64 0, .int .u64 0, .int .u64 0, .int .u64 0, .int .u64 0, .int .u64 (sumL (headL n))] 126)).cell? (ad.add j) = some v :=
  news_row (head_cells _ _ (headW n) 126 (Go.Deep.blk_alloc_new w _)) hp

set_option maxRecDepth 100000 in
theorem fmt_yes (n : Nat) (w : World) (h1 : 1 ≤ n) (h2 : n ≤ 32) :
    Calls Tryz.prog 37 #[.int .i64 n] w fun e w' => e = .returned (.tuple #[.slice (some ⟨w.heap.size, 0, none⟩) (106 + 8 * n) (106 + 8 * n), .int .i64 0]) ∧ Row w' w.heap.size (imgL n) ∧ Fr New w w' := by
  obtain ⟨i0, hi, hz0, hz1, hz2⟩ := info_parts Tryz.info50
  have hmin : Hid (((headW n).map (Value.int .u64)).length = Nat.min 8 (106 + 8 * n)) := by show _ = _; exact (Nat.min_eq_left (show 8 ≤ 106 + 8 * n by omega)).symm
  go_enter Tryz.func37, Tryz.ntmps37
  go_wp2_with (first
    | (at_make; refine wpList_make_full _ rfl (.tmp 10) (.tmp 10) 43 rfl w.heap.size 50 i0 (.int .u64 0) 1 Tryz.underlying43 hi hz0 hz1 .i64 .i64 _ _ (106 + 8 * n) rfl rfl (by omega) (by omega) (by rw [hz2]; omega) (by unfold maxLen; omega) (Nat.le_refl _) ?_; intro w1 hown1 hg1; have hr1 := Row.ofOwn hown1 (made_zeros _); have hf1 := (Fr.refl New w).grownNew hg1; clear hown1 hg1)
    | (go_at_call 64; refine calls_same (fits_true n w (by omega) (by omega)) ?_)
    | (go_at_call 65; refine calls_same (length_any n w h2) ?_)
    | (go_at_call 66; refine (newHead_any n w1 h2).mono ?_; rintro e w2 ⟨rfl, hf2⟩; have hr2 := hr1.fr hf2 id; have hf3 := hf1.same hf2; clear hf2 hr1)
    | (refine wpList_copy_splice rfl (.tmp 14) (.tmp 15) 43 43 rfl 50 Tryz.underlying43 Tryz.size50 (some ⟨w.heap.size, 0, none⟩) (some ⟨w2.heap.size, 0, none⟩) (106 + 8 * n) (106 + 8 * n) 8 8 (by rfl) (by rfl) w.heap.size 0 _ 50 (hr2.fr ((Fr.refl New w2).alloc _) id) ((headW n).map (Value.int .u64)) hmin.out (fun hp => ⟨rfl, head_news w2 n hp⟩) (by simp [headW]; omega) (ints_oneU _) w.heap.size w ((hf3.alloc _).below (Nat.le_refl _) (fun _ _ h => h)) (Nat.le_refl _) ?_; intro w4 hr4 hb4)
    | fail)
  go_ret2
  exact ⟨rfl, by unfold Row; rw [← spliced_img]; exact hr4.out, (Fr.ofBelow hb4).mono (fun j hj h => by omega)⟩
end Go.Proofs.YtbagcjlimdilpaaGreat
/- What the book's call 'words' does to memory, apart from its walk. -/
namespace Go.Proofs.YtbagcjlimdilpaaGreat
open Go.RowKit

/-- the six cells of a World -/
abbrev Wb (w : World) (b : Nat) (vws vhs : Value) (n : Nat) (vb vss vos : Value) : Prop := w.heap[b]? = some (.cells #[vws, vhs, .int .i64 (n : Int), vb, vss, vos] 88 (0, 0))

/-- a list of words by its address: nil, or a row of its own -/
def LR (w : World) (ao : Option Addr) (zs : List Int) : Prop := (ao = none ∧ zs = []) ∨ ∃ g, ao = some ⟨g, 0, none⟩ ∧ Row w g zs
theorem LR.rowU {w : World} {ao : Option Addr} {zs : List Int} (h : LR w ao zs) : RowU w ao zs := by
  rcases h with ⟨rfl, rfl⟩ | ⟨g, rfl, hr⟩
  · exact rowU_nil _ _
  · exact hr.rowU
theorem LR.own {w : World} {ao : Option Addr} {zs : List Int} (h : LR w ao zs) (hm : zs.length ≤ maxLen) : Own 0 w (.slice ao zs.length zs.length) zs := by
  rcases h with ⟨rfl, rfl⟩ | ⟨g, rfl, hr⟩
  · exact World.ownsRow_nil ..
  · exact hr.own (Nat.zero_le _) hm
theorem LR.isNil {w : World} {ao : Option Addr} {zs : List Int} (h : LR w ao zs) (hn : ao = none) : zs.length = 0 ∧ zs.length = 0 := by
  rcases h with ⟨_, rfl⟩ | ⟨g, rfl, _⟩
  · exact ⟨rfl, rfl⟩
  · cases hn
theorem LR.olds {w : World} {ao : Option Addr} {zs : List Int} (h : LR w ao zs) : ∀ x, ao = some x → ∀ j u, (zs.map (Value.int .u64))[j]? = some u → w.cell? (x.add j) = some u := by
  intro x hx j u hu
  have hp : 0 < (zs.map (Value.int .u64)).length := by
    rcases Nat.lt_or_ge j (zs.map (Value.int .u64)).length with h | h
    · omega
    · rw [List.getElem?_eq_none h] at hu; cases hu
  obtain ⟨ad, had, h2⟩ := news_row h.rowU hp
  rw [hx] at had
  cases had
  exact h2 j u hu
theorem LR.fr {T : Nat → Prop} {w w' : World} {ao : Option Addr} {zs : List Int} (h : LR w ao zs) (hf : Fr T w w') (hn : ∀ g, ao = some ⟨g, 0, none⟩ → ¬ T g) : LR w' ao zs := by
  rcases h with h | ⟨g, rfl, hr⟩
  · exact .inl h
  · exact .inr ⟨g, rfl, hr.fr hf (hn g rfl)⟩

/-- the list v is full of m -/
def Full (w : World) (v : Value) (m : Int) : Prop := ∃ k, Own 0 w v (List.replicate k m)
/-- which block holds words -/
theorem Full.block {w : World} {v : Value} {m : Int} (h : Full w v m) {g : Nat} (hg : v.ownBlock = some g) : ∃ cur, w.heap[g]? = some (.cells cur 50 (0, 0)) := by
  obtain ⟨k, h⟩ := h
  rcases h.2 with ⟨rfl, _⟩ | ⟨g', cap, cur, rfl, _, hh, _⟩
  · cases hg
  · simp [Value.ownBlock] at hg; subst hg; exact ⟨cur, hh⟩
theorem Full.fr {T : Nat → Prop} {w w' : World} {v : Value} {m : Int} (h : Full w v m) (hf : Fr T w w') (hT : ∀ g cur, w.heap[g]? = some (.cells cur 50 (0, 0)) → ¬ T g) : Full w' v m := by
  obtain ⟨k, ho⟩ := h
  exact ⟨k, hf.owns ho (fun g hg => by obtain ⟨cur, hc⟩ := Full.block ⟨k, ho⟩ hg; exact hT g cur hc)⟩

/-- which old blocks 'words' turns -/
def Turned (b : Nat) (ao : Option Addr) (vb : Value) (k : Nat) : Prop := k = b ∨ ao = some ⟨k, 0, none⟩ ∨ vb.ownBlock = some k

/-- midway: the new entry lies at X -/
structure Mid (w : World) (b X n : Nat) (vws vhs vb vss vos : Value) (ao : Option Addr) (len : Nat) (m : Int) (B nb : Nat) (cells : List Value) (xs : Array Value) (fs : List Value) (wX : World) : Prop where
  x : wX.heap[X]? = some (.cells xs 146 (0, 0))
  bk : Wb wX b vws vhs n vb vss vos
  l : LR wX ao (List.replicate len m)
  own : wX.ownsRow B 146 5 vb nb cells
  fr : Fr (Turned b ao vb) w wX
  old : w.heap.size ≤ X
  lb : b < w.heap.size
  lv : ∀ g, vb.ownBlock = some g → g < w.heap.size
  full : ∀ v ∈ fs, Full wX v m

namespace Mid
variable {w : World} {b X n : Nat} {vws vhs vb vss vos : Value} {ao : Option Addr} {len : Nat} {m : Int} {B nb : Nat} {cells : List Value} {xs : Array Value} {fs : List Value} {wX : World}
theorem grow (h : Mid w b X n vws vhs vb vss vos ao len m B nb cells xs fs wX) {w' : World} (hf : Fr New wX w') : Mid w b X n vws vhs vb vss vos ao len m B nb cells xs fs w' :=
  ⟨hf.heap h.x id, hf.heap h.bk id, h.l.fr hf (fun _ _ h => h), hf.owns h.own (fun _ _ h => h), h.fr.same hf, h.old, h.lb, h.lv, fun v hv => (h.full v hv).fr hf (fun _ _ _ h => h)⟩
theorem put (h : Mid w b X n vws vhs vb vss vos ao len m B nb cells xs fs wX) (i : Nat) (u : Value) : Mid w b X n vws vhs vb vss vos ao len m B nb cells (xs.setIfInBounds i u) fs (wX.setCell ⟨X, i, none⟩ u) := by
  have hf : Fr (fun k => k = X) wX (wX.setCell ⟨X, i, none⟩ u) := (Fr.refl (fun k => k = X) wX).setCell (p := ⟨X, i, none⟩) (fun _ => rfl) u
  have hX : ∀ g cur t, t ≠ 146 → wX.heap[g]? = some (.cells cur t (0, 0)) → ¬ g = X := by
    rintro g cur t ht hg rfl
    rw [h.x] at hg
    simp only [Option.some.injEq, Obj.cells.injEq] at hg
    exact ht hg.2.1.symm
  refine ⟨heap_setCell_same wX X i xs _ u h.x, hf.heap h.bk (hX _ _ _ (by decide) h.bk), h.l.fr hf ?_, hf.owns h.own ?_, h.fr.setCell (fun hlt => absurd hlt (by have := h.old; simp; omega)) u, h.old, h.lb, h.lv, fun v hv => (h.full v hv).fr hf (fun g cur hg => hX g cur _ (by decide) hg)⟩
  · rintro g rfl
    rcases h.l with ⟨h', _⟩ | ⟨g', hg', hr⟩
    · cases h'
    · cases hg'; exact hX _ _ _ (by decide) hr
  · intro g hg
    have := h.lv g hg
    have := h.old
    omega
theorem add (h : Mid w b X n vws vhs vb vss vos ao len m B nb cells xs fs wX) {v : Value} (hv : Full wX v m) : Mid w b X n vws vhs vb vss vos ao len m B nb cells xs (v :: fs) wX :=
  ⟨h.x, h.bk, h.l, h.own, h.fr, h.old, h.lb, h.lv, fun u hu => by rcases List.mem_cons.1 hu with rfl | hu; exact hv; exact h.full u hu⟩
end Mid

theorem full_app {w : World} {N : Nat} {v : Value} {m : Int} {n k : Nat} (h : w.ownsRow N 50 1 v (n + k) ((List.replicate n m).map (Value.int .u64) ++ (List.replicate k m).map (Value.int .u64))) : Full w v m := by
  refine ⟨n + k, ?_⟩
  rw [← List.map_append, List.replicate_append_replicate] at h
  rcases h with ⟨h1, h2 | ⟨g, cap, cur, rfl, _, r⟩⟩
  · exact ⟨by simp, .inl (by simpa using h2)⟩
  · exact ⟨by simp, .inr ⟨g, cap, cur, by simp, Nat.zero_le _, by simpa using r⟩⟩

end Go.Proofs.YtbagcjlimdilpaaGreat
/- What the document's Check tells, as mathematics: the first of a row of things that may be wrong, and its place. -/
namespace Go.Proofs.YtbagcjlimdilpaaGreat

/-- the first thing that is wrong, with its place; 0, 0: nothing is -/
def Told : List (Prop × Int × Int) → Int → Int → Prop
  | [], c, p => c = 0 ∧ p = 0
  | x :: r, c, p => (x.1 ∧ c = x.2.1 ∧ p = x.2.2) ∨ (¬ x.1 ∧ Told r c p)
/-- nothing is wrong -/
def Clear (E : List (Prop × Int × Int)) : Prop := ∀ y ∈ E, ¬ y.1
theorem told_one {E : List (Prop × Int × Int)} {c p c' p' : Int} (h : Told E c p) (h' : Told E c' p') : c = c' ∧ p = p' := by
  induction E with
  | nil => obtain ⟨rfl, rfl⟩ := h; obtain ⟨rfl, rfl⟩ := h'; exact ⟨rfl, rfl⟩
  | cons x r ih =>
    rcases h with ⟨hx, rfl, rfl⟩ | ⟨hx, h⟩
    · rcases h' with ⟨_, rfl, rfl⟩ | ⟨hx', _⟩
      · exact ⟨rfl, rfl⟩
      · exact absurd hx hx'
    · rcases h' with ⟨hx', _⟩ | ⟨_, h'⟩
      · exact absurd hx' hx
      · exact ih h h'
theorem clear_nil : Clear [] := fun y hy => by cases hy
theorem clear_app {a b : List (Prop × Int × Int)} (ha : Clear a) (hb : Clear b) : Clear (a ++ b) := fun y hy => by
  rcases List.mem_append.1 hy with h | h
  · exact ha y h
  · exact hb y h
theorem clear_snoc {a : List (Prop × Int × Int)} {x : Prop × Int × Int} (ha : Clear a) (hx : ¬ x.1) : Clear (a ++ [x]) := clear_app ha (fun y hy => by
  obtain rfl : y = x := by simpa using hy
  exact hx)
theorem told_skip {a b : List (Prop × Int × Int)} {c p : Int} (ha : Clear a) (hb : Told b c p) : Told (a ++ b) c p := by
  induction a with
  | nil => exact hb
  | cons x r ih => exact .inr ⟨ha x (by simp), ih (fun y hy => ha y (by simp [hy]))⟩
theorem told_at {a b : List (Prop × Int × Int)} {x : Prop × Int × Int} (ha : Clear a) (hx : x.1) : Told (a ++ x :: b) x.2.1 x.2.2 := told_skip ha (.inl ⟨hx, rfl, rfl⟩)
theorem told_none {a : List (Prop × Int × Int)} (ha : Clear a) : Told a 0 0 := by
  have := told_skip (b := []) (c := 0) (p := 0) ha ⟨rfl, rfl⟩
  rwa [List.append_nil] at this
/-- a thing that is wrong, within a part of the row -/
theorem told_in {a m b c' : List (Prop × Int × Int)} {x : Prop × Int × Int} {pre post : List (Prop × Int × Int)} (hm : m = pre ++ x :: post) (ha : Clear a) (hp : Clear pre) (hx : x.1) (hb : b = m ++ c') : Told (a ++ b) x.2.1 x.2.2 := by
  subst hb hm
  refine told_skip ha ?_
  rw [List.append_assoc]
  exact told_at hp hx

theorem range_at {n r : Nat} (h : r < n) : ∃ b, List.range n = List.range r ++ r :: b := by
  refine ⟨(List.range (n - (r + 1))).map (r + 1 + ·), ?_⟩
  apply List.ext_getElem?
  intro i
  by_cases hi : i < r
  · rw [List.getElem?_append_left (by simpa using hi)]
    simp [hi, Nat.lt_trans hi h]
  · rw [List.getElem?_append_right (by simpa using hi)]
    simp only [List.length_range]
    by_cases he : i = r
    · subst he; simp [h]
    · obtain ⟨j, rfl⟩ : ∃ j, i = r + 1 + j := ⟨i - (r + 1), by omega⟩
      rw [show r + 1 + j - r = j + 1 by omega, List.getElem?_cons_succ]
      by_cases hn : r + 1 + j < n
      · rw [List.getElem?_range hn, List.getElem?_map, List.getElem?_range (by omega)]
        rfl
      · rw [List.getElem?_eq_none (by simp; omega), List.getElem?_eq_none (by simp; omega)]

abbrev Row4 := List (Prop × Int × Int)
def headT (ws : List Int) : Row4 := [(nblk ws.length = 0, 2, 0), (wd ws 0 ≠ 20261114, 3, 0), (wd ws 1 ≠ nblk ws.length, 3, 1), (wd ws 7 ≠ sumL (ws.take 7), 3, 7), (wd ws 8 ≠ 0, 4, 8)]
def badT (ws : List Int) : Row4 := (bads ws).map (fun (p : Nat) => (True, (5 : Int), (p : Int)))
def rootT (ws : List Int) (l : List Ob) (r : Nat) : Prop × Int × Int := (wd ws (3 + r) ≠ 0 ∧ idx l (wd ws (3 + r)) = none, 6, ((3 + r : Nat) : Int))
def ptrT (ws : List Int) (l : List Ob) (o : Ob) (p : Nat) : Prop × Int × Int := (wd ws (pl o p) ≠ 0 ∧ idx l (wd ws (pl o p)) = none, 7, ((pl o p : Nat) : Int))
def ptrsT (ws : List Int) (l : List Ob) (o : Ob) : Row4 := (List.range o.ptrs).map (ptrT ws l o)
def leakT (ws : List Int) (l : List Ob) (i : Nat) : Prop × Int × Int := (¬ Reach ws l i, 8, ((l[i]?.elim 0 (fun o => 106 + 8 * o.block) : Nat) : Int))
/-- all that may be wrong, in its order -/
def checkT (ws : List Int) : Row4 := headT ws ++ (badT ws ++ ((List.range 4).map (rootT ws (objs ws)) ++ ((objs ws).flatMap (ptrsT ws (objs ws)) ++ (List.range (objs ws).length).map (leakT ws (objs ws)))))
/-- what Check tells of some words -/
def CheckIs (ws : List Int) (c p : Int) : Prop := Told (checkT ws) c p

theorem clear_range {f : Nat → Prop × Int × Int} {r : Nat} (h : Clear ((List.range r).map f)) (hx : ¬ (f r).1) : Clear ((List.range (r + 1)).map f) := by
  rw [List.range_succ, List.map_append]
  exact clear_snoc h hx
theorem map_at {f : Nat → Prop × Int × Int} {n r : Nat} (h : r < n) : ∃ b, (List.range n).map f = (List.range r).map f ++ f r :: b := by
  obtain ⟨b, hb⟩ := range_at h
  exact ⟨b.map f, by rw [hb]; simp⟩

theorem check_bad {ws : List Int} (hA : Clear (headT ws)) {p : Nat} {r : List Nat} (h : bads ws = p :: r) : CheckIs ws 5 p := by
  unfold CheckIs checkT
  refine told_skip hA ?_
  unfold badT
  rw [h]
  exact .inl ⟨trivial, rfl, rfl⟩
theorem clear_bad {ws : List Int} (hA : Clear (headT ws)) (h : bads ws = []) : Clear (headT ws ++ badT ws) := by
  refine clear_app hA ?_
  unfold badT
  rw [h]
  exact clear_nil
theorem check_root {ws : List Int} (hA : Clear (headT ws ++ badT ws)) {r : Nat} (hr : r < 4) (hp : Clear ((List.range r).map (rootT ws (objs ws)))) (hx : wd ws (3 + r) ≠ 0 ∧ idx (objs ws) (wd ws (3 + r)) = none) : CheckIs ws 6 ((3 + r : Nat) : Int) := by
  unfold CheckIs checkT
  obtain ⟨b, hb⟩ := map_at (f := rootT ws (objs ws)) hr
  rw [← List.append_assoc, hb]
  refine told_skip hA ?_
  rw [List.append_assoc]
  exact told_at (x := rootT ws (objs ws) r) hp hx
theorem check_ptr {ws : List Int} (hA : Clear (headT ws ++ badT ws)) (hR : Clear ((List.range 4).map (rootT ws (objs ws)))) {i : Nat} (hi : i < (objs ws).length) (hp : Clear (((objs ws).take i).flatMap (ptrsT ws (objs ws)))) {p : Nat} (hpp : p < ((objs ws)[i]).ptrs)
    (hq : Clear ((List.range p).map (ptrT ws (objs ws) (objs ws)[i]))) (hx : wd ws (pl (objs ws)[i] p) ≠ 0 ∧ idx (objs ws) (wd ws (pl (objs ws)[i] p)) = none) : CheckIs ws 7 ((pl (objs ws)[i] p : Nat) : Int) := by
  unfold CheckIs checkT
  obtain ⟨b, hb⟩ := map_at (f := ptrT ws (objs ws) (objs ws)[i]) hpp
  have e : (objs ws).flatMap (ptrsT ws (objs ws)) = ((objs ws).take i).flatMap (ptrsT ws (objs ws)) ++ (((List.range p).map (ptrT ws (objs ws) (objs ws)[i]) ++ ptrT ws (objs ws) (objs ws)[i] p :: b) ++ ((objs ws).drop (i + 1)).flatMap (ptrsT ws (objs ws))) := by
    have h0 : objs ws = (objs ws).take i ++ ((objs ws)[i] :: (objs ws).drop (i + 1)) := by simp
    conv => lhs; rw [show (objs ws).flatMap (ptrsT ws (objs ws)) = ((objs ws).take i ++ ((objs ws)[i] :: (objs ws).drop (i + 1))).flatMap (ptrsT ws (objs ws)) from congrArg (fun z => List.flatMap (ptrsT ws (objs ws)) z) h0]
    rw [List.flatMap_append, List.flatMap_cons]
    unfold ptrsT
    rw [hb]
  rw [e, ← List.append_assoc]
  refine told_skip hA (told_skip hR ?_)
  simp only [List.append_assoc, List.cons_append]
  refine told_skip hp ?_
  exact told_at (x := ptrT ws (objs ws) (objs ws)[i] p) hq hx
theorem check_leak {ws : List Int} (hA : Clear (headT ws ++ badT ws)) (hR : Clear ((List.range 4).map (rootT ws (objs ws)))) (hP : Clear ((objs ws).flatMap (ptrsT ws (objs ws)))) {i : Nat} (hi : i < (objs ws).length)
    (hp : Clear ((List.range i).map (leakT ws (objs ws)))) (hx : ¬ Reach ws (objs ws) i) : CheckIs ws 8 ((106 + 8 * ((objs ws)[i]).block : Nat) : Int) := by
  unfold CheckIs checkT
  obtain ⟨b, hb⟩ := map_at (f := leakT ws (objs ws)) hi
  rw [← List.append_assoc, hb]
  have := told_skip hA (told_skip hR (told_skip hP (told_at (b := b) (x := leakT ws (objs ws) i) hp hx)))
  have e2 : (leakT ws (objs ws) i).2.2 = ((106 + 8 * ((objs ws)[i]).block : Nat) : Int) := by
    unfold leakT
    rw [List.getElem?_eq_getElem hi]
    rfl
  rw [e2] at this
  exact this
theorem check_ok {ws : List Int} (hA : Clear (headT ws ++ badT ws)) (hR : Clear ((List.range 4).map (rootT ws (objs ws)))) (hP : Clear ((objs ws).flatMap (ptrsT ws (objs ws)))) (hL : Clear ((List.range (objs ws).length).map (leakT ws (objs ws)))) : CheckIs ws 0 0 := by
  unfold CheckIs checkT
  rw [← List.append_assoc]
  exact told_none (clear_app hA (clear_app hR (clear_app hP hL)))
theorem clear_ptrs {ws : List Int} {l m : List Ob} {i : Nat} (hi : i < m.length) (h : Clear ((m.take i).flatMap (ptrsT ws l))) (hq : Clear ((List.range (m[i]).ptrs).map (ptrT ws l m[i]))) : Clear ((m.take (i + 1)).flatMap (ptrsT ws l)) := by
  rw [List.take_succ_eq_append_getElem hi, List.flatMap_append]
  refine clear_app h ?_
  simpa [ptrsT] using hq

end Go.Proofs.YtbagcjlimdilpaaGreat
/- What is known of the objects that a walk finds. -/
namespace Go.Proofs.YtbagcjlimdilpaaGreat

theorem walkF_mem {ws : List Int} {n f b : Nat} {o : Ob} (h : o ∈ (walkF ws n f b).1) : o.block < n ∧ b ≤ o.block ∧ slotAt ws o.block = some (some o) := by
  induction f generalizing b with
  | zero => simp [walkF] at h
  | succ f ih =>
    rw [walkF] at h
    split at h
    · rename_i hb
      split at h
      · rename_i o' ho
        have hs := slot_obs ho
        rcases List.mem_cons.1 h with rfl | h
        · rw [hs.1]; exact ⟨hb, Nat.le_refl _, ho⟩
        · have := ih h; exact ⟨this.1, by omega, this.2.2⟩
      · have := ih h; exact ⟨this.1, by omega, this.2.2⟩
      · have := ih h; exact ⟨this.1, by omega, this.2.2⟩
    · simp at h
theorem walkF_len (ws : List Int) (n f b : Nat) : (walkF ws n f b).1.length ≤ f ∧ (walkF ws n f b).2.length ≤ f := by
  induction f generalizing b with
  | zero => simp [walkF]
  | succ f ih =>
    rw [walkF]
    split
    · split
      · rename_i o _; have := ih (b + o.span); simp; omega
      · have := ih (b + 1); simp; omega
      · have := ih (b + 1); omega
    · simp
theorem walkF_bad {ws : List Int} {n f b p : Nat} (h : p ∈ (walkF ws n f b).2) : ∃ b', b' < n ∧ p = 106 + 8 * b' := by
  induction f generalizing b with
  | zero => simp [walkF] at h
  | succ f ih =>
    rw [walkF] at h
    split at h
    · rename_i hb
      split at h
      · exact ih h
      · rcases List.mem_cons.1 h with rfl | h
        · exact ⟨b, hb, rfl⟩
        · exact ih h
      · exact ih h
    · simp at h
theorem bads_lt {ws : List Int} {p : Nat} (hn : nblk ws.length ≠ 0) (h : p ∈ bads ws) : 106 ≤ p ∧ p < ws.length := by
  obtain ⟨b, hb, rfl⟩ := walkF_bad h
  have := (nblk_some hn).1
  omega
theorem objs_mem {ws : List Int} {o : Ob} (h : o ∈ objs ws) : o.block < nblk ws.length ∧ slotAt ws o.block = some (some o) := by
  have := walkF_mem h
  exact ⟨this.1, this.2.2⟩
theorem objs_in {ws : List Int} {o : Ob} (h : o ∈ objs ws) : 106 + 8 * (o.block + o.span) ≤ ws.length ∧ 1 ≤ o.span ∧ o.span ≤ 4 ∧ o.ptrs < 8 * o.span ∧ o.block < nblk ws.length := by
  obtain ⟨h1, h2⟩ := objs_mem h
  have := slot_obs h2
  exact ⟨this.2.2.2.2, this.2.1, this.2.2.1, this.2.2.2.1, h1⟩
theorem nblk_le (len : Nat) : nblk len ≤ 32 := by
  by_cases h : nblk len = 0
  · omega
  · exact (nblk_some h).2.2
theorem objs_len (ws : List Int) : (objs ws).length ≤ 32 := Nat.le_trans (walkF_len ws _ _ 0).1 (by have := nblk_le ws.length; omega)
theorem bads_len (ws : List Int) : (bads ws).length ≤ 32 := Nat.le_trans (walkF_len ws _ _ 0).2 (by have := nblk_le ws.length; omega)

end Go.Proofs.YtbagcjlimdilpaaGreat
/- What a log asks for, as mathematics. -/
namespace Go.Proofs.YtbagcjlimdilpaaGreat

/-- a place that a record may name -/
def okAt (len : Nat) (p : Int) : Bool := decide (p < len) && !(decide (8 ≤ p) && decide (p < 106))
/-- the words over which a log's sum goes -/
def logWords (ws : List Int) (n : Nat) : List Int := wd ws 8 :: (List.range n).flatMap (fun i => [wd ws (10 + 2 * i), wd ws (11 + 2 * i)])
theorem logWords_zero (ws : List Int) : logWords ws 0 = [wd ws 8] := rfl
theorem logWords_succ (ws : List Int) (n : Nat) : logWords ws (n + 1) = logWords ws n ++ [wd ws (10 + 2 * n), wd ws (11 + 2 * n)] := by simp [logWords, List.range_succ]
theorem logWords_len (ws : List Int) (n : Nat) : (logWords ws n).length = 1 + 2 * n := by
  induction n with
  | zero => rfl
  | succ n ih => rw [logWords_succ, List.length_append, ih]; simp; omega
/-- how many records the log asks for, and whether it is right -/
def asksS (ws : List Int) : Nat × Bool :=
  if wd ws 8 = 0 then (0, true)
  else if 48 < wd ws 8 then (0, false)
  else if (List.range (wd ws 8).toNat).all (fun i => okAt ws.length (wd ws (10 + 2 * i))) then ((wd ws 8).toNat, sumL (logWords ws (wd ws 8).toNat) == wd ws 9)
  else (0, false)
theorem asks_none {ws : List Int} (h : wd ws 8 = 0) : asksS ws = (0, true) := by unfold asksS; rw [if_pos h]
theorem asks_many {ws : List Int} (h0 : wd ws 8 ≠ 0) (h : 48 < wd ws 8) : asksS ws = (0, false) := by unfold asksS; rw [if_neg h0, if_pos h]
theorem asks_wrong {ws : List Int} (h0 : wd ws 8 ≠ 0) (h : wd ws 8 ≤ 48) {i : Nat} (hi : i < (wd ws 8).toNat) (hx : okAt ws.length (wd ws (10 + 2 * i)) = false) : asksS ws = (0, false) := by
  unfold asksS
  rw [if_neg h0, if_neg (by omega), if_neg]
  intro hall
  rw [List.all_eq_true] at hall
  have := hall i (by simpa using hi)
  rw [hx] at this
  cases this
theorem asks_right {ws : List Int} (h0 : wd ws 8 ≠ 0) (h : wd ws 8 ≤ 48) (hx : ∀ i, i < (wd ws 8).toNat → okAt ws.length (wd ws (10 + 2 * i)) = true) : asksS ws = ((wd ws 8).toNat, sumL (logWords ws (wd ws 8).toNat) == wd ws 9) := by
  unfold asksS
  rw [if_neg h0, if_neg (by omega), if_pos]
  rw [List.all_eq_true]
  intro i hi
  exact hx i (by simpa using hi)
theorem asks_le (ws : List Int) : (asksS ws).1 ≤ 48 := by
  unfold asksS
  split
  · simp
  · split
    · simp
    · split
      · simp; omega
      · simp
theorem okAt_iff {len : Nat} {p : Int} : okAt len p = true ↔ p < len ∧ (p < 8 ∨ 106 ≤ p) := by
  unfold okAt
  simp only [Bool.and_eq_true, Bool.not_eq_true', Bool.and_eq_false_iff, decide_eq_true_eq, decide_eq_false_iff_not]
  omega
/-- what is asked for may be done -/
theorem asks_ok {ws : List Int} {i : Nat} (hi : i < (asksS ws).1) : okAt ws.length (wd ws (10 + 2 * i)) = true := by
  unfold asksS at hi
  split at hi
  · simp at hi
  · split at hi
    · simp at hi
    · split at hi
      · rename_i hall
        rw [List.all_eq_true] at hall
        exact hall i (by simpa using hi)
      · simp at hi
/-- the words, with the first k records done -/
def doneS (ws : List Int) : Nat → List Int
  | 0 => ws
  | k + 1 => (doneS ws k).set (wd ws (10 + 2 * k)).toNat (wd ws (11 + 2 * k))
theorem doneS_len (ws : List Int) (k : Nat) : (doneS ws k).length = ws.length := by
  induction k with
  | zero => rfl
  | succ k ih => simp [doneS, ih]
/-- a log that is asked is not changed by what it asks for -/
theorem doneS_log {ws : List Int} (hU : ∀ z ∈ ws, U z) {k : Nat} (hok : ∀ i, i < k → okAt ws.length (wd ws (10 + 2 * i)) = true) {q : Nat} (h8 : 8 ≤ q) (hq : q < 106) : wd (doneS ws k) q = wd ws q := by
  induction k with
  | zero => rfl
  | succ k ih =>
    have h1 := hok k (by omega)
    have hwU : U (wd ws (10 + 2 * k)) := by
      unfold wd
      by_cases hl : 10 + 2 * k < ws.length
      · rw [List.getD_eq_getElem?_getD, List.getElem?_eq_getElem hl]; exact hU _ (List.getElem_mem _)
      · rw [List.getD_eq_getElem?_getD, List.getElem?_eq_none (by omega)]; exact ⟨by decide, by decide⟩
    rw [← ih (fun i hi => hok i (by omega))]
    unfold okAt at h1
    simp only [Bool.and_eq_true, Bool.not_eq_true', Bool.and_eq_false_iff, decide_eq_true_eq, decide_eq_false_iff_not] at h1
    have hne : (wd ws (10 + 2 * k)).toNat ≠ q := by have := hwU.1; omega
    show ((doneS ws k).set _ _).getD q 0 = (doneS ws k).getD q 0
    rw [List.getD_eq_getElem?_getD, List.getD_eq_getElem?_getD, List.getElem?_set_ne hne]

end Go.Proofs.YtbagcjlimdilpaaGreat
/- What the document's Repair makes of some words, as mathematics. -/
namespace Go.Proofs.YtbagcjlimdilpaaGreat

/-- cur is w2 with 0 at the places of Z -/
structure Zeroed (w2 cur : List Int) (Z : Nat → Prop) : Prop where
  len : cur.length = w2.length
  yes : ∀ q, Z q → wd cur q = 0
  no : ∀ q, ¬ Z q → wd cur q = wd w2 q
theorem wd_set {ws : List Int} {q x : Nat} {v : Int} (hq : q < ws.length) : wd (ws.set q v) x = if x = q then v else wd ws x := by
  unfold wd
  rw [List.getD_eq_getElem?_getD, List.getD_eq_getElem?_getD]
  by_cases h : x = q
  · subst h; rw [if_pos rfl]; simp [hq]
  · rw [if_neg h, List.getElem?_set_ne (by omega)]
theorem wd_ext {a b : List Int} (hl : a.length = b.length) (h : ∀ q, wd a q = wd b q) : a = b := by
  apply List.ext_getElem hl
  intro i h1 h2
  have := h i
  unfold wd at this
  rw [List.getD_eq_getElem?_getD, List.getD_eq_getElem?_getD, List.getElem?_eq_getElem h1, List.getElem?_eq_getElem h2] at this
  exact this
theorem zeroed_self (w : List Int) {Z : Nat → Prop} (h : ∀ q, ¬ Z q) : Zeroed w w Z := ⟨rfl, fun q hq => absurd hq (h q), fun _ _ => rfl⟩
theorem Zeroed.congr {w2 cur : List Int} {Z Z' : Nat → Prop} (h : Zeroed w2 cur Z) (hZ : ∀ q, Z q ↔ Z' q) : Zeroed w2 cur Z' := ⟨h.len, fun q hq => h.yes q ((hZ q).2 hq), fun q hq => h.no q (fun hh => hq ((hZ q).1 hh))⟩
theorem Zeroed.set {w2 cur : List Int} {Z : Nat → Prop} (h : Zeroed w2 cur Z) {q : Nat} (hq : q < w2.length) : Zeroed w2 (cur.set q 0) (fun x => Z x ∨ x = q) := by
  have hq' : q < cur.length := by rw [h.len]; exact hq
  refine ⟨by simpa using h.len, fun x hx => ?_, fun x hx => ?_⟩
  · rw [wd_set hq']
    by_cases he : x = q
    · rw [if_pos he]
    · rw [if_neg he]; exact h.yes x (hx.resolve_right he)
  · rw [wd_set hq', if_neg (fun he => hx (.inr he))]
    exact h.no x (fun hz => hx (.inl hz))
theorem Zeroed.one {w2 a b : List Int} {Z : Nat → Prop} (ha : Zeroed w2 a Z) (hb : Zeroed w2 b Z) : a = b :=
  wd_ext (ha.len.trans hb.len.symm) (fun q => by
    by_cases h : Z q
    · rw [ha.yes q h, hb.yes q h]
    · rw [ha.no q h, hb.no q h])
theorem idx_zero (l : List Ob) : idx l 0 = none := idx_no (fun i hi => by omega)
/-- one pointer is looked at: it becomes 0 where it holds no object -/
theorem Zeroed.hit {w2 cur : List Int} {Z : Nat → Prop} {l : List Ob} (h : Zeroed w2 cur Z) {q : Nat} (hq : q < w2.length) (hx : idx l (wd cur q) = none) : Zeroed w2 (cur.set q 0) (fun x => Z x ∨ (x = q ∧ idx l (wd w2 q) = none)) := by
  refine (h.set hq).congr (fun x => ?_)
  by_cases hz : Z q
  · constructor
    · rintro (h1 | rfl)
      · exact .inl h1
      · exact .inl hz
    · rintro (h1 | ⟨h1, _⟩)
      · exact .inl h1
      · exact .inr h1
  · rw [h.no q hz] at hx
    constructor
    · rintro (h1 | h1)
      · exact .inl h1
      · exact .inr ⟨h1, hx⟩
    · rintro (h1 | ⟨h1, _⟩)
      · exact .inl h1
      · exact .inr h1
theorem Zeroed.miss {w2 cur : List Int} {Z : Nat → Prop} {l : List Ob} (h : Zeroed w2 cur Z) {q k : Nat} (hx : idx l (wd cur q) = some k) : Zeroed w2 cur (fun x => Z x ∨ (x = q ∧ idx l (wd w2 q) = none)) := by
  refine h.congr (fun x => ⟨.inl, fun hh => ?_⟩)
  rcases hh with h1 | ⟨rfl, h1⟩
  · exact h1
  · by_cases hz : Z x
    · exact hz
    · rw [h.no x hz, h1] at hx; cases hx

/-- the words behind the log, the log emptied -/
def loggedS (ws : List Int) : List Int := (if (asksS ws).2 then doneS ws (asksS ws).1 else ws).set 8 0
theorem loggedS_len (ws : List Int) : (loggedS ws).length = ws.length := by
  unfold loggedS
  rw [List.length_set]
  split
  · exact doneS_len _ _
  · rfl
/-- the head is one -/
def headOk (ws : List Int) : Prop := wd (loggedS ws) 0 = 20261114 ∧ wd (loggedS ws) 1 = nblk ws.length

def rootZ (w2 : List Int) (l : List Ob) (r q : Nat) : Prop := 3 ≤ q ∧ q < 3 + r ∧ idx l (wd w2 q) = none
def ptrZ1 (w2 : List Int) (l : List Ob) (o : Ob) (p q : Nat) : Prop := ∃ p', p' < p ∧ q = pl o p' ∧ idx l (wd w2 q) = none
def ptrZ (w2 : List Int) (l : List Ob) (i q : Nat) : Prop := ∃ j, ∃ hj : j < l.length, j < i ∧ Reach w2 l j ∧ ptrZ1 w2 l l[j] (l[j]).ptrs q
def leakZ1 (o : Ob) (b q : Nat) : Prop := ∃ b', b' < b ∧ q = 106 + 8 * (o.block + b')
def leakZ (w2 : List Int) (l : List Ob) (i q : Nat) : Prop := ∃ j, ∃ hj : j < l.length, j < i ∧ ¬ Reach w2 l j ∧ leakZ1 l[j] (l[j]).span q
/-- the places that become 0 -/
def fixZ (w2 : List Int) (l : List Ob) (q : Nat) : Prop := (rootZ w2 l 4 q ∨ ptrZ w2 l l.length q) ∨ leakZ w2 l l.length q

theorem rootZ_zero {w2 : List Int} {l : List Ob} (q : Nat) : ¬ rootZ w2 l 0 q := fun h => by have := h.1; have := h.2.1; omega
theorem rootZ_succ {w2 : List Int} {l : List Ob} {r : Nat} (q : Nat) : (rootZ w2 l r q ∨ (q = 3 + r ∧ idx l (wd w2 (3 + r)) = none)) ↔ rootZ w2 l (r + 1) q := by
  unfold rootZ
  constructor
  · rintro (⟨h1, h2, h3⟩ | ⟨rfl, h3⟩)
    · exact ⟨h1, by omega, h3⟩
    · exact ⟨by omega, by omega, h3⟩
  · rintro ⟨h1, h2, h3⟩
    by_cases he : q = 3 + r
    · subst he; exact .inr ⟨rfl, h3⟩
    · exact .inl ⟨h1, by omega, h3⟩
theorem ptrZ1_zero {w2 : List Int} {l : List Ob} {o : Ob} (q : Nat) : ¬ ptrZ1 w2 l o 0 q := fun ⟨_, h, _⟩ => by omega
theorem ptrZ1_succ {w2 : List Int} {l : List Ob} {o : Ob} {p : Nat} (q : Nat) : (ptrZ1 w2 l o p q ∨ (q = pl o p ∧ idx l (wd w2 (pl o p)) = none)) ↔ ptrZ1 w2 l o (p + 1) q := by
  constructor
  · rintro (⟨p', h1, h2, h3⟩ | ⟨rfl, h3⟩)
    · exact ⟨p', by omega, h2, h3⟩
    · exact ⟨p, by omega, rfl, h3⟩
  · rintro ⟨p', h1, h2, h3⟩
    by_cases he : p' = p
    · subst he; subst h2; exact .inr ⟨rfl, h3⟩
    · exact .inl ⟨p', by omega, h2, h3⟩
theorem ptrZ_zero {w2 : List Int} {l : List Ob} (q : Nat) : ¬ ptrZ w2 l 0 q := fun ⟨_, _, h, _⟩ => by omega
theorem ptrZ_yes {w2 : List Int} {l : List Ob} {i : Nat} (hi : i < l.length) (hr : Reach w2 l i) (q : Nat) : (ptrZ w2 l i q ∨ ptrZ1 w2 l l[i] (l[i]).ptrs q) ↔ ptrZ w2 l (i + 1) q := by
  constructor
  · rintro (⟨j, hj, h1, h2, h3⟩ | h)
    · exact ⟨j, hj, by omega, h2, h3⟩
    · exact ⟨i, hi, by omega, hr, h⟩
  · rintro ⟨j, hj, h1, h2, h3⟩
    by_cases he : j = i
    · subst he; exact .inr h3
    · exact .inl ⟨j, hj, by omega, h2, h3⟩
theorem ptrZ_no {w2 : List Int} {l : List Ob} {i : Nat} (hr : ¬ Reach w2 l i) (q : Nat) : ptrZ w2 l i q ↔ ptrZ w2 l (i + 1) q := by
  constructor
  · rintro ⟨j, hj, h1, h2, h3⟩
    exact ⟨j, hj, by omega, h2, h3⟩
  · rintro ⟨j, hj, h1, h2, h3⟩
    by_cases he : j = i
    · subst he; exact absurd h2 hr
    · exact ⟨j, hj, by omega, h2, h3⟩
theorem leakZ1_zero {o : Ob} (q : Nat) : ¬ leakZ1 o 0 q := fun ⟨_, h, _⟩ => by omega
theorem leakZ1_succ {o : Ob} {b : Nat} (q : Nat) : (leakZ1 o b q ∨ q = 106 + 8 * (o.block + b)) ↔ leakZ1 o (b + 1) q := by
  constructor
  · rintro (⟨b', h1, h2⟩ | h)
    · exact ⟨b', by omega, h2⟩
    · exact ⟨b, by omega, h⟩
  · rintro ⟨b', h1, h2⟩
    by_cases he : b' = b
    · subst he; exact .inr h2
    · exact .inl ⟨b', by omega, h2⟩
theorem leakZ_zero {w2 : List Int} {l : List Ob} (q : Nat) : ¬ leakZ w2 l 0 q := fun ⟨_, _, h, _⟩ => by omega
theorem leakZ_yes {w2 : List Int} {l : List Ob} {i : Nat} (hi : i < l.length) (hr : ¬ Reach w2 l i) (q : Nat) : (leakZ w2 l i q ∨ leakZ1 l[i] (l[i]).span q) ↔ leakZ w2 l (i + 1) q := by
  constructor
  · rintro (⟨j, hj, h1, h2, h3⟩ | h)
    · exact ⟨j, hj, by omega, h2, h3⟩
    · exact ⟨i, hi, by omega, hr, h⟩
  · rintro ⟨j, hj, h1, h2, h3⟩
    by_cases he : j = i
    · subst he; exact .inr h3
    · exact .inl ⟨j, hj, by omega, h2, h3⟩
theorem leakZ_no {w2 : List Int} {l : List Ob} {i : Nat} (hr : Reach w2 l i) (q : Nat) : leakZ w2 l i q ↔ leakZ w2 l (i + 1) q := by
  constructor
  · rintro ⟨j, hj, h1, h2, h3⟩
    exact ⟨j, hj, by omega, h2, h3⟩
  · rintro ⟨j, hj, h1, h2, h3⟩
    by_cases he : j = i
    · subst he; exact absurd hr h2
    · exact ⟨j, hj, by omega, h2, h3⟩

/-- what Repair makes of some words -/
def RepairIs (ws r : List Int) (e : Int) : Prop :=
  (nblk ws.length = 0 ∧ e = 2 ∧ r = []) ∨
  (nblk ws.length ≠ 0 ∧ ((¬ headOk ws ∧ e = 3 ∧ r = []) ∨
    (headOk ws ∧ e = 0 ∧ ∃ w2 w3, Zeroed (loggedS ws) w2 (fun q => q ∈ bads (loggedS ws)) ∧ Zeroed w2 w3 (fixZ w2 (objs w2)) ∧ r = w3.set 7 (sumL (w3.take 7)))))
theorem repair_one {ws r r' : List Int} {e e' : Int} (h : RepairIs ws r e) (h' : RepairIs ws r' e') : r = r' ∧ e = e' := by
  rcases h with ⟨h0, rfl, rfl⟩ | ⟨h0, h⟩
  · rcases h' with ⟨_, rfl, rfl⟩ | ⟨h1, _⟩
    · exact ⟨rfl, rfl⟩
    · exact absurd h0 h1
  · rcases h' with ⟨h1, _⟩ | ⟨_, h'⟩
    · exact absurd h1 h0
    · rcases h with ⟨hh, rfl, rfl⟩ | ⟨hh, rfl, w2, w3, z2, z3, rfl⟩
      · rcases h' with ⟨_, rfl, rfl⟩ | ⟨hh', _⟩
        · exact ⟨rfl, rfl⟩
        · exact absurd hh' hh
      · rcases h' with ⟨hh', _⟩ | ⟨_, rfl, v2, v3, y2, y3, rfl⟩
        · exact absurd hh hh'
        · obtain rfl := z2.one y2
          obtain rfl := z3.one y3
          exact ⟨rfl, rfl⟩

end Go.Proofs.YtbagcjlimdilpaaGreat
/- Mathematics of the program's Repair: objects behind the mending of wrong headers; what is reached behind the mending of roots. -/
namespace Go.Proofs.YtbagcjlimdilpaaGreat

theorem slot_same {ws w2 : List Int} {b : Nat} (hl : w2.length = ws.length) (hw : wd w2 (106 + 8 * b) = wd ws (106 + 8 * b)) : slotAt w2 b = slotAt ws b := by
  unfold slotAt
  rw [hw, hl]
theorem walkF_zero {ws w2 : List Int} {Z : Nat → Prop} (h : Zeroed ws w2 Z) (hZ : ∀ b, Z (106 + 8 * b) → slotAt ws b = some none) {n : Nat} : ∀ f b, (∀ q ∈ (walkF ws n f b).2, Z q) → (walkF w2 n f b).1 = (walkF ws n f b).1
  | 0, _, _ => rfl
  | f + 1, b, hq => by
    rw [walkF] at hq
    rw [walkF, walkF]
    by_cases hb : b < n
    · rw [if_pos hb] at hq
      rw [if_pos hb, if_pos hb]
      rcases hs : slotAt ws b with _ | _ | o
      · rw [hs] at hq
        rw [slot_same h.len (h.no _ (fun hz => by rw [hZ b hz] at hs; cases hs)), hs]
        exact walkF_zero h hZ f (b + 1) hq
      · rw [hs] at hq
        have hz : wd w2 (106 + 8 * b) = 0 := h.yes _ (hq _ (by simp))
        rw [slot_free hz]
        exact walkF_zero h hZ f (b + 1) (fun q hq' => hq q (by simp [hq']))
      · rw [hs] at hq
        rw [slot_same h.len (h.no _ (fun hz => by rw [hZ b hz] at hs; cases hs)), hs]
        simp only
        rw [walkF_zero h hZ f (b + o.span) hq]
    · rw [if_neg hb, if_neg hb]
theorem walkF_bad2 {ws : List Int} {n f b p : Nat} (h : p ∈ (walkF ws n f b).2) : ∃ b', p = 106 + 8 * b' ∧ slotAt ws b' = some none := by
  induction f generalizing b with
  | zero => simp [walkF] at h
  | succ f ih =>
    rw [walkF] at h
    split at h
    · split at h
      · exact ih h
      · rename_i hs
        rcases List.mem_cons.1 h with rfl | h
        · exact ⟨b, rfl, hs⟩
        · exact ih h
      · exact ih h
    · simp at h
/-- the objects stay, where wrong headers become 0 -/
theorem objs_zeroed {ws w2 : List Int} (h : Zeroed ws w2 (fun q => q ∈ bads ws)) : objs w2 = objs ws := by
  unfold objs walkS
  rw [h.len]
  refine walkF_zero h (fun b hb => ?_) _ _ (fun q hq => hq)
  obtain ⟨b', e, hs⟩ := walkF_bad2 hb
  obtain rfl : b = b' := by omega
  exact hs

theorem closed_roots {w2 cur : List Int} {l : List Ob} (h : Zeroed w2 cur (rootZ w2 l 4)) (S : Nat → Prop) : Closed cur l S ↔ Closed w2 l S := by
  have hroot : ∀ r, idx l (wd cur (3 + r)) = idx l (wd w2 (3 + r)) := fun r => by
    by_cases hz : rootZ w2 l 4 (3 + r)
    · rw [h.yes _ hz, idx_zero, hz.2.2]
    · rw [h.no _ hz]
  have hptr : ∀ i (hi : i < l.length) p, wd cur (pl l[i] p) = wd w2 (pl l[i] p) := fun i hi p => h.no _ (fun hz => by
    have := hz.2.1
    unfold pl at this
    omega)
  unfold Closed
  constructor
  · rintro ⟨h1, h2⟩
    exact ⟨fun r hr k hk => h1 r hr k (by rw [hroot]; exact hk), fun i hi p k hS hp hk => h2 i hi p k hS hp (by rw [hptr]; exact hk)⟩
  · rintro ⟨h1, h2⟩
    exact ⟨fun r hr k hk => h1 r hr k (by rw [← hroot]; exact hk), fun i hi p k hS hp hk => h2 i hi p k hS hp (by rw [← hptr i hi]; exact hk)⟩
theorem reach_roots {w2 cur : List Int} {l : List Ob} (h : Zeroed w2 cur (rootZ w2 l 4)) (i : Nat) : Reach cur l i ↔ Reach w2 l i :=
  ⟨fun hr S hS => hr S ((closed_roots h S).2 hS), fun hr S hS => hr S ((closed_roots h S).1 hS)⟩
end Go.Proofs.YtbagcjlimdilpaaGreat
/- Mathematics: what Repair does with a sound image: nothing. -/
namespace Go.Proofs.YtbagcjlimdilpaaGreat

theorem told_clear {E : List (Prop × Int × Int)} (h : Told E 0 0) (hE : ∀ y ∈ E, y.2.1 ≠ 0) : Clear E := by
  induction E with
  | nil => exact clear_nil
  | cons x r ih =>
    rcases h with ⟨_, h0, _⟩ | ⟨hx, h⟩
    · exact absurd h0.symm (hE x (by simp))
    · intro y hy
      rcases List.mem_cons.1 hy with rfl | hy
      · exact hx
      · exact ih h (fun y hy => hE y (by simp [hy])) y hy
theorem codes_ne (ws : List Int) : ∀ y ∈ checkT ws, y.2.1 ≠ 0 := by
  intro y hy
  unfold checkT at hy
  rcases List.mem_append.1 hy with hy | hy
  · simp only [headT, List.mem_cons, List.not_mem_nil, or_false] at hy
    rcases hy with rfl | rfl | rfl | rfl | rfl <;> simp
  · rcases List.mem_append.1 hy with hy | hy
    · obtain ⟨_, _, rfl⟩ := List.mem_map.1 hy; simp
    · rcases List.mem_append.1 hy with hy | hy
      · obtain ⟨_, _, rfl⟩ := List.mem_map.1 hy; simp [rootT]
      · rcases List.mem_append.1 hy with hy | hy
        · obtain ⟨_, _, hy⟩ := List.mem_flatMap.1 hy
          obtain ⟨_, _, rfl⟩ := List.mem_map.1 hy
          simp [ptrT]
        · obtain ⟨_, _, rfl⟩ := List.mem_map.1 hy; simp [leakT]
/-- what it is to be sound -/
structure Sound (ws : List Int) : Prop where
  n0 : nblk ws.length ≠ 0
  magic : wd ws 0 = 20261114
  n : wd ws 1 = nblk ws.length
  sum : wd ws 7 = sumL (ws.take 7)
  log : wd ws 8 = 0
  bad : bads ws = []
  root : ∀ r, r < 4 → wd ws (3 + r) = 0 ∨ idx (objs ws) (wd ws (3 + r)) ≠ none
  ptr : ∀ i (hi : i < (objs ws).length) p, p < ((objs ws)[i]).ptrs → wd ws (pl (objs ws)[i] p) = 0 ∨ idx (objs ws) (wd ws (pl (objs ws)[i] p)) ≠ none
  reach : ∀ i, i < (objs ws).length → Reach ws (objs ws) i
theorem sound_of_check {ws : List Int} (h : CheckIs ws 0 0) : Sound ws := by
  have hC := told_clear h (codes_ne ws)
  unfold checkT at hC
  have hh : Clear (headT ws) := fun y hy => hC y (List.mem_append_left _ hy)
  have hb : Clear (badT ws) := fun y hy => hC y (by simp [hy])
  have hr : ∀ r, r < 4 → ¬ (rootT ws (objs ws) r).1 := fun r hr => hC _ (by
    refine List.mem_append_right _ (List.mem_append_right _ (List.mem_append_left _ (List.mem_map.2 ⟨r, by simpa using hr, rfl⟩))))
  have hp : ∀ i (hi : i < (objs ws).length) p, p < ((objs ws)[i]).ptrs → ¬ (ptrT ws (objs ws) (objs ws)[i] p).1 := fun i hi p hp => hC _ (by
    refine List.mem_append_right _ (List.mem_append_right _ (List.mem_append_right _ (List.mem_append_left _ (List.mem_flatMap.2 ⟨_, List.getElem_mem hi, List.mem_map.2 ⟨p, by simpa using hp, rfl⟩⟩)))))
  have hl : ∀ i, i < (objs ws).length → ¬ (leakT ws (objs ws) i).1 := fun i hi => hC _ (by
    refine List.mem_append_right _ (List.mem_append_right _ (List.mem_append_right _ (List.mem_append_right _ (List.mem_map.2 ⟨i, by simpa using hi, rfl⟩)))))
  refine ⟨hh (nblk ws.length = 0, 2, 0) (by simp [headT]), ?_, ?_, ?_, ?_, ?_, fun r hr' => ?_, fun i hi p hp' => ?_, fun i hi => ?_⟩
  · have := hh (wd ws 0 ≠ 20261114, 3, 0) (by simp [headT]); simpa using this
  · have := hh (wd ws 1 ≠ nblk ws.length, 3, 1) (by simp [headT]); simpa using this
  · have := hh (wd ws 7 ≠ sumL (ws.take 7), 3, 7) (by simp [headT]); simpa using this
  · have := hh (wd ws 8 ≠ 0, 4, 8) (by simp [headT]); simpa using this
  · rcases hbd : bads ws with _ | ⟨q, t⟩
    · rfl
    · exact absurd trivial (hb (True, 5, q) (by simp [badT, hbd]))
  · have := hr r hr'
    unfold rootT at this
    by_cases h0 : wd ws (3 + r) = 0
    · exact .inl h0
    · exact .inr (fun hx => this ⟨h0, hx⟩)
  · have := hp i hi p hp'
    unfold ptrT at this
    by_cases h0 : wd ws (pl (objs ws)[i] p) = 0
    · exact .inl h0
    · exact .inr (fun hx => this ⟨h0, hx⟩)
  · have := hl i hi
    unfold leakT at this
    exact Classical.not_not.1 this
theorem check_of_sound {ws : List Int} (h : Sound ws) : CheckIs ws 0 0 := by
  refine check_ok (clear_app ?_ ?_) ?_ ?_ ?_
  · intro y hy
    simp only [headT, List.mem_cons, List.not_mem_nil, or_false] at hy
    rcases hy with rfl | rfl | rfl | rfl | rfl
    · exact h.n0
    · simpa using h.magic
    · simpa using h.n
    · simpa using h.sum
    · simpa using h.log
  · unfold badT; rw [h.bad]; exact clear_nil
  · intro y hy
    obtain ⟨r, hr, rfl⟩ := List.mem_map.1 hy
    rintro ⟨h0, hx⟩
    rcases h.root r (by simpa using hr) with h' | h'
    · exact h0 h'
    · exact h' hx
  · intro y hy
    obtain ⟨o, ho, hy⟩ := List.mem_flatMap.1 hy
    obtain ⟨p, hp, rfl⟩ := List.mem_map.1 hy
    obtain ⟨i, hi, rfl⟩ := List.getElem_of_mem ho
    rintro ⟨h0, hx⟩
    rcases h.ptr i hi p (by simpa using hp) with h' | h'
    · exact h0 h'
    · exact h' hx
  · intro y hy
    obtain ⟨i, hi, rfl⟩ := List.mem_map.1 hy
    exact fun hx => hx (h.reach i (by simpa using hi))
theorem set_same {ws : List Int} {q : Nat} (h : q < ws.length) : ws.set q (wd ws q) = ws := by
  apply wd_ext (by simp)
  intro x
  rw [wd_set h]
  split
  · subst_vars; rfl
  · rfl
theorem logged_same {ws : List Int} (h : wd ws 8 = 0) (hl : 8 < ws.length) : loggedS ws = ws := by
  unfold loggedS
  rw [asks_none h]
  simp only [if_true, doneS]
  rw [show (0 : Int) = wd ws 8 from h.symm]
  exact set_same hl
/-- A SOUND IMAGE IS NOT CHANGED -/
theorem repair_sound {ws : List Int} (h : CheckIs ws 0 0) : RepairIs ws ws 0 := by
  have s := sound_of_check h
  have hl := (nblk_some s.n0).1
  have hn := (nblk_some s.n0).2.1
  have hlg := logged_same s.log (by omega)
  refine .inr ⟨s.n0, .inr ⟨⟨by rw [hlg]; exact s.magic, by rw [hlg]; exact s.n⟩, rfl, ws, ws, ?_, ?_, ?_⟩⟩
  · rw [hlg, s.bad]
    exact zeroed_self ws (fun q h => by cases h)
  · refine ⟨rfl, fun q hq => ?_, fun _ _ => rfl⟩
    rcases hq with (⟨h1, h2, h3⟩ | ⟨j, hj, _, _, p, hp, rfl, h3⟩) | ⟨j, hj, _, hnr, _⟩
    · obtain ⟨r, rfl⟩ : ∃ r, q = 3 + r := ⟨q - 3, by omega⟩
      exact (s.root r (by omega)).resolve_right (fun hx => hx h3)
    · exact (s.ptr j hj p hp).resolve_right (fun hx => hx h3)
    · exact absurd (s.reach j hj) hnr
  · rw [← s.sum]
    exact (set_same (by omega)).symm
end Go.Proofs.YtbagcjlimdilpaaGreat
