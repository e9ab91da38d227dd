/- Texts that follow one another, joined. -/
import Derived.Test.YtbagcjlimdilpaaGreatHhLawW
import Derived.Laws.CopyOwn
/- Walks of lent and back: a list with eight places behind it is made, is read as it was, and is written over by its owner. -/
namespace Go.Proofs.YtbagcjlimdilpaaGreat
open Go.RowKit

theorem Tryz.info50 : (Tryz.prog.info? 50).map (fun i => (i.zero, i.size, i.bytes)) = some (some (.int .u64 0), 1, 8) := by kernel_rfl
theorem Tryz.size50 : (Tryz.prog.info? 50).map (·.size) = some 1 := by kernel_rfl

/-- block g is just the words zs -/
def Row (w : World) (g : Nat) (zs : List Int) : Prop := w.heap[g]? = some (.cells ((zs.map (Value.int .u64)).toArray) 50 (0, 0))

namespace Row
theorem own {w : World} {g base : Nat} {zs : List Int} (h : Row w g zs) (hb : base ≤ g) (hm : zs.length ≤ maxLen) : Own base w (.slice (some ⟨g, 0, none⟩) zs.length zs.length) zs :=
  ⟨by simp, .inr ⟨g, zs.length, _, rfl, hb, h, Nat.le_refl _, hm, by simp, List.take_of_length_le (by simp)⟩⟩
theorem ofOwn {w : World} {g base n : Nat} {xs : List Value} {zs : List Int} (h : w.ownsRow base 50 1 (.slice (some ⟨g, 0, none⟩) n n) n xs) (hx : xs = zs.map (Value.int .u64)) : Row w g zs := by
  rcases h.2 with ⟨h', _⟩ | ⟨g', cap', cur, h', _, hg, _, _, hcs, htk⟩
  · cases h'
  · simp only [Value.slice.injEq, Option.some.injEq, Addr.mk.injEq, and_true, true_and] at h'
    obtain ⟨rfl, rfl⟩ := h'
    unfold Row
    rw [hg, ← hx, ← htk, List.take_of_length_le (by rw [Array.length_toList, hcs]; exact Nat.le_refl _)]
theorem cell {w : World} {g : Nat} {zs : List Int} (h : Row w g zs) (k : Nat) (hk : k < zs.length) : w.cell? ⟨g, k, none⟩ = some (.int .u64 zs[k]) := by
  simp [World.cell?, show w.heap[g]? = _ from h, hk]
theorem free {w : World} {g : Nat} {zs : List Int} (h : Row w g zs) (k : Nat) : w.frozen? ⟨g, k, none⟩ = false := by
  simp [World.frozen?, show w.heap[g]? = _ from h]
theorem set {w : World} {g : Nat} {zs : List Int} (h : Row w g zs) (k : Nat) (y : Int) : Row (w.setCell ⟨g, k, none⟩ (.int .u64 y)) g (zs.set k y) := by
  have := heap_setCell_same w g k _ _ (.int .u64 y) h
  unfold Row
  rw [this]
  simp [List.map_set]
theorem rowU {w : World} {g : Nat} {zs : List Int} (h : Row w g zs) : RowU w (some ⟨g, 0, none⟩) zs := by
  intro i hi
  refine ⟨_, rfl, ?_⟩
  rw [Addr.add_lit, Nat.zero_add, h.cell i hi]
  simp [List.getD, hi]
theorem fr {T : Nat → Prop} {w w' : World} {g : Nat} {zs : List Int} (h : Row w g zs) (hf : Fr T w w') (hn : ¬ T g) : Row w' g zs := hf.heap h hn
theorem lt {w : World} {g : Nat} {zs : List Int} (h : Row w g zs) : g < w.heap.size := lt_of_block h
end Row

theorem made_zeros (n : Nat) : (madeCells (Value.int .u64 0).cells (n * 1)).toList = (List.replicate n (0 : Int)).map (Value.int .u64) := by
  rw [Nat.mul_one, List.map_replicate]; exact toList_madeCells_one _ n

theorem news_row {w : World} {a : Option Addr} {zs : List Int} (h : RowU w a zs) (hp : 0 < (zs.map (Value.int .u64)).length) :
    ∃ ad, a = some ad ∧ ∀ j v, (zs.map (Value.int .u64))[j]? = some v → w.cell? (ad.add j) = some v := by
  have hp' : 0 < zs.length := by simpa using hp
  obtain ⟨ad, rfl, _⟩ := h 0 hp'
  refine ⟨ad, rfl, fun j v hv => ?_⟩
  have hj : j < zs.length := by
    rcases Nat.lt_or_ge j zs.length with h | h
    · exact h
    · rw [List.getElem?_eq_none (by simpa using h)] at hv; cases hv
  obtain ⟨x, hx, hc⟩ := h j hj
  cases hx
  rw [hc]
  simp [hj] at hv
  rw [← hv]
  simp [List.getD, hj]
theorem ints_oneU (L : List Int) : ∀ u ∈ L.map (Value.int .u64), u.oneCell' = true := by
  intro u hu; simp only [List.mem_map] at hu; obtain ⟨x, _, rfl⟩ := hu; rfl

theorem spliced (zs : List Int) : splice ((List.replicate (zs.length + 8) (0 : Int)).map (Value.int .u64)) 0 (zs.map (Value.int .u64)) = (zs ++ List.replicate 8 0).map (Value.int .u64) := by
  unfold splice
  simp [Nat.add_sub_cancel_left]
theorem lent_step (zs : List Int) (k : Nat) (hk : k < 8) : (zs ++ (List.replicate k 770077 ++ List.replicate (8 - k) (0 : Int))).set (zs.length + k) 770077 = zs ++ (List.replicate (k + 1) 770077 ++ List.replicate (8 - (k + 1)) 0) := by
  rw [List.set_append_right _ _ (by omega), Nat.add_sub_cancel_left, List.set_append_right _ _ (by simp)]
  simp only [List.length_replicate, Nat.sub_self]
  rw [show 8 - k = (8 - (k + 1)) + 1 by omega, List.replicate_succ (n := 8 - (k + 1)), List.set_cons_zero, List.replicate_succ' (n := k)]
  simp

/-- a list with eight places behind it -/
def withEight (zs : List Int) : List Int := zs ++ List.replicate 8 770077

set_option maxRecDepth 100000 in
theorem lent_any (a : Option Addr) (cap : Nat) (zs : List Int) (w : World) (hm : zs.length ≤ 1048576) (hc : RowU w a zs) :
    Calls Tryz.prog 120 #[.slice a zs.length cap] w fun e w' => e = .returned (.slice (some ⟨w.heap.size, 0, none⟩) (zs.length + 8) (zs.length + 8)) ∧ Row w' w.heap.size (withEight zs) ∧ Fr New w w' := by
  obtain ⟨i0, hi, hz0, hz1, hz2⟩ := info_parts Tryz.info50
  have hmin : Hid ((zs.map (Value.int .u64)).length = Nat.min zs.length (zs.length + 8)) := by show _ = _; simp
  go_enter Tryz.func120, Tryz.ntmps120
  go_wp2_with (first
    | (at_make; refine wpList_make_full _ rfl (.tmp 7) (.tmp 7) 43 rfl w.heap.size 50 i0 (.int .u64 0) 1 Tryz.underlying43 hi hz0 hz1 .i64 .i64 _ _ (zs.length + 8) rfl rfl (by omega) (by omega) (by rw [hz2]; omega) (by unfold maxLen; omega) (Nat.le_refl _) ?_; intro w1 hown1 hg1; have hr1 := Row.ofOwn hown1 (made_zeros _); have hc1 := rowU_fr ((Fr.refl New w).grownNew hg1) hc (fun _ _ h => h); have hb1 := ((Fr.refl New w).grownNew hg1).below (Nat.le_refl _) (fun _ _ h => h); clear hown1 hg1)
    | (refine wpList_copy_splice rfl (.tmp 9) (.tmp 10) 43 43 rfl 50 Tryz.underlying43 Tryz.size50 (some ⟨w.heap.size, 0, none⟩) a (zs.length + 8) (zs.length + 8) zs.length cap (by rfl) (by rfl) w.heap.size 0 _ 50 hr1 (zs.map (Value.int .u64)) hmin.out (fun hp => ⟨rfl, news_row hc1 hp⟩) (by simp) (ints_oneU zs) w.heap.size w hb1 (Nat.le_refl _) ?_; intro w2 hr2 hb2)
    | fail)
  have hr3 : Row w2 w.heap.size (zs ++ List.replicate 8 0) := by unfold Row; rw [← spliced]; exact hr2.out
  clear hr2 hr1 hc1 hb1
  go_loopw [4] (fun i wr => ∃ k : Nat, k ≤ 8 ∧ i = .int .i64 ((zs.length + k : Nat) : Int) ∧ Row wr w.heap.size (zs ++ (List.replicate k 770077 ++ List.replicate (8 - k) 0)) ∧ Fr New w wr) (fun i _ => zs.length + 8 - (intOf i).toNat)
  case atStart => exact ⟨0, by omega, rfl, hr3, (Fr.ofBelow hb2).mono (fun j hj h => by omega)⟩
  case round =>
    obtain ⟨k, hk, rfl, hr, hf⟩ := hrel
    clear hr3 hb2
    by_cases hlt : k < 8
    · have hcl := hr.cell (zs.length + k) (by simp; omega)
      have hfz := hr.free (zs.length + k)
      have hset := hr.set (zs.length + k) 770077
      rw [lent_step zs k hlt] at hset
      have hf' := hf.setCell (p := ⟨w.heap.size, zs.length + k, none⟩) (fun h => absurd h (by simp)) (.int .u64 770077)
      have HR : Hid (Row _ _ _) := hset
      clear hset hr
      go_wp2
      go_roundw
      case rel => exact ⟨k + 1, by omega, by go_num, HR.out, hf'⟩
      case measure => simp [intOf]; omega
    · obtain rfl : k = 8 := by omega
      go_wp2
      go_ret
      exact ⟨rfl, by simpa [withEight] using hr, hf⟩
end Go.Proofs.YtbagcjlimdilpaaGreat
/- The walk of back: a lent list reads as it was, with what is behind it; then its owner writes over it. -/
namespace Go.Proofs.YtbagcjlimdilpaaGreat
open Go.RowKit

def over (zs : List Int) (k : Nat) : List Int := List.replicate k 550055 ++ (withEight zs).drop k
theorem withEight_len (zs : List Int) : (withEight zs).length = zs.length + 8 := by simp [withEight]
theorem over_len (zs : List Int) (k : Nat) (h : k ≤ zs.length + 8) : (over zs k).length = zs.length + 8 := by simp [over, withEight_len]; omega
theorem over_zero (zs : List Int) : over zs 0 = withEight zs := by simp [over]
theorem over_set (zs : List Int) (k : Nat) (h : k < zs.length + 8) : (over zs k).set k 550055 = over zs (k + 1) := by
  unfold over
  rw [List.set_append_right _ _ (by simp)]
  simp only [List.length_replicate, Nat.sub_self]
  rw [List.drop_eq_getElem_cons (by rw [withEight_len]; exact h), List.set_cons_zero, List.replicate_succ' (n := k)]
  simp
theorem over_get (zs : List Int) (k : Nat) (h : k < zs.length + 8) (h2 : zs.length ≤ k) (hb : k < (over zs k).length) : (over zs k)[k] = 770077 := by
  have e : (over zs k)[k]? = some 770077 := by
    unfold over withEight
    rw [List.getElem?_append_right (by simp), List.length_replicate, Nat.sub_self, List.getElem?_drop, Nat.add_zero, List.getElem?_append_right h2]
    exact List.getElem?_replicate_of_lt (by omega)
  rw [List.getElem?_eq_getElem hb] at e
  exact Option.some.inj e

set_option maxRecDepth 100000 in
theorem back_true (g : Nat) (a : Option Addr) (cap : Nat) (zs : List Int) (w : World) (hm : zs.length ≤ 1048576) (hr : Row w g (withEight zs)) (hc : RowU w a zs) :
    Calls Tryz.prog 122 #[.slice (some ⟨g, 0, none⟩) (zs.length + 8) (zs.length + 8), .slice a zs.length cap] w fun e w' => e = .returned (.bool true) ∧ Fr (fun k => k = g) w w' := by
  have hl : RowU w (some ⟨g, 0, none⟩) zs := by
    have := rowU_take hr.rowU zs.length
    rwa [show (withEight zs).take zs.length = zs by simp [withEight]] at this
  have HS : Hid (Calls Tryz.prog 87 #[.slice (some ⟨g, 0, none⟩) zs.length (zs.length + 8), .slice a zs.length cap] w fun e w' => e = .returned (.bool true) ∧ ∃ n, w' = w.drewN n) :=
    same_true _ _ _ _ zs w (by unfold maxLen; omega) hl hc
  clear hl hc
  go_enter Tryz.func122, Tryz.ntmps122
  go_wp2_with (go_at_call 87; refine HS.out.mono ?_; rintro e w1 ⟨rfl, n0, hw1⟩)
  subst hw1
  go_loopw [6, 7] (fun t i wr => ∃ k : Nat, k ≤ zs.length + 8 ∧ t = .bool true ∧ i = .int .i64 k ∧ Row wr g (over zs k) ∧ Fr (fun k => k = g) w wr) (fun _ i _ => zs.length + 8 - (intOf i).toNat)
  case atStart => exact ⟨0, by omega, rfl, rfl, by rw [over_zero]; exact hr, (Fr.refl _ _).drewN _⟩
  case round =>
    obtain ⟨k, hk, rfl, rfl, hrk, hf⟩ := hrel
    clear hr HS
    by_cases hlt : k < zs.length + 8
    · have hset := hrk.set k 550055
      rw [over_set zs k hlt] at hset
      have HR : Hid (Row _ _ _) := hset
      have hf' := hf.setCell (p := ⟨g, k, none⟩) (fun _ => rfl) (.int .u64 550055)
      have hfz := hrk.free k
      by_cases hn : k < zs.length
      · have hcl := hrk.cell k (by rw [over_len _ _ hk]; exact hlt)
        clear hset hrk
        go_wp2
        go_roundw
        case rel => exact ⟨k + 1, by omega, rfl, by go_num, HR.out, hf'⟩
        case measure => simp [intOf]; omega
      · have hcl := hrk.cell k (by rw [over_len _ _ hk]; exact hlt)
        rw [over_get zs k hlt (by omega)] at hcl
        clear hset hrk
        go_wp2
        go_roundw
        case rel => exact ⟨k + 1, by omega, rfl, by go_num, HR.out, hf'⟩
        case measure => simp [intOf]; omega
    · go_wp2
      go_ret
      exact ⟨rfl, hf⟩
end Go.Proofs.YtbagcjlimdilpaaGreat
/- Walks of Format and of the document's Format: both give the same image. -/
namespace Go.Proofs.YtbagcjlimdilpaaGreat
open Go.RowKit

def headL (n : Int) : List Int := [20261114, n, 0, 0, 0, 0, 0]
/-- the words of an image without objects -/
def imgL (n : Nat) : List Int := [20261114, (n : Int), 0, 0, 0, 0, 0, sumL (headL n)] ++ List.replicate (98 + 8 * n) 0
theorem imgL_len (n : Nat) : (imgL n).length = 106 + 8 * n := by simp [imgL]; omega

theorem seal_any (g : Nat) (zs : List Int) (w : World) (h8 : 8 ≤ zs.length) (hm : zs.length ≤ 1048576) (hr : Row w g zs) :
    Calls Tryz.prog 131 #[.slice (some ⟨g, 0, none⟩) zs.length zs.length] w fun e w' => e = .returned (.tuple #[]) ∧ w' = w.setCell ⟨g, 7, none⟩ (.int .u64 (sumL (zs.take 7))) := by
  have HS : Hid (Calls Tryz.prog 121 #[.slice (some ⟨g, 0, none⟩) 7 zs.length] w fun e w' => e = .returned (.int .u64 (sumL (zs.take 7))) ∧ w' = w) :=
    rsum_any _ 7 _ (zs.take 7) w (by simp; omega) (by decide) (rowU_take hr.rowU 7)
  have hfz := hr.free 7
  have hcl := hr.cell 7 (by omega)
  go_enter Tryz.func131, Tryz.ntmps131
  go_wp2_with (go_at_call 121; refine calls_same HS.out ?_)
  go_end0
  exact ⟨rfl, rfl⟩

theorem rfmt_no (n : Int) (w : World) (h : n < 1 ∨ 32 < n) :
    Calls Tryz.prog 119 #[.int .i64 n] w fun e w' => e = .returned (.tuple #[.slice none 0 0, .int .i64 1]) ∧ w' = w := by
  rcases h with h | h
  · go_enter Tryz.func119, Tryz.ntmps119
    go_wp2
    go_ret2
    exact ⟨rfl, rfl⟩
  · have h' : ¬ n < 1 := by omega
    go_enter Tryz.func119, Tryz.ntmps119
    go_wp2
    go_ret2
    exact ⟨rfl, rfl⟩

theorem imgL_made (n : Nat) : (((List.replicate (106 + 8 * n) (0 : Int)).set 0 20261114).set 1 (n : Int)).set 7 (sumL (headL n)) = imgL n := by
  rw [show 106 + 8 * n = (98 + 8 * n) + 1 + 1 + 1 + 1 + 1 + 1 + 1 + 1 by omega]
  simp only [List.replicate_succ, List.set_cons_zero, List.set_cons_succ, imgL]
  rfl
theorem imgL_take (n : Nat) : ((((List.replicate (106 + 8 * n) (0 : Int)).set 0 20261114).set 1 (n : Int))).take 7 = headL n := by
  rw [show 106 + 8 * n = (98 + 8 * n) + 1 + 1 + 1 + 1 + 1 + 1 + 1 + 1 by omega]
  simp only [List.replicate_succ, List.set_cons_zero, List.set_cons_succ, headL]
  rfl

theorem sealed_img {w : World} {g n : Nat} (h : Row w g (List.replicate (106 + 8 * n) 0)) :
    Row ((w.setCell ⟨g, 0, none⟩ (.int .u64 20261114)).setCell ⟨g, 1, none⟩ (.int .u64 n)) g (((List.replicate (106 + 8 * n) (0 : Int)).set 0 20261114).set 1 (n : Int)) := (h.set 0 20261114).set 1 n

theorem seal_img {w w1 : World} {n : Nat} (hn : n ≤ 32) (hf : Fr New w w1) (h : Row w1 w.heap.size (List.replicate (106 + 8 * n) 0)) :
    Calls Tryz.prog 131 #[.slice (some ⟨w.heap.size, 0, none⟩) (106 + 8 * n) (106 + 8 * n)] ((w1.setCell ⟨w.heap.size, 0, none⟩ (.int .u64 20261114)).setCell ⟨w.heap.size, 1, none⟩ (.int .u64 n)) fun e w' =>
      e = .returned (.tuple #[]) ∧ Row w' w.heap.size (imgL n) ∧ Fr New w w' := by
  have hr := sealed_img h
  have hlen : (((List.replicate (106 + 8 * n) (0 : Int)).set 0 20261114).set 1 (n : Int)).length = 106 + 8 * n := by simp
  have := seal_any w.heap.size _ _ (by rw [hlen]; omega) (by rw [hlen]; omega) hr
  rw [hlen] at this
  refine this.mono ?_
  rintro e w' ⟨rfl, rfl⟩
  refine ⟨rfl, ?_, ((hf.setCell (fun h => absurd h (by simp)) _).setCell (fun h => absurd h (by simp)) _).setCell (fun h => absurd h (by simp)) _⟩
  rw [← imgL_made, imgL_take]
  exact hr.set 7 _

set_option maxRecDepth 100000 in
theorem rfmt_yes (n : Nat) (w : World) (h1 : 1 ≤ n) (h2 : n ≤ 32) :
    Calls Tryz.prog 119 #[.int .i64 n] w fun e w' => e = .returned (.tuple #[.slice (some ⟨w.heap.size, 0, none⟩) (106 + 8 * n) (106 + 8 * n), .int .i64 0]) ∧ Row w' w.heap.size (imgL n) ∧ Fr New w w' := by
  obtain ⟨i0, hi, hz0, hz1, hz2⟩ := info_parts Tryz.info50
  have hw1 : IntKind.u64.wrap (n : Int) = n := by rw [IntKind.wrap_u64]; omega
  go_enter Tryz.func119, Tryz.ntmps119
  go_wp2_with (first
    | (at_make; refine wpList_make_full _ rfl (.tmp 13) (.tmp 13) 43 rfl w.heap.size 50 i0 (.int .u64 0) 1 Tryz.underlying43 hi hz0 hz1 .i64 .i64 _ _ (106 + 8 * n) rfl rfl (by omega) (by omega) (by rw [hz2]; omega) (by unfold maxLen; omega) (Nat.le_refl _) ?_; intro w1 hown1 hg1; have hr1 := Row.ofOwn hown1 (made_zeros _); have hf1 := (Fr.refl New w).grownNew hg1; clear hown1 hg1; have hc0 := hr1.cell 0 (by simp; omega); have hz0 := hr1.free 0; have hc1 := hr1.cell 1 (by simp; omega); have hz1 := hr1.free 1)
    | (go_at_call 131; refine (seal_img h2 hf1 hr1).mono ?_; rintro e w2 ⟨rfl, hr2, hf2⟩)
    | fail)
  go_ret2
  exact ⟨rfl, hr2, hf2⟩

theorem head_cells (w : World) (b : Nat) (zs : List Int) (t : TypeId) (h : w.heap[b]? = some (.cells ((zs.map (Value.int .u64)).toArray) t (0, 0))) : RowU w (some ⟨b, 0, none⟩) zs := by
  intro i hi
  refine ⟨_, rfl, ?_⟩
  rw [Addr.add_lit, Nat.zero_add]
  simp [World.cell?, h, hi, List.getD]

theorem head_row (w : World) (o : Obj) (zs : List Int) (t : TypeId) (n : Nat) : RowU ((w.alloc (.cells ((zs.map (Value.int .u64)).toArray) t)).alloc o) (some ⟨w.heap.size, 0, none⟩) (zs.take n) :=
  rowU_take (head_cells _ _ zs t ((Go.Deep.blk_alloc_lt _ o _ (by simp)).trans (Go.Deep.blk_alloc_new w _))) n

set_option maxRecDepth 100000 in
theorem sealed_any (x0 x1 x2 x3 x4 x5 x6 x7 : Int) (w : World) :
    Calls Tryz.prog 112 #[.agg #[.int .u64 x0, .int .u64 x1, .int .u64 x2, .int .u64 x3, .int .u64 x4, .int .u64 x5, .int .u64 x6, .int .u64 x7]] w fun e w' =>
      e = .returned (.agg #[.int .u64 x0, .int .u64 x1, .int .u64 x2, .int .u64 x3, .int .u64 x4, .int .u64 x5, .int .u64 x6, .int .u64 (sumL [x0, x1, x2, x3, x4, x5, x6])]) ∧ Fr New w w' := by
  have HS := fun o => lsum_any (some ⟨w.heap.size, 0, none⟩) 7 8 [x0, x1, x2, x3, x4, x5, x6] ((w.alloc (.cells #[.int .u64 x0, .int .u64 x1, .int .u64 x2, .int .u64 x3, .int .u64 x4, .int .u64 x5, .int .u64 x6, .int .u64 x7] 126)).alloc o) rfl (by decide)
    (head_row w o [x0, x1, x2, x3, x4, x5, x6, x7] 126 7)
  go_enter Tryz.func112, Tryz.ntmps112
  go_wp2_with (go_at_call 63; refine calls_same (HS _) ?_)
  refine bodyPost_ret (v := .agg #[.int .u64 x0, .int .u64 x1, .int .u64 x2, .int .u64 x3, .int .u64 x4, .int .u64 x5, .int .u64 x6, .int .u64 (sumL [x0, x1, x2, x3, x4, x5, x6])]) (by simp [results, Tryz.results112, go_sem]) rfl ⟨rfl, ?_⟩
  exact ((Fr.refl _ _).alloc _).alloc _

/-- the head of an image without roots and commits, as a value -/
abbrev headV (n : Int) : Value := .agg #[.int .u64 20261114, .int .u64 n, .int .u64 0, .int .u64 0, .int .u64 0, .int .u64 0, .int .u64 0, .int .u64 (sumL (headL n))]

theorem block_cells {w : World} {b : Nat} {cs : Array Value} {t : TypeId} (h : w.heap[b]? = some (.cells cs t (0, 0))) : (∀ i, w.cell? ⟨b, i, none⟩ = cs[i]?) ∧ (∀ i, w.frozen? ⟨b, i, none⟩ = false) :=
  ⟨fun i => by simp [World.cell?, h], fun i => by simp [World.frozen?, h]⟩

theorem new_at2 (w : World) (o o' : Obj) : ((w.alloc o).alloc o').heap[w.heap.size + 1]? = some o' := by
  have := Go.Deep.blk_alloc_new (w.alloc o) o'
  simpa using this

set_option maxRecDepth 100000 in
theorem fitted_any (x0 x1 x2 x3 x4 x5 x6 x7 : Int) (n : Nat) (w : World) (h2 : n ≤ 32) :
    Calls Tryz.prog 114 #[.agg #[.int .u64 x0, .int .u64 x1, .int .u64 x2, .int .u64 x3, .int .u64 x4, .int .u64 x5, .int .u64 x6, .int .u64 x7], .int .i64 n] w fun e w' =>
      e = .returned (.agg #[.int .u64 20261114, .int .u64 n, .int .u64 x2, .int .u64 x3, .int .u64 x4, .int .u64 x5, .int .u64 x6, .int .u64 (sumL [20261114, n, x2, x3, x4, x5, x6])]) ∧ Fr New w w' := by
  have hw1 : IntKind.u64.wrap (n : Int) = n := by rw [IntKind.wrap_u64]; omega
  go_enter Tryz.func114, Tryz.ntmps114
  go_wp2_with (go_at_call 112; refine (sealed_any _ _ _ _ _ _ _ _ _).mono ?_; rintro e w1 ⟨rfl, hf1⟩; obtain ⟨hcc, hzz⟩ := block_cells (hf1.heap (k := w.heap.size + 1) (new_at2 w _ _) id))
  refine bodyPost_ret (v := .agg #[.int .u64 20261114, .int .u64 n, .int .u64 x2, .int .u64 x3, .int .u64 x4, .int .u64 x5, .int .u64 x6, .int .u64 (sumL [20261114, n, x2, x3, x4, x5, x6])]) (by simp [results, Tryz.results114, go_sem, hcc]) rfl ⟨rfl, ?_⟩
  have hf : Fr New w w1 := (((Fr.refl _ _).alloc _).alloc _).same hf1
  iterate 8 refine Fr.setCell ?_ (fun h => absurd h (by simp)) _
  exact hf

set_option maxRecDepth 100000 in
theorem newHead_any (n : Nat) (w : World) (h2 : n ≤ 32) :
    Calls Tryz.prog 66 #[.int .i64 n] w fun e w' => e = .returned (headV n) ∧ Fr New w w' := by
  go_enter Tryz.func66, Tryz.ntmps66
  go_wp2_with (go_at_call 114; refine (fitted_any _ _ _ _ _ _ _ _ n _ h2).mono ?_; rintro e w1 ⟨rfl, hf1⟩; obtain ⟨hcc, hzz⟩ := block_cells (hf1.heap (k := w.heap.size) (Go.Deep.blk_alloc_new w _) id))
  refine bodyPost_ret (v := headV n) (by simp [results, Tryz.results66, go_sem, hcc, headV, headL]) rfl ⟨rfl, ?_⟩
  have hf : Fr New w w1 := ((Fr.refl _ _).alloc _).same hf1
  iterate 8 refine Fr.setCell ?_ (fun h => absurd h (by simp)) _
  exact hf

theorem fits_true (n : Int) (w : World) (h1 : 1 ≤ n) (h2 : n ≤ 32) : Calls Tryz.prog 64 #[.int .i64 n] w fun e w' => e = .returned (.bool true) ∧ w' = w := by
  have hd : decide (n ≤ 32) = true := by simpa using h2
  go_enter Tryz.func64, Tryz.ntmps64
  go_wp2
  go_ret
  exact ⟨rfl, rfl⟩
theorem fits_false (n : Int) (w : World) (h : n < 1 ∨ 32 < n) : Calls Tryz.prog 64 #[.int .i64 n] w fun e w' => e = .returned (.bool false) ∧ w' = w := by
  by_cases h1 : 1 ≤ n
  · have hd : decide (n ≤ 32) = false := by simp; omega
    go_enter Tryz.func64, Tryz.ntmps64
    go_wp2
    go_ret
    exact ⟨rfl, rfl⟩
  · have hd : decide (1 ≤ n) = false := by simpa using h1
    go_enter Tryz.func64, Tryz.ntmps64
    go_wp2
    go_ret
    exact ⟨rfl, rfl⟩
theorem length_any (n : Nat) (w : World) (h2 : n ≤ 32) : Calls Tryz.prog 65 #[.int .i64 n] w fun e w' => e = .returned (.int .i64 (106 + 8 * (n : Int))) ∧ w' = w := by
  go_enter Tryz.func65, Tryz.ntmps65
  go_wp2
  go_ret
  exact ⟨rfl, rfl⟩
theorem fmt_no (n : Int) (w : World) (h : n < 1 ∨ 32 < n) :
    Calls Tryz.prog 37 #[.int .i64 n] w fun e w' => e = .returned (.tuple #[.slice none 0 0, .int .i64 1]) ∧ w' = w := by
  go_enter Tryz.func37, Tryz.ntmps37
  go_wp2_with (go_at_call 64; refine calls_same (fits_false n w h) ?_)
  go_ret2
  exact ⟨rfl, rfl⟩

/-- the head's words -/
def headW (n : Int) : List Int := [20261114, n, 0, 0, 0, 0, 0, sumL (headL n)]
theorem spliced_img (n : Nat) : splice ((List.replicate (106 + 8 * n) (0 : Int)).map (Value.int .u64)) 0 ((headW n).map (Value.int .u64)) = (imgL n).map (Value.int .u64) := by
  unfold splice imgL
  simp [headW, List.drop_replicate]
  omega
theorem head_news (w : World) (n : Int) (hp : 0 < ((headW n).map (Value.int .u64)).length) :
    ∃ ad, some (⟨w.heap.size, 0, none⟩ : Addr) = some ad ∧ ∀ j v, ((headW n).map (Value.int .u64))[j]? = some v → (w.alloc (.cells #[.int .u64 20261114, .int .u64 n, .int .u64 0, .int .u64 0, .int .u64 0, .int .u64 0, .int .u64 0, .int .u64 (sumL (headL n))] 126)).cell? (ad.add j) = some v :=
  news_row (head_cells _ _ (headW n) 126 (Go.Deep.blk_alloc_new w _)) hp

set_option maxRecDepth 100000 in
theorem fmt_yes (n : Nat) (w : World) (h1 : 1 ≤ n) (h2 : n ≤ 32) :
    Calls Tryz.prog 37 #[.int .i64 n] w fun e w' => e = .returned (.tuple #[.slice (some ⟨w.heap.size, 0, none⟩) (106 + 8 * n) (106 + 8 * n), .int .i64 0]) ∧ Row w' w.heap.size (imgL n) ∧ Fr New w w' := by
  obtain ⟨i0, hi, hz0, hz1, hz2⟩ := info_parts Tryz.info50
  have hmin : Hid (((headW n).map (Value.int .u64)).length = Nat.min 8 (106 + 8 * n)) := by show _ = _; exact (Nat.min_eq_left (show 8 ≤ 106 + 8 * n by omega)).symm
  go_enter Tryz.func37, Tryz.ntmps37
  go_wp2_with (first
    | (at_make; refine wpList_make_full _ rfl (.tmp 10) (.tmp 10) 43 rfl w.heap.size 50 i0 (.int .u64 0) 1 Tryz.underlying43 hi hz0 hz1 .i64 .i64 _ _ (106 + 8 * n) rfl rfl (by omega) (by omega) (by rw [hz2]; omega) (by unfold maxLen; omega) (Nat.le_refl _) ?_; intro w1 hown1 hg1; have hr1 := Row.ofOwn hown1 (made_zeros _); have hf1 := (Fr.refl New w).grownNew hg1; clear hown1 hg1)
    | (go_at_call 64; refine calls_same (fits_true n w (by omega) (by omega)) ?_)
    | (go_at_call 65; refine calls_same (length_any n w h2) ?_)
    | (go_at_call 66; refine (newHead_any n w1 h2).mono ?_; rintro e w2 ⟨rfl, hf2⟩; have hr2 := hr1.fr hf2 id; have hf3 := hf1.same hf2; clear hf2 hr1)
    | (refine wpList_copy_splice rfl (.tmp 14) (.tmp 15) 43 43 rfl 50 Tryz.underlying43 Tryz.size50 (some ⟨w.heap.size, 0, none⟩) (some ⟨w2.heap.size, 0, none⟩) (106 + 8 * n) (106 + 8 * n) 8 8 (by rfl) (by rfl) w.heap.size 0 _ 50 (hr2.fr ((Fr.refl New w2).alloc _) id) ((headW n).map (Value.int .u64)) hmin.out (fun hp => ⟨rfl, head_news w2 n hp⟩) (by simp [headW]; omega) (ints_oneU _) w.heap.size w ((hf3.alloc _).below (Nat.le_refl _) (fun _ _ h => h)) (Nat.le_refl _) ?_; intro w4 hr4 hb4)
    | fail)
  go_ret2
  exact ⟨rfl, by unfold Row; rw [← spliced_img]; exact hr4.out, (Fr.ofBelow hb4).mono (fun j hj h => by omega)⟩
end Go.Proofs.YtbagcjlimdilpaaGreat
