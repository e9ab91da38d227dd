/- Walks of lent and back: a list with eight places behind it is made, is read as it was, and is written over by its owner. -/
import Derived.Test.YtbagcjlimdilpaaGreatSuLawW
import Derived.Laws.CopyOwn
namespace Go.Proofs.YtbagcjlimdilpaaGreat
open Go.RowKit

theorem Tryz.info50 : (Tryz.prog.info? 50).map (fun i => (i.zero, i.size, i.bytes)) = some (some (.int .u64 0), 1, 8) := by kernel_rfl
theorem Tryz.size50 : (Tryz.prog.info? 50).map (·.size) = some 1 := by kernel_rfl

/-- block g is just the words zs -/
def Row (w : World) (g : Nat) (zs : List Int) : Prop := w.heap[g]? = some (.cells ((zs.map (Value.int .u64)).toArray) 50 (0, 0))

namespace Row
theorem own {w : World} {g base : Nat} {zs : List Int} (h : Row w g zs) (hb : base ≤ g) (hm : zs.length ≤ maxLen) : Own base w (.slice (some ⟨g, 0, none⟩) zs.length zs.length) zs :=
  ⟨by simp, .inr ⟨g, zs.length, _, rfl, hb, h, Nat.le_refl _, hm, by simp, List.take_of_length_le (by simp)⟩⟩
theorem ofOwn {w : World} {g base n : Nat} {xs : List Value} {zs : List Int} (h : w.ownsRow base 50 1 (.slice (some ⟨g, 0, none⟩) n n) n xs) (hx : xs = zs.map (Value.int .u64)) : Row w g zs := by
  rcases h.2 with ⟨h', _⟩ | ⟨g', cap', cur, h', _, hg, _, _, hcs, htk⟩
  · cases h'
  · simp only [Value.slice.injEq, Option.some.injEq, Addr.mk.injEq, and_true, true_and] at h'
    obtain ⟨rfl, rfl⟩ := h'
    unfold Row
    rw [hg, ← hx, ← htk, List.take_of_length_le (by rw [Array.length_toList, hcs]; exact Nat.le_refl _)]
theorem cell {w : World} {g : Nat} {zs : List Int} (h : Row w g zs) (k : Nat) (hk : k < zs.length) : w.cell? ⟨g, k, none⟩ = some (.int .u64 zs[k]) := by
  simp [World.cell?, show w.heap[g]? = _ from h, hk]
theorem free {w : World} {g : Nat} {zs : List Int} (h : Row w g zs) (k : Nat) : w.frozen? ⟨g, k, none⟩ = false := by
  simp [World.frozen?, show w.heap[g]? = _ from h]
theorem set {w : World} {g : Nat} {zs : List Int} (h : Row w g zs) (k : Nat) (y : Int) : Row (w.setCell ⟨g, k, none⟩ (.int .u64 y)) g (zs.set k y) := by
  have := heap_setCell_same w g k _ _ (.int .u64 y) h
  unfold Row
  rw [this]
  simp [List.map_set]
theorem rowU {w : World} {g : Nat} {zs : List Int} (h : Row w g zs) : RowU w (some ⟨g, 0, none⟩) zs := by
  intro i hi
  refine ⟨_, rfl, ?_⟩
  rw [Addr.add_lit, Nat.zero_add, h.cell i hi]
  simp [List.getD, hi]
theorem fr {T : Nat → Prop} {w w' : World} {g : Nat} {zs : List Int} (h : Row w g zs) (hf : Fr T w w') (hn : ¬ T g) : Row w' g zs := hf.heap h hn
theorem lt {w : World} {g : Nat} {zs : List Int} (h : Row w g zs) : g < w.heap.size := lt_of_block h
end Row

theorem made_zeros (n : Nat) : (madeCells (Value.int .u64 0).cells (n * 1)).toList = (List.replicate n (0 : Int)).map (Value.int .u64) := by
  rw [Nat.mul_one, List.map_replicate]; exact toList_madeCells_one _ n

theorem news_row {w : World} {a : Option Addr} {zs : List Int} (h : RowU w a zs) (hp : 0 < (zs.map (Value.int .u64)).length) :
    ∃ ad, a = some ad ∧ ∀ j v, (zs.map (Value.int .u64))[j]? = some v → w.cell? (ad.add j) = some v := by
  have hp' : 0 < zs.length := by simpa using hp
  obtain ⟨ad, rfl, _⟩ := h 0 hp'
  refine ⟨ad, rfl, fun j v hv => ?_⟩
  have hj : j < zs.length := by
    rcases Nat.lt_or_ge j zs.length with h | h
    · exact h
    · rw [List.getElem?_eq_none (by simpa using h)] at hv; cases hv
  obtain ⟨x, hx, hc⟩ := h j hj
  cases hx
  rw [hc]
  simp [hj] at hv
  rw [← hv]
  simp [List.getD, hj]
theorem ints_oneU (L : List Int) : ∀ u ∈ L.map (Value.int .u64), u.oneCell' = true := by
  intro u hu; simp only [List.mem_map] at hu; obtain ⟨x, _, rfl⟩ := hu; rfl

theorem spliced (zs : List Int) : splice ((List.replicate (zs.length + 8) (0 : Int)).map (Value.int .u64)) 0 (zs.map (Value.int .u64)) = (zs ++ List.replicate 8 0).map (Value.int .u64) := by
  unfold splice
  simp [Nat.add_sub_cancel_left]
theorem lent_step (zs : List Int) (k : Nat) (hk : k < 8) : (zs ++ (List.replicate k 770077 ++ List.replicate (8 - k) (0 : Int))).set (zs.length + k) 770077 = zs ++ (List.replicate (k + 1) 770077 ++ List.replicate (8 - (k + 1)) 0) := by
  rw [List.set_append_right _ _ (by omega), Nat.add_sub_cancel_left, List.set_append_right _ _ (by simp)]
  simp only [List.length_replicate, Nat.sub_self]
  rw [show 8 - k = (8 - (k + 1)) + 1 by omega, List.replicate_succ (n := 8 - (k + 1)), List.set_cons_zero, List.replicate_succ' (n := k)]
  simp

/-- a list with eight places behind it -/
def withEight (zs : List Int) : List Int := zs ++ List.replicate 8 770077

set_option maxRecDepth 100000 in
theorem lent_any (a : Option Addr) (cap : Nat) (zs : List Int) (w : World) (hm : zs.length ≤ 1048576) (hc : RowU w a zs) :
    Calls Tryz.prog 120 #[.slice a zs.length cap] w fun e w' => e = .returned (.slice (some ⟨w.heap.size, 0, none⟩) (zs.length + 8) (zs.length + 8)) ∧ Row w' w.heap.size (withEight zs) ∧ Fr New w w' := by
  obtain ⟨i0, hi, hz0, hz1, hz2⟩ := info_parts Tryz.info50
  have hmin : Hid ((zs.map (Value.int .u64)).length = Nat.min zs.length (zs.length + 8)) := by show _ = _; simp
  go_enter Tryz.func120, Tryz.ntmps120
  go_wp2_with (first
    | (at_make; refine wpList_make_full _ rfl (.tmp 7) (.tmp 7) 43 rfl w.heap.size 50 i0 (.int .u64 0) 1 Tryz.underlying43 hi hz0 hz1 .i64 .i64 _ _ (zs.length + 8) rfl rfl (by omega) (by omega) (by rw [hz2]; omega) (by unfold maxLen; omega) (Nat.le_refl _) ?_; intro w1 hown1 hg1; have hr1 := Row.ofOwn hown1 (made_zeros _); have hc1 := rowU_fr ((Fr.refl New w).grownNew hg1) hc (fun _ _ h => h); have hb1 := ((Fr.refl New w).grownNew hg1).below (Nat.le_refl _) (fun _ _ h => h); clear hown1 hg1)
    | (refine wpList_copy_splice rfl (.tmp 9) (.tmp 10) 43 43 rfl 50 Tryz.underlying43 Tryz.size50 (some ⟨w.heap.size, 0, none⟩) a (zs.length + 8) (zs.length + 8) zs.length cap (by rfl) (by rfl) w.heap.size 0 _ 50 hr1 (zs.map (Value.int .u64)) hmin.out (fun hp => ⟨rfl, news_row hc1 hp⟩) (by simp) (ints_oneU zs) w.heap.size w hb1 (Nat.le_refl _) ?_; intro w2 hr2 hb2)
    | fail)
  have hr3 : Row w2 w.heap.size (zs ++ List.replicate 8 0) := by unfold Row; rw [← spliced]; exact hr2.out
  clear hr2 hr1 hc1 hb1
  go_loopw [4] (fun i wr => ∃ k : Nat, k ≤ 8 ∧ i = .int .i64 ((zs.length + k : Nat) : Int) ∧ Row wr w.heap.size (zs ++ (List.replicate k 770077 ++ List.replicate (8 - k) 0)) ∧ Fr New w wr) (fun i _ => zs.length + 8 - (intOf i).toNat)
  case atStart => exact ⟨0, by omega, rfl, hr3, (Fr.ofBelow hb2).mono (fun j hj h => by omega)⟩
  case round =>
    obtain ⟨k, hk, rfl, hr, hf⟩ := hrel
    clear hr3 hb2
    by_cases hlt : k < 8
    · have hcl := hr.cell (zs.length + k) (by simp; omega)
      have hfz := hr.free (zs.length + k)
      have hset := hr.set (zs.length + k) 770077
      rw [lent_step zs k hlt] at hset
      have hf' := hf.setCell (p := ⟨w.heap.size, zs.length + k, none⟩) (fun h => absurd h (by simp)) (.int .u64 770077)
      have HR : Hid (Row _ _ _) := hset
      clear hset hr
      go_wp2
      go_roundw
      case rel => exact ⟨k + 1, by omega, by go_num, HR.out, hf'⟩
      case measure => simp [intOf]; omega
    · obtain rfl : k = 8 := by omega
      go_wp2
      go_ret
      exact ⟨rfl, by simpa [withEight] using hr, hf⟩
end Go.Proofs.YtbagcjlimdilpaaGreat
