/- The walk of the program's Repair: it meets the document's mathematics. -/
import Derived.Test.YtekdicppkeldoaaGreatPgL
namespace Go.Proofs.YtekdicppkeldoaaGreat
open Go.RowKit

theorem splice_all {xs ys : List Value} (h : xs.length = ys.length) : splice xs 0 ys = ys := by
  unfold splice
  simp [h]
theorem mem2_row {w w4 : World} {ws : List Int} (hb : Row w4 w.heap.size ws) (hf : Fr New w w4) (hm : ws.length ≤ 1048576) : Mem2 w w.heap.size ws.length ws.length ws w4 :=
  ⟨⟨by simp, .inr ⟨w.heap.size, ws.length, _, rfl, Nat.le_refl _, hb, Nat.le_refl _, by unfold maxLen; omega, by simp, by simp [List.take_of_length_le]⟩⟩, rfl, hf⟩
theorem Mem2.row {w : World} {g L : Nat} {cur : List Int} {wr : World} (h : Mem2 w g L L cur wr) : Row wr g cur := Row.ofOwn h.own rfl

set_option maxHeartbeats 1000000 in
set_option maxRecDepth 100000 in
theorem prepair_any (a : Option Addr) (cap : Nat) (ws : List Int) (w : World) (hm : ws.length ≤ 1048576) (hU : ∀ z ∈ ws, U z) (hr : RowU w a ws) :
    Calls Tryz.prog 47 #[.slice a ws.length cap] w fun e w' => ∃ v r c, e = .returned (.tuple #[v, .int .i64 c]) ∧ RepairIs ws r c ∧ ((c ≠ 0 ∧ v = .slice none 0 0 ∧ r = []) ∨ (c = 0 ∧ v = .slice (some ⟨w.heap.size, 0, none⟩) ws.length ws.length ∧ Row w' w.heap.size r ∧ r.length = ws.length)) ∧ Fr New w w' := by
  by_cases hn : nblk ws.length = 0
  · have HT : Hid (RepairIs ws [] 2) := .inl ⟨hn, rfl, rfl⟩
    have HS : Hid (Calls Tryz.prog 66 #[.int .i64 ws.length] w fun e w' => e = .returned (.bool false) ∧ w' = w) := shaped_no _ w hm hn
    clear hn hr
    go_enter Tryz.func47, Tryz.ntmps47
    go_wp2_with (go_at_call 66; refine calls_same HS.out ?_)
    go_ret2
    exact ⟨_, [], 2, rfl, HT.out, .inl ⟨by decide, rfl, rfl⟩, Fr.refl _ _⟩
  · have HS : Hid (Calls Tryz.prog 66 #[.int .i64 ws.length] w fun e w' => e = .returned (.bool true) ∧ w' = w) := shaped_yes _ w hn
    obtain ⟨i0, hi, hz0, hz1, hz2⟩ := info_parts Tryz.info36
    have hp : 0 < ws.length := by have := (nblk_some hn).1; omega
    have HMM : Hid (ws.length ≤ 1048576) := hm
    have HRP : Hid (∀ W, Mem2 w w.heap.size ws.length ws.length ws W → Calls Tryz.prog 69 #[rowV (some ⟨w.heap.size, 0, none⟩) ws.length ws.length] W fun e w' => ∃ (cd : Int) (r r' : List Int), e = .returned (.int .i64 cd) ∧ RepairIs ws r cd ∧ Mem2 w w.heap.size ws.length ws.length r' w' ∧ (cd = 0 → r' = r) ∧ (cd ≠ 0 → r = [])) := fun W hM => soundRepair_any W hM hU hn
    obtain ⟨sb, so, rfl, hsb, hcw⟩ := rowU_plain hr hp
    have HRU : Hid (∀ W, Fr New w W → RowU W (some ⟨sb, so, none⟩) ws) := fun W hf => rowU_fr hf hr (fun _ _ h => h)
    have hmin : Hid ((ws.map (Value.int .u64)).length = Nat.min ws.length ws.length) := by show _ = _; simp
    obtain ⟨L, hL⟩ : ∃ L, L = ws.length := ⟨_, rfl⟩
    have HL : Hid (L = ws.length) := hL
    rw [← hL] at HS HRP hmin hm hp ⊢
    clear hn hr hcw hL hU
    go_enter Tryz.func47, Tryz.ntmps47
    go_wp2_with (first
      | (go_at_call 66; refine calls_same HS.out ?_)
      | (at_make; refine wpList_make_full _ rfl (.tmp 11) (.tmp 11) 37 rfl w.heap.size 36 i0 (.int .u64 0) 1 Tryz.underlying37 hi hz0 hz1 .i64 .i64 _ _ L rfl rfl (by omega) (by omega) (by rw [hz2]; omega) (by unfold maxLen; omega) (Nat.le_refl _) ?_; intro w1 hown1 hg1; have hr1 := Row.ofOwn hown1 (made_zeros _); have hf1 := (Fr.refl New w).grownNew hg1; clear hown1 hg1)
      | (refine wpList_copy_splice rfl (.tmp 13) (.tmp 14) 37 37 rfl 36 Tryz.underlying37 Tryz.size36 (some ⟨w.heap.size, 0, none⟩) (some ⟨sb, so, none⟩) L L L cap (by rfl) (by rfl) w.heap.size 0 _ 36 hr1 (ws.map (Value.int .u64)) hmin.out (fun hp => ⟨rfl, news_row (HRU.out w1 hf1) hp⟩) (by simp [← HL.out]) (ints_oneU _) w.heap.size w (hf1.below (Nat.le_refl _) (fun _ _ h => h)) (Nat.le_refl _) ?_; intro w4 hr4 hb4; have hM4 : Mem2 w w.heap.size L L ws w4 := (by have hr4' := hr4.out; rw [splice_all (by simp [← HL.out])] at hr4'; rw [HL.out]; exact mem2_row hr4' ((Fr.ofBelow hb4).mono (fun j hj h => by omega)) HMM.out))
      | (go_at_call 69; refine (HRP.out w4 hM4).mono ?_; rintro e w5 ⟨cd, r, r', rfl, hri, hm5, hc0, hc1⟩)
      | fail)
    · rename_i h
      go_ret2
      exact ⟨_, r, cd, rfl, hri, .inl ⟨by simpa using h, rfl, hc1 (by simpa using h)⟩, hm5.fr⟩
    · rename_i h
      have e0 : cd = 0 := by simpa using h
      obtain rfl := hc0 e0
      subst e0
      go_ret2
      exact ⟨_, _, 0, rfl, hri, .inr ⟨rfl, rfl, hm5.row, hm5.len⟩, hm5.fr⟩
end Go.Proofs.YtekdicppkeldoaaGreat
