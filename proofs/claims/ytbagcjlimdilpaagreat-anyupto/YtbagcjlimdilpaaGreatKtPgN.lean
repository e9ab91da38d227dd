/- The walk of the program's Repair: it meets the document's mathematics. -/
import Derived.Test.YtbagcjlimdilpaaGreatKtPgL
import Derived.Test.YtbagcjlimdilpaaGreatKtJ4
namespace Go.Proofs.YtbagcjlimdilpaaGreat
open Go.RowKit

theorem mem2_row {w w4 : World} {ws : List Int} (hb : Row w4 w.heap.size ws) (hf : Fr New w w4) (hm : ws.length ≤ 1048576) : Mem2 w w.heap.size ws.length ws.length ws w4 :=
  ⟨⟨by simp, .inr ⟨w.heap.size, ws.length, _, rfl, Nat.le_refl _, hb, Nat.le_refl _, by unfold maxLen; omega, by simp, by simp [List.take_of_length_le]⟩⟩, rfl, hf⟩
theorem Mem2.row {w : World} {g L : Nat} {cur : List Int} {wr : World} (h : Mem2 w g L L cur wr) : Row wr g cur := Row.ofOwn h.own rfl

set_option maxHeartbeats 1000000 in
set_option maxRecDepth 100000 in
theorem prepair_any (a : Option Addr) (cap : Nat) (ws : List Int) (w : World) (hm : ws.length ≤ 1048576) (hU : ∀ z ∈ ws, U z) (hr : RowU w a ws) :
    Calls Tryz.prog 32 #[.slice a ws.length cap] w fun e w' => ∃ v r c, e = .returned (.tuple #[v, .int .i64 c]) ∧ RepairIs ws r c ∧ ((c ≠ 0 ∧ v = .slice none 0 0 ∧ r = []) ∨ (c = 0 ∧ v = .slice (some ⟨w.heap.size, 0, none⟩) ws.length ws.length ∧ Row w' w.heap.size r ∧ r.length = ws.length)) ∧ Fr New w w' := by
  by_cases hn : nblk ws.length = 0
  · have HT : Hid (RepairIs ws [] 2) := .inl ⟨hn, rfl, rfl⟩
    have HS : Hid (Calls Tryz.prog 46 #[.int .i64 ws.length] w fun e w' => e = .returned (.bool false) ∧ w' = w) := shaped_no _ w hm hn
    clear hn hr
    go_enter Tryz.func32, Tryz.ntmps32
    go_wp2_with (go_at_call 46; refine calls_same HS.out ?_)
    go_ret2
    exact ⟨_, [], 2, rfl, HT.out, .inl ⟨by decide, rfl, rfl⟩, Fr.refl _ _⟩
  · have HS : Hid (Calls Tryz.prog 46 #[.int .i64 ws.length] w fun e w' => e = .returned (.bool true) ∧ w' = w) := shaped_yes _ w hn
    have hp : 0 < ws.length := by have := (nblk_some hn).1; omega
    have HRP : Hid (∀ W, Row W w.heap.size ws → Fr New w W → Calls Tryz.prog 61 #[rowV (some ⟨w.heap.size, 0, none⟩) ws.length ws.length] W fun e w' => ∃ (cd : Int) (r r' : List Int), e = .returned (.int .i64 cd) ∧ RepairIs ws r cd ∧ Mem2 w w.heap.size ws.length ws.length r' w' ∧ (cd = 0 → r' = r) ∧ (cd ≠ 0 → r = [])) := fun W hR hF => soundRepair_any W (mem2_row hR hF hm) hU hn
    have HC : Hid (Calls Tryz.prog 51 #[.slice a ws.length cap] w fun e w' => e = .returned (.slice (some ⟨w.heap.size, 0, none⟩) ws.length ws.length) ∧ Row w' w.heap.size ws ∧ Fr New w w') := kcopy_any a cap ws w hm hp hr
    obtain ⟨L, hL⟩ : ∃ L, L = ws.length := ⟨_, rfl⟩
    rw [← hL] at HS HRP HC hm hp ⊢
    clear hn hr hL hU
    go_enter Tryz.func32, Tryz.ntmps32
    go_wp2_with (first
      | (go_at_call 46; refine calls_same HS.out ?_)
      | (go_at_call 51; refine HC.out.mono ?_; rintro e w4 ⟨rfl, hr4, hf4⟩)
      | (go_at_call 61; refine (HRP.out w4 hr4 hf4).mono ?_; rintro e w5 ⟨cd, r, r', rfl, hri, hm5, hc0, hc1⟩)
      | fail)
    · rename_i h
      go_ret2
      exact ⟨_, r, cd, rfl, hri, .inl ⟨by simpa using h, rfl, hc1 (by simpa using h)⟩, hm5.fr⟩
    · rename_i h
      have e0 : cd = 0 := by simpa using h
      obtain rfl := hc0 e0
      subst e0
      go_ret2
      exact ⟨_, _, 0, rfl, hri, .inr ⟨rfl, rfl, hm5.row, hm5.len⟩, hm5.fr⟩
end Go.Proofs.YtbagcjlimdilpaaGreat
