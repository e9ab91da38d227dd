/- The law's 'plain' and 'step' for the kinds up to Repair, beside heaps. -/
import Derived.Test.YtbagcjlimdilpaaGreatHhJ8
import Derived.Test.YtbagcjlimdilpaaGreatHhHxF
namespace Go.Proofs.YtbagcjlimdilpaaGreat
open Go.RowKit

set_option maxHeartbeats 4000000 in
set_option maxRecDepth 1000000 in
theorem plain2_format_yesX {K : Nat → Prop} {X : Rest} (B b c : Nat) (A C : Int) (n : Nat) (V : Int) (Wa : Option Addr) (Wl Wc : Nat) (w : World) (hI : Inv2X K X B b c w) (hc : c ≤ 1073741823) (h1 : 1 ≤ n) (h2 : n ≤ 32) :
    Calls Tryz.prog 73 #[.pointer (some ⟨b, 0, none⟩), opV 1 A n C V Wa Wl Wc] w fun e w' => e = .returned (.bool true) ∧ Stay B w w' ∧ Inv2X K X B b (c + 1) w' := by
  obtain ⟨vws, nw, xs, vb, es, P, I⟩ := hI
  go_enter Tryz.func73, Tryz.ntmps73
  go_wp2_with (first
    | (go_at_call 37; refine (fmt_yes n _ h1 h2).mono ?_; rintro e w1 ⟨rfl, hr1, hf1⟩; obtain ⟨hcx, hzx⟩ := block_cells (hf1.heap (Go.Deep.blk_alloc_new w _) id); have hr1' : Row w1 (w.heap.size + 1) (imgL n) := by simpa using hr1)
    | (go_at_call 119; refine (rfmt_yes n w1 h1 h2).mono ?_; rintro e w2 ⟨rfl, hr2, hf2⟩; have hr3 := hr1'.fr hf2 id; have hf3 := ((Fr.refl New w).alloc _).same (hf1.same hf2))
    | (go_at_call 87; refine (same_len _ _ _ _ (imgL n) (106 + 8 * n) w2 (imgL_len n) (by unfold maxLen; omega) hr3.rowU hr2.rowU).mono ?_; rintro e w4 ⟨rfl, n4, hw4⟩; have hf4 : Fr New w w4 := (by rw [hw4]; exact hf3.drewN _); have hr4 : Row w4 (w.heap.size + 1) (imgL n) := (by rw [hw4]; exact hr3); have hy4 : Row w4 w1.heap.size (imgL n) := (by rw [hw4]; exact hr2); clear hw4 hr3 hf3)
    | (go_at_call 88; refine (words2_partsX P I hf4 hc (some ⟨w.heap.size + 1, 0, none⟩) (fun g hg => by simp only [Option.some.injEq, Addr.mk.injEq] at hg; omega) (imgL n) (106 + 8 * n) (imgL_len n) (by omega) (.inr ⟨_, rfl, hr4⟩)).mono ?_; rintro e w5 ⟨rfl, vb', es', P5, I5, h5, h45⟩; have hy5 : Row w5 w1.heap.size (imgL n) := row_turnedX (P.fr hf4) hy4 h45 (fun hh => by simp only [Option.some.injEq, Addr.mk.injEq] at hh; have := hr1'.lt; omega))
    | (go_at_call 89; refine (image2_partsX P5 I5 ⟨w1.heap.size, 0, none⟩ (imgL n) (106 + 8 * n) (106 + 8 * n) (imgL_len n) (by omega) (img_UX n h2) hy5.rowU).mono ?_; rintro e w6 ⟨rfl, I6, h6⟩)
    | fail)
  go_ret
  exact ⟨rfl, P.stay (Parts.imageFr h5 h6), I6⟩

set_option maxHeartbeats 4000000 in
set_option maxRecDepth 1000000 in
theorem plain2_format_noX {K : Nat → Prop} {X : Rest} (B b c : Nat) (A C : Int) (n : Int) (V : Int) (Wa : Option Addr) (Wl Wc : Nat) (w : World) (hI : Inv2X K X B b c w) (hc : c ≤ 1073741823) (h : n < 1 ∨ 32 < n) :
    Calls Tryz.prog 73 #[.pointer (some ⟨b, 0, none⟩), opV 1 A n C V Wa Wl Wc] w fun e w' => e = .returned (.bool true) ∧ Stay B w w' ∧ Inv2X K X B b (c + 1) w' := by
  obtain ⟨vws, nw, xs, vb, es, P, I⟩ := hI
  go_enter Tryz.func73, Tryz.ntmps73
  go_wp2_with (first
    | (go_at_call 37; refine calls_same (fmt_no n _ h) ?_)
    | (go_at_call 119; refine calls_same (rfmt_no n _ h) ?_)
    | (go_at_call 87; refine (same_len none none 0 0 [] 0 _ rfl (by decide) (rowU_nil _ _) (rowU_nil _ _)).mono ?_; rintro e w4 ⟨rfl, n4, hw4⟩; have hf4 : Fr New w w4 := (by rw [hw4]; exact ((Fr.refl New w).alloc _).drewN _); clear hw4)
    | (go_at_call 88; refine (words2_partsX P I hf4 hc none (fun g hg => by cases hg) [] 0 rfl (by omega) (.inl ⟨rfl, rfl⟩)).mono ?_; rintro e w5 ⟨rfl, vb', es', P5, I5, h5, _⟩)
    | fail)
  go_ret
  exact ⟨rfl, P.stay h5, _, _, _, _, _, P5, I5⟩

set_option maxHeartbeats 4000000 in
set_option maxRecDepth 1000000 in
theorem plain2_sumX {K : Nat → Prop} {X : Rest} (B b c : Nat) (A D C : Int) (V : Int) (Wa : Option Addr) (Wc : Nat) (zs : List Int) (w : World) (hI : Inv2X K X B b c w) (hz : zs.length ≤ 1048576) (hr : RowU w Wa zs) :
    Calls Tryz.prog 73 #[.pointer (some ⟨b, 0, none⟩), opV 2 A D C V Wa zs.length Wc] w fun e w' => e = .returned (.bool true) ∧ Stay B w w' ∧ Inv2X K X B b c w' := by
  have hr0 := fun o => rowU_fr ((Fr.refl New w).alloc o) hr (fun _ _ h => h)
  go_enter Tryz.func73, Tryz.ntmps73
  go_wp2_with (first
    | (go_at_call 120; refine (lent_any Wa Wc zs _ hz (hr0 _)).mono ?_; rintro e w1 ⟨rfl, hr1, hf1⟩; obtain ⟨hcx, hzx⟩ := block_cells (hf1.heap (Go.Deep.blk_alloc_new w _) id); have hr1' : Row w1 (w.heap.size + 1) (withEight zs) := (by simpa using hr1); have hW1 := rowU_fr hf1 (hr0 _) (fun _ _ h => h); have hf2 := ((Fr.refl New w).alloc _).same hf1; clear hr0 hf1)
    | (go_at_call 36; refine calls_same (sum_any _ _ _ zs w1 rfl (by unfold maxLen; omega) (eight_row hr1')) ?_)
    | (go_at_call 121; refine calls_same (rsum_any _ _ _ zs w1 rfl (by unfold maxLen; omega) hW1) ?_)
    | (go_at_call 122; refine (back_true (w.heap.size + 1) Wa Wc zs w1 hz hr1' hW1).mono ?_; rintro e w2 ⟨rfl, hf3⟩; have hf4 := hf2.trans hf3 (fun j hj ht => by omega))
    | fail)
  go_ret
  exact ⟨rfl, Stay.new hf4 hI.size, hI.new hf4⟩

theorem plain_fiveX {K : Nat → Prop} {X : Rest} (B b c : Nat) (k A D C V : Int) (Wa : Option Addr) (Wc : Nat) (zs : List Int) (w : World) (h1 : 1 ≤ k) (h5 : k ≤ 5) (hI : Inv2X K X B b c w) (hc : c ≤ 1073741823) (ho : OpOkX A D C V zs) (hr : RowU w Wa zs) :
    Calls Tryz.prog 73 #[.pointer (some ⟨b, 0, none⟩), opV k A D C V Wa zs.length Wc] w fun e w' => e = .returned (.bool true) ∧ Stay B w w' ∧ ∃ c', (c ≤ c' ∧ c' ≤ c + 1) ∧ Inv2X K X B b c' w' := by
  have weak : ∀ {Q : Ending → World → Prop}, Calls Tryz.prog 73 #[.pointer (some ⟨b, 0, none⟩), opV k A D C V Wa zs.length Wc] w Q → (∀ e w', Q e w' → e = .returned (.bool true) ∧ Stay B w w' ∧ ∃ c', (c ≤ c' ∧ c' ≤ c + 1) ∧ Inv2X K X B b c' w') → Calls Tryz.prog 73 #[.pointer (some ⟨b, 0, none⟩), opV k A D C V Wa zs.length Wc] w fun e w' => e = .returned (.bool true) ∧ Stay B w w' ∧ ∃ c', (c ≤ c' ∧ c' ≤ c + 1) ∧ Inv2X K X B b c' w' := fun h h' => h.mono h'
  rcases (show k = 1 ∨ k = 2 ∨ k = 3 ∨ k = 4 ∨ k = 5 by omega) with rfl | rfl | rfl | rfl | rfl
  · by_cases hD : 1 ≤ D ∧ D ≤ 32
    · obtain ⟨n, rfl⟩ := Int.eq_ofNat_of_zero_le (show 0 ≤ D by omega)
      exact weak (plain2_format_yesX B b c A C n V Wa zs.length Wc w hI hc (by omega) (by omega)) (fun e w' ⟨h1, h2, h3⟩ => ⟨h1, h2, c + 1, by omega, h3⟩)
    · exact weak (plain2_format_noX B b c A C D V Wa zs.length Wc w hI hc (by omega)) (fun e w' ⟨h1, h2, h3⟩ => ⟨h1, h2, c + 1, by omega, h3⟩)
  · exact weak (plain2_sumX B b c A D C V Wa Wc zs w hI ho.z hr) (fun e w' ⟨h1, h2, h3⟩ => ⟨h1, h2, c, by omega, h3⟩)
  · obtain ⟨vws, nw, xs, vb, es, P, I⟩ := hI
    rcases Nat.eq_zero_or_pos nw with rfl | hn
    · exact weak (plain_noneX B b c 3 A D C V Wa zs.length Wc w (by decide) (by decide) P) (fun e w' ⟨h1, h2⟩ => ⟨h1, Stay.new h2 P.size, c, by omega, _, _, _, _, _, P.fr h2, I.new h2⟩)
    · rcases Nat.eq_zero_or_pos zs.length with h0 | hz
      · rw [h0]
        exact (plain_spoilX B b c A D C V Wa Wc w ho.a0 ho.a1 ho.c0 ho.c1 ho.v hn P I).mono (fun e w' ⟨h1, h2, h3⟩ => ⟨h1, h2, c, by omega, h3⟩)
      · exact weak (plain_spoil_wordsX B b c A D C V Wa Wc zs w ho.a0 ho.a1 hn P I hz ho.z hr ho.u) (fun e w' ⟨h1, h2, h3⟩ => ⟨h1, h2, c, by omega, h3⟩)
  · obtain ⟨vws, nw, xs, vb, es, P, I⟩ := hI
    rcases Nat.eq_zero_or_pos nw with rfl | hn
    · exact weak (plain_noneX B b c 4 A D C V Wa zs.length Wc w (by decide) (by decide) P) (fun e w' ⟨h1, h2⟩ => ⟨h1, Stay.new h2 P.size, c, by omega, _, _, _, _, _, P.fr h2, I.new h2⟩)
    · exact weak (plain_checkX B b c A D C V Wa zs.length Wc w ho.a0 ho.a1 hn P I) (fun e w' ⟨h1, h2⟩ => ⟨h1, Stay.new h2 P.size, c, by omega, _, _, _, _, _, P.fr h2, I.new h2⟩)
  · obtain ⟨vws, nw, xs, vb, es, P, I⟩ := hI
    rcases Nat.eq_zero_or_pos nw with rfl | hn
    · exact weak (plain_noneX B b c 5 A D C V Wa zs.length Wc w (by decide) (by decide) P) (fun e w' ⟨h1, h2⟩ => ⟨h1, Stay.new h2 P.size, c, by omega, _, _, _, _, _, P.fr h2, I.new h2⟩)
    · exact weak (plain_repairX B b c A D C V Wa zs.length Wc w ho.a0 ho.a1 hn hc P I) (fun e w' ⟨h1, h2, h3⟩ => ⟨h1, h2, c + 1, by omega, h3⟩)

set_option maxHeartbeats 4000000 in
set_option maxRecDepth 1000000 in
theorem step_fiveX {K : Nat → Prop} {X : Rest} (B b c : Nat) (k A D C V : Int) (Wa : Option Addr) (Wc : Nat) (zs : List Int) (w : World) (hk : k ≤ 5) (hI : Inv2X K X B b c w) (hc : c ≤ 1073741823) (ho : OpOkX A D C V zs) (hr : RowU w Wa zs) :
    Calls Tryz.prog 42 #[.pointer (some ⟨b, 0, none⟩), opV k A D C V Wa zs.length Wc] w fun e w' => e = .returned (.bool true) ∧ Stay B w w' ∧ ∃ c', (c ≤ c' ∧ c' ≤ c + 1) ∧ Inv2X K X B b c' w' := by
  have hba : ∀ o, Stay B w (w.alloc o) := fun o => Stay.new ((Fr.refl New w).alloc o) hI.size
  by_cases h1 : k < 1
  · go_enter Tryz.func42, Tryz.ntmps42
    go_wp2
    go_ret
    exact ⟨rfl, hba _, c, by omega, hI.new ((Fr.refl _ _).alloc _)⟩
  · have HP : Hid (∀ o, Calls Tryz.prog 73 #[.pointer (some ⟨b, 0, none⟩), opV k A D C V Wa zs.length Wc] (w.alloc o) fun e w' => e = .returned (.bool true) ∧ Stay B (w.alloc o) w' ∧ ∃ c', (c ≤ c' ∧ c' ≤ c + 1) ∧ Inv2X K X B b c' w') := fun o => plain_fiveX B b c k A D C V Wa Wc zs _ (by omega) hk (hI.new ((Fr.refl _ _).alloc _)) hc ho (rowU_fr ((Fr.refl New w).alloc o) hr (fun _ _ h => h))
    have hd6 : decide (k ≤ 6) = true := by simp; omega
    go_enter Tryz.func42, Tryz.ntmps42
    go_wp2_with (go_at_call 73; refine (HP.out _).mono ?_; rintro e w1 ⟨rfl, hb1, c', hc', hI1⟩)
    go_ret
    exact ⟨rfl, (hba _).trans hb1, c', hc', hI1⟩
end Go.Proofs.YtbagcjlimdilpaaGreat
