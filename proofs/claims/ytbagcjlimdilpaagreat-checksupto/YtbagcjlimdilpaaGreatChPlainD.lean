/- The walk of the law's 'plain' for Repair: the answer is the document's. -/
import Derived.Test.YtbagcjlimdilpaaGreatChJ6
namespace Go.Proofs.YtbagcjlimdilpaaGreat
open Go.RowKit

theorem U_zero : U 0 := ⟨by decide, by decide⟩
theorem U_of_wd {r : List Int} (h : ∀ q, U (wd r q)) : ∀ z ∈ r, U z := by
  intro z hz
  obtain ⟨i, hi, rfl⟩ := List.getElem_of_mem hz
  have := h i
  unfold wd at this
  rwa [List.getD_eq_getElem?_getD, List.getElem?_eq_getElem hi] at this
theorem set_U {r : List Int} {q : Nat} {v : Int} (h : ∀ z ∈ r, U z) (hv : U v) : ∀ z ∈ r.set q v, U z := by
  intro z hz
  rcases List.mem_or_eq_of_mem_set hz with h' | rfl
  · exact h z h'
  · exact hv
theorem Zeroed.U {w2 cur : List Int} {Z : Nat → Prop} (h : Zeroed w2 cur Z) (hU : ∀ z ∈ w2, Go.Proofs.YtbagcjlimdilpaaGreat.U z) : ∀ z ∈ cur, Go.Proofs.YtbagcjlimdilpaaGreat.U z :=
  U_of_wd (fun q => by
    by_cases hz : Z q
    · rw [h.yes q hz]; exact U_zero
    · rw [h.no q hz]; exact wd_U hU q)
theorem repair_U {ws r : List Int} (h : RepairIs ws r 0) (hU : ∀ z ∈ ws, U z) : (∀ z ∈ r, U z) ∧ r.length = ws.length ∧ 0 < ws.length := by
  rcases h with ⟨_, h, _⟩ | ⟨hn, ⟨_, h, _⟩ | ⟨_, _, w2, w3, z2, z3, rfl⟩⟩
  · cases h
  · cases h
  · have hlg : ∀ z ∈ loggedS ws, U z := by
      unfold loggedS
      refine set_U ?_ U_zero
      split
      · exact doneS_U hU _
      · exact hU
    refine ⟨set_U (z3.U (z2.U hlg)) (sumL_U _), ?_, by have := (nblk_some hn).1; omega⟩
    rw [List.length_set, z3.len, z2.len, loggedS_len]

set_option maxHeartbeats 8000000 in
set_option maxRecDepth 1000000 in
theorem plain_repair (B b c : Nat) (A D C V : Int) (Wa : Option Addr) (Wl Wc : Nat) {vws : Value} {nw : Nat} {xs : List Value} {vb : Value} {es : List Entry} (w : World) (hA0 : -9223372036854775808 ≤ A) (hA1 : A ≤ 9223372036854775807) (hn : 0 < nw) (hc : c ≤ 1073741823) (P : Parts B b c vws nw xs vb es w) (I : Imgs w xs) :
    Calls Tryz.prog 73 #[.pointer (some ⟨b, 0, none⟩), opV 5 A D C V Wa Wl Wc] w fun e w' => e = .returned (.bool true) ∧ Below B w w' ∧ Inv2 B b (c + 1) w' := by
  have hn12 := P.few
  have hp0 := pickI_nonneg A nw (by omega)
  have hp1 := pickI_lt A nw (by omega)
  have HPK : Hid (∀ w, Calls Tryz.prog 74 #[.int .i64 A, .int .i64 nw] w fun e w' => e = .returned (.int .i64 (pickI A nw)) ∧ w' = w) := fun w => lpick_any A nw w hA0 hA1 (by omega) (by omega)
  obtain ⟨j, hj⟩ := Int.eq_ofNat_of_zero_le hp0
  rw [hj] at hp1 HPK
  have hjn : j < nw := by omega
  have P0 := P
  obtain ⟨gw, cw, av, cv, zs, rfl, hcj, hrz, hcz, hz1, hzU⟩ := P.pick I hn j hjn
  obtain ⟨hcb, hzb⟩ := block_cells P.bk
  have hbW := P.lt
  have hcb0 : w.cell? ⟨b, 0, none⟩ = some (.slice (some ⟨gw, 0, none⟩) nw cw) := (hcb 0).trans rfl
  have HRZ : Hid (∀ w', Fr New w w' → RowU w' av zs) := fun w' hf => rowU_fr hf hrz (fun _ _ h => h)
  have HLN : Hid (∀ w', Fr New w w' → Calls Tryz.prog 120 #[.slice av zs.length cv] w' fun e w'' => e = .returned (.slice (some ⟨w'.heap.size, 0, none⟩) (zs.length + 8) (zs.length + 8)) ∧ Row w'' w'.heap.size (withEight zs) ∧ Fr New w' w'') := fun w' hf => lent_any av cv zs w' (by omega) (HRZ.out w' hf)
  have HCK : Hid (∀ g w', Row w' g (withEight zs) → Calls Tryz.prog 32 #[.slice (some ⟨g, 0, none⟩) zs.length (zs.length + 8)] w' fun e w'' => ∃ v r c, e = .returned (.tuple #[v, .int .i64 c]) ∧ RepairIs zs r c ∧ ((c ≠ 0 ∧ v = .slice none 0 0 ∧ r = []) ∨ (c = 0 ∧ v = .slice (some ⟨w'.heap.size, 0, none⟩) zs.length zs.length ∧ Row w'' w'.heap.size r ∧ r.length = zs.length)) ∧ Fr New w' w'') := fun g w' hr => prepair_any _ _ zs w' (by omega) hzU (eight_row hr)
  have HCR : Hid (∀ w', Fr New w w' → Calls Tryz.prog 124 #[.slice av zs.length cv] w' fun e w'' => ∃ v r c, e = .returned (.tuple #[v, .int .i64 c]) ∧ RepairIs zs r c ∧ Own w'.heap.size w'' v r ∧ Fr New w' w'') := fun w' hf => repair_any av cv zs w' (by omega) hzU (HRZ.out w' hf)
  have HBK : Hid (∀ g w', Row w' g (withEight zs) → Fr New w w' → Calls Tryz.prog 122 #[.slice (some ⟨g, 0, none⟩) (zs.length + 8) (zs.length + 8), .slice av zs.length cv] w' fun e w'' => e = .returned (.bool true) ∧ Fr (fun k => k = g) w' w'') := fun g w' hr hf => back_true g av cv zs w' (by omega) hr (HRZ.out w' hf)
  have hnz : ((nw : Int) == 0) = false := by simp; omega
  have hj0 : (0 : Int) ≤ (j : Int) := by omega
  have hj1 : (j : Int) < (nw : Int) := by omega
  have hgw : gw < w.heap.size := World.block_lt_of_cell? w _ hcj
  have HU : Hid (∀ r, RepairIs zs r 0 → (∀ z ∈ r, U z) ∧ r.length = zs.length ∧ 0 < zs.length) := fun r h => repair_U h hzU
  obtain ⟨n, hnl⟩ : ∃ n, n = zs.length := ⟨_, rfl⟩
  rw [← hnl] at hcj HLN HCK HCR HBK hcz hz1 HU
  clear hcb hzb hrz hzU hp0 hj hnl
  by_cases hex : ∃ r, RepairIs zs r 0
  · obtain ⟨r0, hr0⟩ := hex
    obtain ⟨hU0, hl0, hpos⟩ := HU.out r0 hr0
    have HR0 : Hid (RepairIs zs r0 0) := hr0
    have HL0 : Hid (r0.length = n) := hl0
    have HU0 : Hid (∀ z ∈ r0, U z) := hU0
    clear hr0 hU0 hl0 HU
    have HCK2 : Hid (∀ g w', Row w' g (withEight zs) → Calls Tryz.prog 32 #[.slice (some ⟨g, 0, none⟩) n (n + 8)] w' fun e w'' => e = .returned (.tuple #[.slice (some ⟨w'.heap.size, 0, none⟩) n n, .int .i64 0]) ∧ Row w'' w'.heap.size r0 ∧ Fr New w' w'') := fun g w' hr => by
      refine (HCK.out g w' hr).mono ?_
      rintro e w2 ⟨v, r, c, rfl, hri, hv, hf⟩
      obtain ⟨rfl, rfl⟩ := repair_one hri HR0.out
      rcases hv with ⟨h, _⟩ | ⟨_, rfl, hrow, _⟩
      · exact absurd rfl h
      · exact ⟨rfl, hrow, hf⟩
    have HCR2 : Hid (∀ w', Fr New w w' → Calls Tryz.prog 124 #[.slice av n cv] w' fun e w'' => ∃ gy cy, e = .returned (.tuple #[.slice (some ⟨gy, 0, none⟩) n cy, .int .i64 0]) ∧ w'.heap.size ≤ gy ∧ w''.ownsRow w'.heap.size 50 1 (.slice (some ⟨gy, 0, none⟩) n cy) n (r0.map (Value.int .u64)) ∧ Fr New w' w'') := fun w' hf => by
      refine (HCR.out w' hf).mono ?_
      rintro e w2 ⟨v, r, c, rfl, hri, ho, hf2⟩
      obtain ⟨rfl, rfl⟩ := repair_one hri HR0.out
      have ho' := ho
      unfold Own at ho'
      rw [HL0.out] at ho'
      obtain ⟨gy, cy, rfl, _, _⟩ := ho'.form hpos
      exact ⟨gy, cy, rfl, (own_block ho' rfl).1, ho', hf2⟩
    clear HCK HCR
    go_enter Tryz.func73, Tryz.ntmps73
    go_upto_region 17 with fail
    go_quiet (first | (go_at_call 74; exact Calls.quiet_of_same (HPK.out _)) | fail)
    go_wp2_with (first
      | (go_at_call 120; refine (HLN.out _ (((Fr.refl New w).alloc _).drewN _)).mono ?_; rintro e w1 ⟨rfl, hr1, hf1⟩; have hf1' : Fr New w w1 := ((Fr.refl New w).alloc _).drewN _ |>.same hf1; obtain ⟨hcx, hzx⟩ := block_cells (hf1.heap (k := w.heap.size) (Go.Deep.blk_alloc_new w _) id); have hr1' : Row w1 (w.heap.size + 1) (withEight zs) := (by simpa using hr1); have hs1 : w.heap.size + 1 < w1.heap.size := hr1'.lt)
      | (go_at_call 32; refine (HCK2.out (w.heap.size + 1) w1 hr1').mono ?_; rintro e w2 ⟨rfl, hx2, hf2⟩; have hs2 : w1.heap.size < w2.heap.size := hx2.lt)
      | (go_at_call 124; refine (HCR2.out w2 (hf1'.same hf2)).mono ?_; rintro e w3 ⟨gy, cy, rfl, hgy, hy3, hf3⟩; have hx3 := hx2.fr hf3 id; have hrl3 : Row w3 (w.heap.size + 1) (withEight zs) := (hr1'.fr hf2 id).fr hf3 id)
      | (go_at_call 87; refine (same_len _ _ _ _ r0 n w3 HL0.out (by unfold maxLen; omega) hx3.rowU (rowU_own hy3)).mono ?_; rintro e w4 ⟨rfl, n4, hw4⟩; have hf4 : Fr New w3 w4 := (by rw [hw4]; exact (Fr.refl New w3).drewN _); have hrl4 : Row w4 (w.heap.size + 1) (withEight zs) := (by rw [hw4]; exact hrl3); have hx4 : Row w4 w1.heap.size r0 := (by rw [hw4]; exact hx3); have hy4 := hf4.owns hy3 (fun _ _ h => h); have hw14 : Fr New w w4 := ((hf1'.same hf2).same hf3).same hf4; clear hw4)
      | (go_at_call 122; refine (HBK.out (w.heap.size + 1) w4 hrl4 hw14).mono ?_; rintro e w5 ⟨rfl, hf5⟩; have hw15 : Fr New w w5 := hw14.trans hf5 (fun j hj ht => by omega); have hx5 : Row w5 w1.heap.size r0 := hx4.fr hf5 (fun he => by omega); have hy5 := hf5.owns hy4 (fun g hg he => by simp [Value.ownBlock] at hg; omega))
      | (go_at_call 88; refine (words2_parts P I hw15 hc (some ⟨w1.heap.size, 0, none⟩) (fun g hg => by simp only [Option.some.injEq, Addr.mk.injEq] at hg; omega) r0 n HL0.out (by omega) (.inr ⟨_, rfl, hx5⟩)).mono ?_; rintro e w6 ⟨rfl, vb', es', P6, I6, h6, h56⟩; have hy6 : w6.ownsRow w2.heap.size 50 1 (.slice (some ⟨gy, 0, none⟩) n cy) n (r0.map (Value.int .u64)) := h56.owns hy5 (fun g hg ht => by simp [Value.ownBlock] at hg; subst hg; obtain ⟨_, cur, hh⟩ := own_block hy5 rfl; rcases ht with h | h | h; exact type_ne hh (P.fr hw15).bk (by decide) h; (simp only [Option.some.injEq, Addr.mk.injEq] at h; omega); (obtain ⟨_, cur', hh'⟩ := own_block (P.fr hw15).own h; exact type_ne hh hh' (by decide) rfl)))
      | (go_at_call 89; refine (image2_parts P6 I6 ⟨gy, 0, none⟩ r0 n cy HL0.out (by omega) HU0.out (rowU_own hy6)).mono ?_; rintro e w7 ⟨rfl, I7, h7⟩)
      | fail)
    go_ret
    exact ⟨rfl, (Parts.imageFr h6 h7).below P0.size P0.old, I7⟩
  · have HNE : Hid (∀ r, ¬ RepairIs zs r 0) := fun r h => hex ⟨r, h⟩
    clear hex HU
    have HCK2 : Hid (∀ g w', Row w' g (withEight zs) → Calls Tryz.prog 32 #[.slice (some ⟨g, 0, none⟩) n (n + 8)] w' fun e w'' => ∃ c : Int, e = .returned (.tuple #[.slice none 0 0, .int .i64 c]) ∧ c ≠ 0 ∧ RepairIs zs [] c ∧ Fr New w' w'') := fun g w' hr => by
      refine (HCK.out g w' hr).mono ?_
      rintro e w2 ⟨v, r, c, rfl, hri, hv, hf⟩
      rcases hv with ⟨h, rfl, rfl⟩ | ⟨rfl, _⟩
      · exact ⟨c, rfl, h, hri, hf⟩
      · exact absurd hri (HNE.out r)
    have HCR2 : Hid (∀ c0, RepairIs zs [] c0 → ∀ w', Fr New w w' → Calls Tryz.prog 124 #[.slice av n cv] w' fun e w'' => ∃ ay cy, e = .returned (.tuple #[.slice ay 0 cy, .int .i64 c0]) ∧ Fr New w' w'') := fun c0 h0 w' hf => by
      refine (HCR.out w' hf).mono ?_
      rintro e w2 ⟨v, r, c, rfl, hri, ho, hf2⟩
      obtain ⟨rfl, rfl⟩ := repair_one hri h0
      obtain ⟨ay, cy, rfl⟩ := own_slice ho
      exact ⟨ay, cy, rfl, hf2⟩
    clear HCK HCR
    go_enter Tryz.func73, Tryz.ntmps73
    go_upto_region 17 with fail
    go_quiet (first | (go_at_call 74; exact Calls.quiet_of_same (HPK.out _)) | fail)
    go_wp2_with (first
      | (go_at_call 120; refine (HLN.out _ (((Fr.refl New w).alloc _).drewN _)).mono ?_; rintro e w1 ⟨rfl, hr1, hf1⟩; have hf1' : Fr New w w1 := ((Fr.refl New w).alloc _).drewN _ |>.same hf1; obtain ⟨hcx, hzx⟩ := block_cells (hf1.heap (k := w.heap.size) (Go.Deep.blk_alloc_new w _) id); have hr1' : Row w1 (w.heap.size + 1) (withEight zs) := (by simpa using hr1))
      | (go_at_call 32; refine (HCK2.out (w.heap.size + 1) w1 hr1').mono ?_; rintro e w2 ⟨cd, rfl, hcd, hri, hf2⟩; have hcd0 : (cd == 0) = false := (by simpa using hcd))
      | (go_at_call 124; refine (HCR2.out cd hri w2 (hf1'.same hf2)).mono ?_; rintro e w3 ⟨ay, cy, rfl, hf3⟩; have hrl3 : Row w3 (w.heap.size + 1) (withEight zs) := (hr1'.fr hf2 id).fr hf3 id)
      | (go_at_call 87; refine (same_len none ay 0 cy [] 0 w3 rfl (by decide) (rowU_nil _ _) (rowU_nil _ _)).mono ?_; rintro e w4 ⟨rfl, n4, hw4⟩; have hf4 : Fr New w3 w4 := (by rw [hw4]; exact (Fr.refl New w3).drewN _); have hrl4 : Row w4 (w.heap.size + 1) (withEight zs) := (by rw [hw4]; exact hrl3); have hw14 : Fr New w w4 := ((hf1'.same hf2).same hf3).same hf4; clear hw4)
      | (go_at_call 122; refine (HBK.out (w.heap.size + 1) w4 hrl4 hw14).mono ?_; rintro e w5 ⟨rfl, hf5⟩; have hw15 : Fr New w w5 := hw14.trans hf5 (fun j hj ht => by omega))
      | (go_at_call 88; refine (words2_parts P I hw15 hc none (fun g hg => by cases hg) [] 0 rfl (by omega) (.inl ⟨rfl, rfl⟩)).mono ?_; rintro e w6 ⟨rfl, vb', es', P6, I6, h6, h56⟩)
      | fail)
    go_ret
    exact ⟨rfl, h6.below P0.size P0.old, _, _, _, _, _, P6, I6⟩
end Go.Proofs.YtbagcjlimdilpaaGreat
