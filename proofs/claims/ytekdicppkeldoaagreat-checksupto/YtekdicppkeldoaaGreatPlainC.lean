/- The walk of the law's 'plain' for Check: the answer is the document's. -/
import Derived.Test.YtekdicppkeldoaaGreatStateC
import Derived.Test.YtekdicppkeldoaaGreatPgN
import Derived.Deep.CutRange
namespace Go.Proofs.YtekdicppkeldoaaGreat
open Go.RowKit

/-- a step, as a value -/
abbrev opV (k A D C V : Int) (Wa : Option Addr) (Wl Wc : Nat) : Value := .agg #[.int .i64 k, .int .i64 A, .int .i64 D, .int .i64 C, .int .u64 V, .slice Wa Wl Wc]

set_option maxHeartbeats 4000000 in
set_option maxRecDepth 1000000 in
/-- no image: nothing is asked -/
theorem plain_none (B b c : Nat) (k A D C V : Int) (Wa : Option Addr) (Wl Wc : Nat) {vws : Value} {xs : List Value} {vb : Value} {es : List Entry} (w : World) (hk1 : k ≠ 1) (hk2 : k ≠ 2) (P : Parts B b c vws 0 xs vb es w) :
    Calls Tryz.prog 8 #[.pointer (some ⟨b, 0, none⟩), opV k A D C V Wa Wl Wc] w fun e w' => e = .returned (.bool true) ∧ Fr New w w' := by
  obtain ⟨aw, cw, rfl⟩ := own_slice P.ws
  obtain ⟨hcb, hzb⟩ := block_cells P.bk
  have hd1 : (k == 1) = false := by simpa using hk1
  have hd2 : (k == 2) = false := by simpa using hk2
  have hbW := P.lt
  clear hk1 hk2
  go_enter Tryz.func8, Tryz.ntmps8
  go_wp2
  go_ret
  exact ⟨rfl, (Fr.refl _ _).alloc _⟩

set_option maxHeartbeats 8000000 in
set_option maxRecDepth 1000000 in
theorem plain_check (B b c : Nat) (A D C V : Int) (Wa : Option Addr) (Wl Wc : Nat) {vws : Value} {nw : Nat} {xs : List Value} {vb : Value} {es : List Entry} (w : World) (hA0 : -9223372036854775808 ≤ A) (hA1 : A ≤ 9223372036854775807) (hn : 0 < nw) (P : Parts B b c vws nw xs vb es w) (I : Imgs w xs) :
    Calls Tryz.prog 8 #[.pointer (some ⟨b, 0, none⟩), opV 4 A D C V Wa Wl Wc] w fun e w' => e = .returned (.bool true) ∧ Fr New w w' := by
  have hn12 := P.few
  have hp0 := pickI_nonneg A nw (by omega)
  have hp1 := pickI_lt A nw (by omega)
  have HPK : Hid (∀ w, Calls Tryz.prog 9 #[.int .i64 A, .int .i64 nw] w fun e w' => e = .returned (.int .i64 (pickI A nw)) ∧ w' = w) := fun w => pick_any A nw w hA0 hA1 (by omega) (by omega)
  obtain ⟨j, hj⟩ := Int.eq_ofNat_of_zero_le hp0
  rw [hj] at hp1 HPK
  have hjn : j < nw := by omega
  obtain ⟨gw, cw, av, cv, zs, rfl, hcj, hrz, hcz, hz1, hzU⟩ := P.pick I hn j hjn
  obtain ⟨hcb, hzb⟩ := block_cells P.bk
  have hbW := P.lt
  have hcb0 : w.cell? ⟨b, 0, none⟩ = some (.slice (some ⟨gw, 0, none⟩) nw cw) := (hcb 0).trans rfl
  have HRZ : Hid (∀ w', Fr New w w' → RowU w' av zs) := fun w' hf => rowU_fr hf hrz (fun _ _ h => h)
  have HLN : Hid (∀ w', Fr New w w' → Calls Tryz.prog 41 #[.slice av zs.length cv] w' fun e w'' => e = .returned (.slice (some ⟨w'.heap.size, 0, none⟩) (zs.length + 8) (zs.length + 8)) ∧ Row w'' w'.heap.size (withEight zs) ∧ Fr New w' w'') := fun w' hf => lent_any av cv zs w' (by omega) (HRZ.out w' hf)
  have HCK : Hid (∀ g w', Row w' g (withEight zs) → Calls Tryz.prog 45 #[.slice (some ⟨g, 0, none⟩) zs.length (zs.length + 8)] w' fun e w'' => ∃ c p, e = .returned (.tuple #[.int .i64 c, .int .i64 p]) ∧ CheckIs zs c p ∧ Fr New w' w'') := fun g w' hr => pcheck_any _ _ zs w' (by omega) (eight_row hr)
  have HCR : Hid (∀ w', Fr New w w' → Calls Tryz.prog 46 #[.slice av zs.length cv] w' fun e w'' => ∃ c p, e = .returned (.tuple #[.int .i64 c, .int .i64 p]) ∧ CheckIs zs c p ∧ Fr New w' w'') := fun w' hf => check_any av cv zs w' (by omega) hcz (HRZ.out w' hf)
  have HBK : Hid (∀ g w', Row w' g (withEight zs) → Fr New w w' → Calls Tryz.prog 44 #[.slice (some ⟨g, 0, none⟩) (zs.length + 8) (zs.length + 8), .slice av zs.length cv] w' fun e w'' => e = .returned (.bool true) ∧ Fr (fun k => k = g) w' w'') := fun g w' hr hf => back_true g av cv zs w' (by omega) hr (HRZ.out w' hf)
  have hnz : ((nw : Int) == 0) = false := by simp; omega
  have hj0 : (0 : Int) ≤ (j : Int) := by omega
  have hj1 : (j : Int) < (nw : Int) := by omega
  have hgw : gw < w.heap.size := World.block_lt_of_cell? w _ hcj
  obtain ⟨n, hnl⟩ : ∃ n, n = zs.length := ⟨_, rfl⟩
  rw [← hnl] at hcj HLN HCK HCR HBK hcz hz1
  clear hcb hzb hrz hzU hp0 hj hnl I
  go_enter Tryz.func8, Tryz.ntmps8
  go_upto_region 17 with fail
  go_quiet (first | (go_at_call 9; exact Calls.quiet_of_same (HPK.out _)) | fail)
  go_wp2_with (first
    | (go_at_call 41; refine (HLN.out _ (((Fr.refl New w).alloc _).drewN _)).mono ?_; rintro e w1 ⟨rfl, hr1, hf1⟩; have hf1' : Fr New w w1 := ((Fr.refl New w).alloc _).drewN _ |>.same hf1; obtain ⟨hcx, hzx⟩ := block_cells (hf1.heap (k := w.heap.size) (Go.Deep.blk_alloc_new w _) id); have hr1' : Row w1 (w.heap.size + 1) (withEight zs) := (by simpa using hr1))
    | (go_at_call 45; refine (HCK.out (w.heap.size + 1) w1 hr1').mono ?_; rintro e w2 ⟨cd, pp, rfl, hci, hf2⟩)
    | (go_at_call 46; refine (HCR.out w2 (hf1'.same hf2)).mono ?_; rintro e w3 ⟨cd', pp', rfl, hci', hf3⟩; obtain ⟨rfl, rfl⟩ := told_one hci hci')
    | (go_at_call 44; refine (HBK.out (w.heap.size + 1) w3 ((hr1'.fr hf2 id).fr hf3 id) ((hf1'.same hf2).same hf3)).mono ?_; rintro e w4 ⟨rfl, hf4⟩)
    | fail)
  go_ret
  exact ⟨rfl, ((hf1'.same hf2).same hf3).trans hf4 (fun j hj ht => by omega)⟩
end Go.Proofs.YtekdicppkeldoaaGreat
