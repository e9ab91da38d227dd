/- The walk of the law Known. -/
import Derived.Test.YtbagcjlimdilpaaGreatKtJ22
import Derived.Test.YtbagcjlimdilpaaGreatKtJ20
import Derived.Test.YtbagcjlimdilpaaGreatKtJ21
import Derived.Test.YtbagcjlimdilpaaGreatKtJ23
namespace Go.Proofs.YtbagcjlimdilpaaGreat
open Go.RowKit Go.Maps

theorem Hf.root_ {w0 w : World} {sb hb tb cb mb g : Nat} {vs vn : Value} {un : List Value} {A : Array Value} {ws now shp : List Int} {sts : List St} (h : Hf w0 sb hb tb cb mb g vs vn un A ws now shp sts w) (i n : Int) (h0 : -9223372036854775808 ≤ n) (h1 : n ≤ 9223372036854775807) : Calls Tryz.prog 35 #[.pointer (some ⟨hb, 0, none⟩), .int .i64 i, .int .i64 n] w fun e w' => e = .returned (.int .i64 (setRootS now i n).2) ∧ Hf w0 sb hb tb cb mb g vs vn un A ws (setRootS now i n).1 shp sts w' ∧ Fr (fun k => k = mb) w w' := by
  refine (hsetRoot_any hb tb cb mb g vs ws now sts i n w h0 h1 h.ph).mono ?_
  rintro e w' ⟨rfl, hp, hf⟩
  exact ⟨rfl, h.op hf hp, hf⟩
theorem ktab {k : Nat} (hk : k < 18) : (#[.int .i64 0, .int .i64 1, .int .i64 2, .int .i64 3, .int .i64 5, .int .i64 7, .int .i64 8, .int .i64 106, .int .i64 122, .int .i64 130, .int .i64 107, .int .i64 108, .int .i64 131, .int .i64 4, .int .i64 9, .int .i64 12, .int .i64 116, .int .i64 146] : Array Value)[k]? = some (.int .i64 (kP k)) ∧ (#[.int .i64 3, .int .i64 3, .int .i64 3, .int .i64 3, .int .i64 3, .int .i64 3, .int .i64 4, .int .i64 5, .int .i64 5, .int .i64 5, .int .i64 7, .int .i64 7, .int .i64 7, .int .i64 3, .int .i64 0, .int .i64 0, .int .i64 0, .int .i64 0] : Array Value)[k]? = some (.int .i64 (kE k)) ∧ (#[.int .i64 0, .int .i64 1, .int .i64 7, .int .i64 7, .int .i64 7, .int .i64 7, .int .i64 8, .int .i64 106, .int .i64 122, .int .i64 130, .int .i64 107, .int .i64 108, .int .i64 131, .int .i64 7, .int .i64 0, .int .i64 0, .int .i64 0, .int .i64 0] : Array Value)[k]? = some (.int .i64 (kA k)) := by
  obtain rfl | rfl | rfl | rfl | rfl | rfl | rfl | rfl | rfl | rfl | rfl | rfl | rfl | rfl | rfl | rfl | rfl | rfl : k = 0 ∨ k = 1 ∨ k = 2 ∨ k = 3 ∨ k = 4 ∨ k = 5 ∨ k = 6 ∨ k = 7 ∨ k = 8 ∨ k = 9 ∨ k = 10 ∨ k = 11 ∨ k = 12 ∨ k = 13 ∨ k = 14 ∨ k = 15 ∨ k = 16 ∨ k = 17 := by omega
  all_goals exact ⟨rfl, rfl, rfl⟩
theorem kseven {k : Nat} (hk : k < 18) (h : k ≠ 5) : ¬ (kP k : Int) = 7 := by
  obtain rfl | rfl | rfl | rfl | rfl | rfl | rfl | rfl | rfl | rfl | rfl | rfl | rfl | rfl | rfl | rfl | rfl | rfl : k = 0 ∨ k = 1 ∨ k = 2 ∨ k = 3 ∨ k = 4 ∨ k = 5 ∨ k = 6 ∨ k = 7 ∨ k = 8 ∨ k = 9 ∨ k = 10 ∨ k = 11 ∨ k = 12 ∨ k = 13 ∨ k = 14 ∨ k = 15 ∨ k = 16 ∨ k = 17 := by omega
  all_goals first | exact absurd rfl h | decide
theorem open_err_one {ws : List Int} {c c' : Int} (h : OpenErr ws c) (h' : OpenErr ws c') : c = c' := by
  rcases h with ⟨g1, g2⟩ | ⟨g1, ⟨g2, g3⟩ | ⟨g2, g3, g4, p, g5⟩⟩
  · rcases h' with ⟨k1, k2⟩ | ⟨k1, _⟩
    · rw [g2, k2]
    · exact absurd g1 k1
  · rcases h' with ⟨k1, k2⟩ | ⟨k1, ⟨k2, k3⟩ | ⟨k2, _⟩⟩
    · exact absurd k1 g1
    · rw [g3, k3]
    · rw [g2] at k2; cases k2
  · rcases h' with ⟨k1, k2⟩ | ⟨k1, ⟨k2, k3⟩ | ⟨k2, k3, k4, p', k5⟩⟩
    · exact absurd k1 g1
    · rw [g2] at k2; cases k2
    · exact (told_one g5 k5).1

set_option maxHeartbeats 2000000 in
set_option maxRecDepth 100000 in
theorem known_walk (bl wh va : Int) (w : World) (hbl : I64 bl) (hwh : I64 wh) (hva : I64 va) : Calls Tryz.prog 12 #[.int .i64 bl, .int .i64 wh, .int .i64 va] w fun e w' => e = .returned (.bool true) ∧ Fr New w w' := by
  have hq28 := pickN_lt bl (n := 28) (by omega)
  have hk18 := pickN_lt wh (n := 18) (by omega)
  have hx40 := pickN_lt va (n := 1099511627776) (by omega)
  have HPB : Hid (∀ w1, Calls Tryz.prog 16 #[.int .i64 bl, .int .i64 28] w1 fun e w' => e = .returned (.int .i64 (pickN bl 28 : Nat)) ∧ w' = w1) := fun w1 => pickN_any bl 28 w1 hbl (by omega) (by omega)
  have HPW : Hid (∀ w1, Calls Tryz.prog 16 #[.int .i64 wh, .int .i64 18] w1 fun e w' => e = .returned (.int .i64 (pickN wh 18 : Nat)) ∧ w' = w1) := fun w1 => pickN_any wh 18 w1 hwh (by omega) (by omega)
  have HPV : Hid (∀ w1, Calls Tryz.prog 16 #[.int .i64 va, .int .i64 1099511627776] w1 fun e w' => e = .returned (.int .i64 (pickN va 1099511627776 : Nat)) ∧ w' = w1) := fun w1 => by
    have h0 := pickI_nonneg va 1099511627776 (by omega)
    refine (pick_any va 1099511627776 w1 hva.1 hva.2 (by omega) (by omega)).mono ?_
    rintro e w' ⟨rfl, rfl⟩
    exact ⟨ret_i (by unfold pickN; rw [show ((1099511627776 : Nat) : Int) = 1099511627776 from rfl]; omega), rfl⟩
  obtain ⟨q, hq⟩ : ∃ q : Nat, q = pickN bl 28 := ⟨_, rfl⟩
  obtain ⟨k0, hk0⟩ : ∃ q : Nat, q = pickN wh 18 := ⟨_, rfl⟩
  obtain ⟨x, hx⟩ : ∃ q : Nat, q = pickN va 1099511627776 := ⟨_, rfl⟩
  rw [← hq] at HPB hq28
  rw [← hk0] at HPW hk18
  rw [← hx] at HPV hx40
  clear hq hk0 hx hbl hwh hva
  have HBG : Hid (Calls Tryz.prog 15 #[.int .i64 (5 + (q : Int))] w fun e w' => ∃ sb F, e = .returned (.tuple #[.pointer (some ⟨sb, 0, none⟩), .bool true]) ∧ Story F sb (5 + q) (imgL (5 + q)) (imgL (5 + q)) [] w' ∧ (∀ k, F k → w.heap.size ≤ k) ∧ Fr New w w') := by
    have := begun_any (5 + q) (by omega) (by omega) w
    rwa [show ((5 + q : Nat) : Int) = 5 + (q : Int) by omega] at this
  have HAL : Hid (∀ F sb now (s p : Nat) w1, 1 ≤ s → s ≤ 4 → p < 8 * s → Story F sb (5 + q) (imgL (5 + q)) now [] w1 → (∀ k, F k → w.heap.size ≤ k) → Fr New w w1 → Calls Tryz.prog 23 #[.pointer (some ⟨sb, 0, none⟩), .int .i64 (s : Int), .int .i64 (p : Int)] w1 fun e w' => e = .returned (.bool true) ∧ ∃ now1 F', Story F' sb (5 + q) (imgL (5 + q)) now1 [] w' ∧ (∀ k, F' k → w.heap.size ≤ k) ∧ Fr New w w' ∧ AllocTo now (5 + q) s p now1) := fun F sb now s p w1 h1 h4 h8 hS hF hf => by
    refine (kalloc_any F sb (5 + q) (imgL (5 + q)) now [] s p h1 h4 h8 w1 hS).mono ?_
    rintro e w' ⟨rfl, now1, F', q1, q2, q3, q4⟩
    refine ⟨rfl, now1, F', q1, fun k hk => ?_, hf.trans q2 (fun j hj h => by have := hF j h; omega), q4⟩
    rcases q3 k hk with h | h
    · exact hF k h
    · exact Nat.le_trans hf.size h
  go_enter Tryz.func12, Tryz.ntmps12
  go_upto_region 8 with (first
    | (go_at_call_of 16 (Value.int .i64 28); refine calls_same (HPB.out _) ?_)
    | (go_at_call 15; refine HBG.out.mono ?_; rintro e w1 ⟨sb, F1, rfl, hS1, hF1, hf1⟩)
    | (go_at_call_of 23 (Value.int .i64 2); refine (HAL.out F1 sb _ 2 2 w1 (by omega) (by omega) (by omega) hS1 hF1 hf1).mono ?_; rintro e w2 ⟨rfl, now1, F2, hS2, hF2, hf2, ha2⟩)
    | (go_at_call_of 23 (Value.int .i64 0); refine (HAL.out F2 sb now1 1 0 w2 (by omega) (by omega) (by omega) hS2 hF2 hf2).mono ?_; rintro e w3 ⟨rfl, now2, F3, hS3, hF3, hf3, ha3⟩)
    | (go_at_call 23; refine (HAL.out F3 sb now2 1 1 w3 (by omega) (by omega) (by omega) hS3 hF3 hf3).mono ?_; rintro e w4 ⟨rfl, now3, F4, hS4, hF4, hf4, ha4⟩)
    | fail)
  obtain ⟨hK3, hw3⟩ := kn_alloc (n := 5 + q) (by omega) (by omega) ha2 ha3 ha4
  obtain ⟨hb, tb, cb, mb, g, vs, vn, vk, un, H4⟩ := hS4.half hF4 hf4
  obtain ⟨A, hA⟩ : ∃ A, A = stArr hb (5 + q) vn vk now3 (imgL (5 + q)) := ⟨_, rfl⟩
  rw [← hA] at H4
  have HA : Hid (A[0]? = some (.pointer (some ⟨hb, 0, none⟩))) := by show _ = _; rw [hA]; rfl
  obtain ⟨e1, hK4⟩ := kn_root hK3
  obtain ⟨e2, hK5⟩ := kn_write hK4 0 3 (by omega) (by omega)
  obtain ⟨e3, hK6⟩ := kn_write hK5 1 4 (by omega) (by omega)
  obtain ⟨e4, hK7⟩ := kn_write hK6 5 9 (by omega) (by omega)
  obtain ⟨hfew, hne, hKn⟩ := kn_commit (by omega) (by omega) hw3 hK7
  obtain ⟨nA, hnA⟩ : ∃ x, x = now3.set 4 1 := ⟨_, rfl⟩
  rw [← hnA] at e1 e2 e3 e4 hne hfew hKn hK5 hK6 hK7
  obtain ⟨nB, hnB⟩ : ∃ x, x = nA.set 107 3 := ⟨_, rfl⟩
  have e2' : writeS nA 1 0 3 = (nB, 0) := by rw [hnB]; exact e2
  rw [← hnB] at hne hfew hKn
  obtain ⟨nC, hnC⟩ : ∃ x, x = nB.set 108 4 := ⟨_, rfl⟩
  have e3' : writeS nB 1 1 4 = (nC, 0) := by rw [hnC, hnB]; exact e3
  rw [← hnC] at hne hfew hKn
  obtain ⟨nD, hnD⟩ : ∃ x, x = nC.set 112 9 := ⟨_, rfl⟩
  have e4' : writeS nC 1 5 9 = (nD, 0) := by rw [hnD, hnC, hnB]; exact e4
  rw [← hnD] at hne hfew hKn
  have hw2 : wd nD 2 = wd (imgL (5 + q)) 2 := by
    have := hK7.hw.two
    rw [hnD, hnC, hnB]
    exact this
  obtain ⟨ws, hws⟩ : ∃ x, x = pcommitW (imgL (5 + q)) nD := ⟨_, rfl⟩
  rw [← hws] at hKn
  have HKN : Hid (Kn (5 + q) ws) := hKn
  have HSR : Hid (Calls Tryz.prog 35 #[.pointer (some ⟨hb, 0, none⟩), .int .i64 1, .int .i64 1] w4 fun e w' => e = .returned (.int .i64 0) ∧ Hf w sb hb tb cb mb g (vs) vn un A (imgL (5 + q)) (nA) now3 [] w' ∧ Fr (fun k => k = mb) w4 w') := by
    have := H4.root_ 1 1 (by omega) (by omega)
    rwa [e1] at this
  have HW1 : Hid (∀ w1, Hf w sb hb tb cb mb g (vs) vn un A (imgL (5 + q)) (nA) now3 [] w1 → Calls Tryz.prog 26 #[.pointer (some ⟨hb, 0, none⟩), .int .i64 1, .int .i64 0, .int .u64 3] w1 fun e w' => e = .returned (.int .i64 0) ∧ Hf w sb hb tb cb mb g (vs) vn un A (imgL (5 + q)) (nB) now3 [] w' ∧ Fr (fun k => k = mb) w1 w') := fun w1 h1 => by
    have := h1.write_ 1 0 3 (by omega) (by omega) (by unfold U; omega)
    rwa [e2'] at this
  have HW2 : Hid (∀ w1, Hf w sb hb tb cb mb g (vs) vn un A (imgL (5 + q)) (nB) now3 [] w1 → Calls Tryz.prog 26 #[.pointer (some ⟨hb, 0, none⟩), .int .i64 1, .int .i64 1, .int .u64 4] w1 fun e w' => e = .returned (.int .i64 0) ∧ Hf w sb hb tb cb mb g (vs) vn un A (imgL (5 + q)) (nC) now3 [] w' ∧ Fr (fun k => k = mb) w1 w') := fun w1 h1 => by
    have := h1.write_ 1 1 4 (by omega) (by omega) (by unfold U; omega)
    rwa [e3'] at this
  have HW3 : Hid (∀ w1, Hf w sb hb tb cb mb g (vs) vn un A (imgL (5 + q)) (nC) now3 [] w1 → Calls Tryz.prog 26 #[.pointer (some ⟨hb, 0, none⟩), .int .i64 1, .int .i64 5, .int .u64 9] w1 fun e w' => e = .returned (.int .i64 0) ∧ Hf w sb hb tb cb mb g (vs) vn un A (imgL (5 + q)) (nD) now3 [] w' ∧ Fr (fun k => k = mb) w1 w') := fun w1 h1 => by
    have := h1.write_ 1 5 9 (by omega) (by omega) (by unfold U; omega)
    rwa [e4'] at this
  have HCM : Hid (∀ w1, Hf w sb hb tb cb mb g (vs) vn un A (imgL (5 + q)) (nD) now3 [] w1 → Calls Tryz.prog 24 #[.pointer (some ⟨hb, 0, none⟩)] w1 fun e w' => e = .returned (.int .i64 0) ∧ ∃ vs' st', Hf w sb hb tb cb mb g (vs') vn un A (ws) (ws) now3 st' w') := fun w1 h1 => by
    refine (h1.commit_ hw2 (by simp)).mono ?_
    rintro e w' ⟨c, rfl, ⟨h, _⟩ | ⟨_, h, _⟩ | ⟨_, _, rfl, vs', h1, _⟩⟩
    · exact absurd h hne
    · omega
    · rw [← hws] at h1
      exact ⟨rfl, vs', _, h1⟩
  obtain ⟨L, hL⟩ : ∃ L, L = 106 + 8 * (5 + q) := ⟨_, rfl⟩
  have HL : Hid (ws.length = L) := by show _ = _; rw [hL]; exact hKn.len
  have hL1 : 146 ≤ L := by omega
  have hL2 : L ≤ 362 := by omega
  have HL3 : Hid (106 + 8 * (5 + (q : Int)) = (L : Int)) := by show _ = _; omega
  have HC : Hid (∀ vs' ws' now' sts' w1, Hf w sb hb tb cb mb g (vs') vn un A (ws') (now') now3 sts' w1 → w1.cell? ⟨sb, 0, none⟩ = some (.pointer (some ⟨hb, 0, none⟩)) ∧ sb < w1.heap.size) := fun vs' ws' now' sts' w1 h => ⟨(h.cell 0).trans HA.out, h.lt⟩
  have HIM : Hid (∀ vs' st' w1, Hf w sb hb tb cb mb g (vs') vn un A (ws) (ws) now3 st' w1 → Calls Tryz.prog 21 #[.pointer (some ⟨hb, 0, none⟩)] w1 fun e w' => e = .returned (.slice (some ⟨w1.heap.size, 0, none⟩) L L) ∧ Row w' w1.heap.size ws ∧ Hf w sb hb tb cb mb g (vs') vn un A (ws) (ws) now3 st' w' ∧ Fr New w1 w') := fun vs' st' w1 h => by
    have := h.image_
    rwa [HL.out] at this
  have HCK : Hid (∀ gg im c p w1, im.length = L → CheckIs im c p → Row w1 gg im → Calls Tryz.prog 33 #[.slice (some ⟨gg, 0, none⟩) L L] w1 fun e w' => e = .returned (.tuple #[.int .i64 c, .int .i64 p]) ∧ Fr New w1 w') := fun gg im c p w1 hl hc hr => by
    have := pcheck_any (some ⟨gg, 0, none⟩) L im w1 (by omega) (Row.rowU hr)
    rw [hl] at this
    refine this.mono ?_
    rintro e w' ⟨c', p', rfl, hc', hf⟩
    obtain ⟨e1, e2⟩ := told_one hc' hc
    subst e1 e2
    exact ⟨rfl, hf⟩
  obtain ⟨c0, cl⟩ := HC.out _ _ _ _ w4 H4
  clear hL hA hS1 hS2 hS3 hS4 hF1 hF2 hF3 hF4 hf1 hf2 hf3 hf4 ha2 ha3 ha4 hK3 hw3 H4 hK4 hK5 hK6 hK7 e1 e2 e3 e4 e2' e3' e4' hfew hne hKn hnA hnB hnC hnD hw2 hws HBG HAL
  go_upto_region 10 with (first
    | (go_at_call 35; refine HSR.out.mono ?_; rintro e w5 ⟨rfl, H5, hf5⟩; obtain ⟨a50, a5l⟩ := HC.out _ _ _ _ w5 H5)
    | (go_at_call_of 26 (Value.int .u64 3); refine (HW1.out w5 H5).mono ?_; rintro e w6 ⟨rfl, H6, hf6⟩; obtain ⟨a60, a6l⟩ := HC.out _ _ _ _ w6 H6)
    | (go_at_call_of 26 (Value.int .u64 4); refine (HW2.out w6 H6).mono ?_; rintro e w7 ⟨rfl, H7, hf7⟩; obtain ⟨a70, a7l⟩ := HC.out _ _ _ _ w7 H7)
    | (go_at_call_of 26 (Value.int .u64 9); refine (HW3.out w7 H7).mono ?_; rintro e w8 ⟨rfl, H8, hf8⟩; obtain ⟨a80, a8l⟩ := HC.out _ _ _ _ w8 H8)
    | (go_at_call 24; refine (HCM.out w8 H8).mono ?_; rintro e w9 ⟨rfl, vs9, st9, H9⟩; obtain ⟨a90, a9l⟩ := HC.out _ _ _ _ w9 H9)
    | fail)
  clear H5 H6 H7 H8 hf5 hf6 hf7 hf8 a50 a5l a60 a6l a70 a7l a80 a8l c0 cl HSR HW1 HW2 HW3 HCM
  go_upto_region 14 with (first
    | (go_at_call 16; refine calls_same (HPV.out _) ?_)
    | fail)
  have HW10 : Hid (Fr New w9 (((w9.alloc (.cells #[.int .i64 0, .int .i64 1, .int .i64 2, .int .i64 3, .int .i64 5, .int .i64 7, .int .i64 8, .int .i64 106, .int .i64 122, .int .i64 130, .int .i64 107, .int .i64 108, .int .i64 131, .int .i64 4, .int .i64 9, .int .i64 12, .int .i64 116, .int .i64 146] 3)).alloc (.cells #[.int .i64 3, .int .i64 3, .int .i64 3, .int .i64 3, .int .i64 3, .int .i64 3, .int .i64 4, .int .i64 5, .int .i64 5, .int .i64 5, .int .i64 7, .int .i64 7, .int .i64 7, .int .i64 3, .int .i64 0, .int .i64 0, .int .i64 0, .int .i64 0] 40)).alloc (.cells #[.int .i64 0, .int .i64 1, .int .i64 7, .int .i64 7, .int .i64 7, .int .i64 7, .int .i64 8, .int .i64 106, .int .i64 122, .int .i64 130, .int .i64 107, .int .i64 108, .int .i64 131, .int .i64 7, .int .i64 0, .int .i64 0, .int .i64 0, .int .i64 0] 3))) := (((Fr.refl New w9).alloc _).alloc _).alloc _
  have HT0 : Hid ((((w9.alloc (.cells #[.int .i64 0, .int .i64 1, .int .i64 2, .int .i64 3, .int .i64 5, .int .i64 7, .int .i64 8, .int .i64 106, .int .i64 122, .int .i64 130, .int .i64 107, .int .i64 108, .int .i64 131, .int .i64 4, .int .i64 9, .int .i64 12, .int .i64 116, .int .i64 146] 3)).alloc (.cells #[.int .i64 3, .int .i64 3, .int .i64 3, .int .i64 3, .int .i64 3, .int .i64 3, .int .i64 4, .int .i64 5, .int .i64 5, .int .i64 5, .int .i64 7, .int .i64 7, .int .i64 7, .int .i64 3, .int .i64 0, .int .i64 0, .int .i64 0, .int .i64 0] 40)).alloc (.cells #[.int .i64 0, .int .i64 1, .int .i64 7, .int .i64 7, .int .i64 7, .int .i64 7, .int .i64 8, .int .i64 106, .int .i64 122, .int .i64 130, .int .i64 107, .int .i64 108, .int .i64 131, .int .i64 7, .int .i64 0, .int .i64 0, .int .i64 0, .int .i64 0] 3)).heap[w9.heap.size]? = some (.cells #[.int .i64 0, .int .i64 1, .int .i64 2, .int .i64 3, .int .i64 5, .int .i64 7, .int .i64 8, .int .i64 106, .int .i64 122, .int .i64 130, .int .i64 107, .int .i64 108, .int .i64 131, .int .i64 4, .int .i64 9, .int .i64 12, .int .i64 116, .int .i64 146] 3 (0, 0)) ∧ (((w9.alloc (.cells #[.int .i64 0, .int .i64 1, .int .i64 2, .int .i64 3, .int .i64 5, .int .i64 7, .int .i64 8, .int .i64 106, .int .i64 122, .int .i64 130, .int .i64 107, .int .i64 108, .int .i64 131, .int .i64 4, .int .i64 9, .int .i64 12, .int .i64 116, .int .i64 146] 3)).alloc (.cells #[.int .i64 3, .int .i64 3, .int .i64 3, .int .i64 3, .int .i64 3, .int .i64 3, .int .i64 4, .int .i64 5, .int .i64 5, .int .i64 5, .int .i64 7, .int .i64 7, .int .i64 7, .int .i64 3, .int .i64 0, .int .i64 0, .int .i64 0, .int .i64 0] 40)).alloc (.cells #[.int .i64 0, .int .i64 1, .int .i64 7, .int .i64 7, .int .i64 7, .int .i64 7, .int .i64 8, .int .i64 106, .int .i64 122, .int .i64 130, .int .i64 107, .int .i64 108, .int .i64 131, .int .i64 7, .int .i64 0, .int .i64 0, .int .i64 0, .int .i64 0] 3)).heap[w9.heap.size + 1]? = some (.cells #[.int .i64 3, .int .i64 3, .int .i64 3, .int .i64 3, .int .i64 3, .int .i64 3, .int .i64 4, .int .i64 5, .int .i64 5, .int .i64 5, .int .i64 7, .int .i64 7, .int .i64 7, .int .i64 3, .int .i64 0, .int .i64 0, .int .i64 0, .int .i64 0] 40 (0, 0)) ∧ (((w9.alloc (.cells #[.int .i64 0, .int .i64 1, .int .i64 2, .int .i64 3, .int .i64 5, .int .i64 7, .int .i64 8, .int .i64 106, .int .i64 122, .int .i64 130, .int .i64 107, .int .i64 108, .int .i64 131, .int .i64 4, .int .i64 9, .int .i64 12, .int .i64 116, .int .i64 146] 3)).alloc (.cells #[.int .i64 3, .int .i64 3, .int .i64 3, .int .i64 3, .int .i64 3, .int .i64 3, .int .i64 4, .int .i64 5, .int .i64 5, .int .i64 5, .int .i64 7, .int .i64 7, .int .i64 7, .int .i64 3, .int .i64 0, .int .i64 0, .int .i64 0, .int .i64 0] 40)).alloc (.cells #[.int .i64 0, .int .i64 1, .int .i64 7, .int .i64 7, .int .i64 7, .int .i64 7, .int .i64 8, .int .i64 106, .int .i64 122, .int .i64 130, .int .i64 107, .int .i64 108, .int .i64 131, .int .i64 7, .int .i64 0, .int .i64 0, .int .i64 0, .int .i64 0] 3)).heap[w9.heap.size + 1 + 1]? = some (.cells #[.int .i64 0, .int .i64 1, .int .i64 7, .int .i64 7, .int .i64 7, .int .i64 7, .int .i64 8, .int .i64 106, .int .i64 122, .int .i64 130, .int .i64 107, .int .i64 108, .int .i64 131, .int .i64 7, .int .i64 0, .int .i64 0, .int .i64 0, .int .i64 0] 3 (0, 0))) := by
    refine ⟨(((Fr.refl New _).alloc _).alloc _).heap (Go.Deep.blk_alloc_new w9 _) id, ((Fr.refl New _).alloc _).heap ?_ id, ?_⟩
    · have := Go.Deep.blk_alloc_new (w9.alloc (.cells #[.int .i64 0, .int .i64 1, .int .i64 2, .int .i64 3, .int .i64 5, .int .i64 7, .int .i64 8, .int .i64 106, .int .i64 122, .int .i64 130, .int .i64 107, .int .i64 108, .int .i64 131, .int .i64 4, .int .i64 9, .int .i64 12, .int .i64 116, .int .i64 146] 3)) (.cells #[.int .i64 3, .int .i64 3, .int .i64 3, .int .i64 3, .int .i64 3, .int .i64 3, .int .i64 4, .int .i64 5, .int .i64 5, .int .i64 5, .int .i64 7, .int .i64 7, .int .i64 7, .int .i64 3, .int .i64 0, .int .i64 0, .int .i64 0, .int .i64 0] 40)
      rwa [World.size_alloc] at this
    · have := Go.Deep.blk_alloc_new ((w9.alloc (.cells #[.int .i64 0, .int .i64 1, .int .i64 2, .int .i64 3, .int .i64 5, .int .i64 7, .int .i64 8, .int .i64 106, .int .i64 122, .int .i64 130, .int .i64 107, .int .i64 108, .int .i64 131, .int .i64 4, .int .i64 9, .int .i64 12, .int .i64 116, .int .i64 146] 3)).alloc (.cells #[.int .i64 3, .int .i64 3, .int .i64 3, .int .i64 3, .int .i64 3, .int .i64 3, .int .i64 4, .int .i64 5, .int .i64 5, .int .i64 5, .int .i64 7, .int .i64 7, .int .i64 7, .int .i64 3, .int .i64 0, .int .i64 0, .int .i64 0, .int .i64 0] 40)) (.cells #[.int .i64 0, .int .i64 1, .int .i64 7, .int .i64 7, .int .i64 7, .int .i64 7, .int .i64 8, .int .i64 106, .int .i64 122, .int .i64 130, .int .i64 107, .int .i64 108, .int .i64 131, .int .i64 7, .int .i64 0, .int .i64 0, .int .i64 0, .int .i64 0] 3)
      rwa [World.size_alloc, World.size_alloc] at this
  obtain ⟨w10, hw10⟩ : ∃ x, x = ((w9.alloc (.cells #[.int .i64 0, .int .i64 1, .int .i64 2, .int .i64 3, .int .i64 5, .int .i64 7, .int .i64 8, .int .i64 106, .int .i64 122, .int .i64 130, .int .i64 107, .int .i64 108, .int .i64 131, .int .i64 4, .int .i64 9, .int .i64 12, .int .i64 116, .int .i64 146] 3)).alloc (.cells #[.int .i64 3, .int .i64 3, .int .i64 3, .int .i64 3, .int .i64 3, .int .i64 3, .int .i64 4, .int .i64 5, .int .i64 5, .int .i64 5, .int .i64 7, .int .i64 7, .int .i64 7, .int .i64 3, .int .i64 0, .int .i64 0, .int .i64 0, .int .i64 0] 40)).alloc (.cells #[.int .i64 0, .int .i64 1, .int .i64 7, .int .i64 7, .int .i64 7, .int .i64 7, .int .i64 8, .int .i64 106, .int .i64 122, .int .i64 130, .int .i64 107, .int .i64 108, .int .i64 131, .int .i64 7, .int .i64 0, .int .i64 0, .int .i64 0, .int .i64 0] 3) := ⟨_, rfl⟩
  obtain ⟨gp, hgp⟩ : ∃ x, x = w9.heap.size := ⟨_, rfl⟩
  rw [← hw10, ← hgp] at HT0
  rw [← hw10] at HW10
  rw [← hw10, ← hgp]
  have HTAB : Hid (∀ w1, Fr New w10 w1 → ∀ k, k < 18 → w1.cell? ⟨gp, k, none⟩ = some (.int .i64 (kP k)) ∧ w1.cell? ⟨gp + 1, k, none⟩ = some (.int .i64 (kE k)) ∧ w1.cell? ⟨gp + 1 + 1, k, none⟩ = some (.int .i64 (kA k))) := fun w1 hf k hk => by
    obtain ⟨t1, t2, t3⟩ := HT0.out
    have u1 := (block_cells (hf.heap t1 id)).1 k
    have u2 := (block_cells (hf.heap t2 id)).1 k
    have u3 := (block_cells (hf.heap t3 id)).1 k
    rw [u1, u2, u3]
    exact ktab hk
  have H10 : Hid (Hf w sb hb tb cb mb g (vs9) vn un A (ws) (ws) now3 st9 w10) := H9.new HW10.out
  have HU : Hid (∀ z ∈ ws, U z) := H9.ph.uw
  have HCELL : Hid (∀ gg (im : List Int) w1 k, k < L → im.length = L → Row w1 gg im → w1.cell? ⟨gg, k, none⟩ = some (.int .u64 (wd im k))) := fun gg im w1 k hk hl hr => by
    rw [hr.cell k (by omega)]
    simp [wd, List.getD, hl, hk]
  have HSUM : Hid (∀ gg (im : List Int) w1, im.length = L → Row w1 gg im → Calls Tryz.prog 36 #[.slice (some ⟨gg, 0, none⟩) 7 L] w1 fun e w' => e = .returned (.int .u64 (sumL (im.take 7))) ∧ w' = w1) := fun gg im w1 hl hr => by
    exact sum_any (some ⟨gg, 0, none⟩) 7 L (im.take 7) w1 (by simp; omega) (by unfold maxLen; omega) (rowU_take (Row.rowU hr) 7)
  have HOK : Hid (∀ gg (im : List Int) w1, im.length = L → OpenOk im → (∀ z ∈ im, U z) → Row w1 gg im → Calls Tryz.prog 20 #[.slice (some ⟨gg, 0, none⟩) L L] w1 fun e w' => ∃ hb, e = .returned (.tuple #[.pointer (some ⟨hb, 0, none⟩), .int .i64 0]) ∧ Fr New w1 w') := fun gg im w1 hl ho hu hr => by
    have := open_kept gg L im _ w1 (Row.rowU hr) hu ho rfl
    rw [hl] at this
    refine this.mono ?_
    rintro e w' ⟨hb, tb, cb, mb, g, vs, rfl, hp, hq, hf⟩
    exact ⟨hb, rfl, hf⟩
  have HER : Hid (∀ gg (im : List Int) c w1, im.length = L → OpenErr im c → (∀ z ∈ im, U z) → Row w1 gg im → Calls Tryz.prog 20 #[.slice (some ⟨gg, 0, none⟩) L L] w1 fun e w' => e = .returned (.tuple #[.pointer none, .int .i64 c]) ∧ Fr New w1 w') := fun gg im c w1 hl ho hu hr => by
    have := popen_any (some ⟨gg, 0, none⟩) L im w1 (by omega) hu (Row.rowU hr)
    rw [hl] at this
    refine this.mono ?_
    rintro e w' ⟨v, c', rfl, hto, hf⟩
    rcases hto with ⟨h1, rfl⟩ | ⟨h1, _⟩
    · rw [open_err_one h1 ho]
      exact ⟨rfl, hf⟩
    · exact (open_not ho h1).elim
  have HRP : Hid (∀ gg (im : List Int) w1, im.length = L → (∀ r e, RepairIs im r e → e = 0 ∧ wd r 106 = 0 ∧ wd r 114 = 0 ∧ wd r 122 = 0 ∧ wd r 130 = 1000101 ∧ wd r 4 = 4) → (∀ z ∈ im, U z) → Row w1 gg im → Calls Tryz.prog 32 #[.slice (some ⟨gg, 0, none⟩) L L] w1 fun e w' => e = .returned (.tuple #[.slice (some ⟨w1.heap.size, 0, none⟩) L L, .int .i64 0]) ∧ Fr New w1 w' ∧ w'.cell? ⟨w1.heap.size, 106, none⟩ = some (.int .u64 0) ∧ w'.cell? ⟨w1.heap.size, 114, none⟩ = some (.int .u64 0) ∧ w'.cell? ⟨w1.heap.size, 122, none⟩ = some (.int .u64 0) ∧ w'.cell? ⟨w1.heap.size, 130, none⟩ = some (.int .u64 1000101) ∧ w'.cell? ⟨w1.heap.size, 4, none⟩ = some (.int .u64 4) ∧ w1.heap.size < w'.heap.size) := fun gg im w1 hl hm hu hr => by
    have := prepair_any (some ⟨gg, 0, none⟩) L im w1 (by omega) hu (Row.rowU hr)
    rw [hl] at this
    refine this.mono ?_
    rintro e w' ⟨v, r, c, rfl, hR, hc, hf⟩
    obtain ⟨h0, m1, m2, m3, m4, m5⟩ := hm r c hR
    subst h0
    rcases hc with ⟨h, _⟩ | ⟨_, rfl, hrow, hlr⟩
    · exact absurd rfl h
    · refine ⟨rfl, hf, ?_, ?_, ?_, ?_, ?_, hrow.lt⟩
      · rw [HCELL.out _ r w' 106 (by omega) hlr hrow, m1]
      · rw [HCELL.out _ r w' 114 (by omega) hlr hrow, m2]
      · rw [HCELL.out _ r w' 122 (by omega) hlr hrow, m3]
      · rw [HCELL.out _ r w' 130 (by omega) hlr hrow, m4]
      · rw [HCELL.out _ r w' 4 (by omega) hlr hrow, m5]
  have hwhole : CheckIs ws 0 0 := HKN.out.self.whole rfl rfl rfl rfl
  have HCK0 : Hid (∀ gg w1, Row w1 gg ws → Calls Tryz.prog 33 #[.slice (some ⟨gg, 0, none⟩) L L] w1 fun e w' => e = .returned (.tuple #[.int .i64 0, .int .i64 0]) ∧ Fr New w1 w') := fun gg w1 hr => HCK.out gg ws 0 0 w1 HL.out hwhole hr
  clear hwhole
  have hd5 := HKN.out.self.reroot 5
  have hd4 := hd5.reroot 4
  have HK2 : Hid (CheckIs ((ws.set 4 5).set 7 (sumL ((ws.set 4 5).take 7))) 6 4) := hd5.noRoot (by omega) (by decide)
  have HK3 : Hid (CheckIs ((((ws.set 4 5).set 7 (sumL ((ws.set 4 5).take 7))).set 4 4).set 7 (sumL ((((ws.set 4 5).set 7 (sumL ((ws.set 4 5).take 7))).set 4 4).take 7))) 8 106 ∧ OpenOk ((((ws.set 4 5).set 7 (sumL ((ws.set 4 5).take 7))).set 4 4).set 7 (sumL ((((ws.set 4 5).set 7 (sumL ((ws.set 4 5).take 7))).set 4 4).take 7))) ∧ (∀ r e, RepairIs ((((ws.set 4 5).set 7 (sumL ((ws.set 4 5).take 7))).set 4 4).set 7 (sumL ((((ws.set 4 5).set 7 (sumL ((ws.set 4 5).take 7))).set 4 4).take 7))) r e → e = 0 ∧ wd r 106 = 0 ∧ wd r 114 = 0 ∧ wd r 122 = 0 ∧ wd r 130 = 1000101 ∧ wd r 4 = 4) ∧ ∀ z ∈ ((((ws.set 4 5).set 7 (sumL ((ws.set 4 5).take 7))).set 4 4).set 7 (sumL ((((ws.set 4 5).set 7 (sumL ((ws.set 4 5).take 7))).set 4 4).take 7))), U z) := by
    have hlk := hd4.leak rfl rfl rfl rfl
    refine ⟨hlk, (open_check (by rw [hd4.n0]; omega) hd4.log hlk).1 (.inr rfl), fun r e hr => hd4.mended rfl rfl rfl rfl ?_ hr, set_U (set_U (set_U (set_U HU.out (by unfold U; omega)) (sumL_U _)) (by unfold U; omega)) (sumL_U _)⟩
    have hl := HL.out
    rw [wd_set (by simp; omega), if_neg (by omega), wd_set (by simp; omega), if_neg (by omega), wd_set (by simp; omega), if_neg (by omega), wd_set (by omega), if_neg (by omega), HKN.out.ww 130 (by omega)]
    simp [kw]
  obtain ⟨a10, l10⟩ := HC.out _ _ _ _ w10 H10.out
  have m2 : IntKind.i64.wrap (106 + ((L : Int) - 106)) = (L : Int) := by rw [IntKind.wrap_i64]; omega
  clear hw10 hgp HT0 HW10 hd5 hd4 H9 a90 a9l HPV HPB
  go_upto_region 16 with (first
    | (go_at_call 16; refine calls_same (HPW.out _) ?_)
    | fail)
  rw [HL3.out]
  go_upto_region 20 with (first
    | (go_at_call 21; refine (HIM.out _ _ w10 H10.out).mono ?_; rintro e w11 ⟨rfl, hR11, _, hf11⟩)
    | (go_at_call 33; refine (HCK0.out w10.heap.size w11 hR11).mono ?_; rintro e w12 ⟨rfl, hf12⟩; have hR12 : Row w12 w10.heap.size ws := hf12.heap hR11 id; have f12 : Fr New w10 w12 := hf11.same hf12)
    | fail)
  obtain ⟨gI, hgI⟩ : ∃ gI, gI = w10.heap.size := ⟨_, rfl⟩
  rw [← hgI] at hR12
  rw [← hgI]
  have hIl : gI < w12.heap.size := hR12.lt
  have i7 := HCELL.out gI ws w12 7 (by omega) HL.out hR12
  obtain ⟨p1, p2, p3⟩ := HTAB.out w12 f12 k0 hk18
  obtain ⟨o1, o2, o3⟩ := HTAB.out w12 f12 0 (by omega)
  have HNX : Hid (∀ k v, k < 18 → kP k < L → v = (if k = 17 then 0 else if k = 5 then bits .xor .u64 (1000000000 + (x : Int)) (wd ws 7) else 1000000000 + (x : Int)) → CheckIs (ws.set (kP k) v) (kE k) (kA k) ∧ ((kE k = 0 → OpenOk (ws.set (kP k) v)) ∧ (kE k ≠ 0 → OpenErr (ws.set (kP k) v) (kE k))) ∧ (∀ z ∈ ws.set (kP k) v, U z) ∧ Row (w12.setCell ⟨gI, kP k, none⟩ (.int .u64 v)) gI (ws.set (kP k) v) ∧ Fr New w10 (w12.setCell ⟨gI, kP k, none⟩ (.int .u64 v))) := fun k v hk hp hv => by
    have hl := HL.out
    have hUv : U v := by
      rw [hv]
      split
      · unfold U; omega
      · split
        · exact xor_U (by unfold U; omega) (Kn.wdU HU.out 7)
        · unfold U; omega
    exact ⟨HKN.out.spoilt HU.out hk (by omega) (by omega) (by omega) hv, HKN.out.spoiltOpen HU.out hk (by omega) (by omega) (by omega) hv, set_U HU.out hUv, hR12.set _ _, f12.setCell (p := ⟨gI, kP k, none⟩) (fun h => absurd h (by simp only; omega)) _⟩
  have HFZ : Hid (∀ k, w12.frozen? ⟨gI, k, none⟩ = false) := fun k => hR12.free k
  have HCI : Hid (∀ k, k < L → w12.cell? ⟨gI, k, none⟩ = some (.int .u64 (wd ws k))) := fun k hk => HCELL.out gI ws w12 k hk HL.out hR12
  have HF12 : Hid (Fr New w10 w12) := f12
  clear hR11 hf11 hf12 hR12 f12 hgI
  have bk0 : (0 : Int) ≤ (k0 : Int) := by omega
  have bk1 : (k0 : Int) < 18 := by omega
  by_cases hp : kP k0 < L
  · have hg : decide ((L : Int) ≤ (kP k0 : Int)) = false := by simp; omega
    have bp0 : (0 : Int) ≤ (kP k0 : Int) := by omega
    have bp1 : (kP k0 : Int) < (L : Int) := by omega
    have ci := HCI.out (kP k0) hp
    have fi := HFZ.out (kP k0)
    by_cases h17 : k0 = 17
    · have g1 : ((k0 : Int) == 17) = true := by simp; omega
      have g2 : ((kP k0 : Int) == 7) = false := by rw [h17]; decide
      have H17 : Hid (k0 = 17) := h17
      clear h17
      go_upto_region 27 with fail
      obtain ⟨hS1, hS2, hS3, hS4, hS5⟩ := HNX.out k0 (0) hk18 hp (by rw [if_pos H17.out])
      have HSP : Hid (CheckIs (ws.set (kP k0) (0)) (kE k0) (kA k0)) := hS1
      have HSO : Hid ((kE k0 = 0 → OpenOk (ws.set (kP k0) (0))) ∧ (kE k0 ≠ 0 → OpenErr (ws.set (kP k0) (0)) (kE k0))) := hS2
      have HUV : Hid (∀ z ∈ ws.set (kP k0) (0), U z) := hS3
      obtain ⟨w13, hw13⟩ : ∃ w13, w13 = w12.setCell ⟨gI, kP k0, none⟩ (.int .u64 (0)) := ⟨_, rfl⟩
      rw [← hw13] at hS4 hS5
      rw [← hw13]
      have HR13 : Hid (Row w13 gI (ws.set (kP k0) (0))) := hS4
      have HF13 : Hid (Fr New w10 w13) := hS5
      have hkk : k0 < 18 := hk18
      clear hS1 hS2 hS3 hS4 hS5 hw13 p1 p2 p3 o1 o2 o3 i7 HNX HFZ HCI hIl HF12 ci fi
      by_cases hz : kE k0 = 0
      · have hz2 : (kE k0 == 0) = true := by simpa using hz
        have hz3 : (kE k0 != 0) = false := by simpa using hz
        go_upto_region 31 with (first
          | (go_at_call 33; refine (HCK.out gI (ws.set (kP k0) (0)) (kE k0) (kA k0) w13 (by rw [List.length_set]; exact HL.out) HSP.out HR13.out).mono ?_; rintro e w14 ⟨rfl, hf14⟩; have hR14 : Row w14 gI (ws.set (kP k0) (0)) := hf14.heap HR13.out id; have f14 : Fr New w10 w14 := HF13.out.same hf14; obtain ⟨q1, q2, q3⟩ := HTAB.out w14 f14 k0 hkk)
          | (go_at_call 20; refine (HOK.out gI (ws.set (kP k0) (0)) w14 (by rw [List.length_set]; exact HL.out) (HSO.out.1 hz) HUV.out hR14).mono ?_; rintro e w15 ⟨hb3, rfl, hf15⟩; have f15 := f14.same hf15; obtain ⟨q4, q5, q6⟩ := HTAB.out w15 f15 k0 hkk; obtain ⟨a15, l15⟩ := HC.out _ _ _ _ w15 (H10.out.new f15))
          | fail)
        go_wp2_with (first
          | (go_at_call 21; refine (HIM.out _ _ w15 (H10.out.new f15)).mono ?_; rintro e w16 ⟨rfl, hR16, _, hf16⟩; have f16 := f15.same hf16; have hJ10 : w10.heap.size ≤ w15.heap.size := f15.size; have hJl : w15.heap.size < w16.heap.size := hR16.lt; have j4 := HCELL.out w15.heap.size ws w16 4 (by omega) HL.out hR16; have j7 := HCELL.out w15.heap.size ws w16 7 (by omega) HL.out hR16; have z4 := hR16.free 4; have z7 := hR16.free 7)
          | (go_at_call 36; refine calls_same (HSUM.out w15.heap.size (im2.set 4 4) (w18.setCell ⟨w15.heap.size, 4, none⟩ (.int .u64 4)) (by rw [List.length_set]; exact hl2) (hR18.set 4 4)) ?_)
          | (go_at_call 36; refine calls_same (HSUM.out w15.heap.size (ws.set 4 5) (w16.setCell ⟨w15.heap.size, 4, none⟩ (.int .u64 5)) (by rw [List.length_set]; exact HL.out) (hR16.set 4 5)) ?_)
          | (go_at_call 33; refine (HCK.out w15.heap.size ((im2.set 4 4).set 7 (sumL ((im2.set 4 4).take 7))) 8 106 _ (by rw [List.length_set, List.length_set]; exact hl2) HI3.1 ((hR18.set 4 4).set 7 _)).mono ?_; rintro e w20 ⟨rfl, hf20⟩; have hR20 : Row w20 w15.heap.size ((im2.set 4 4).set 7 (sumL ((im2.set 4 4).take 7))) := hf20.heap ((hR18.set 4 4).set 7 (sumL ((im2.set 4 4).take 7))) id; have f20 : Fr New w10 w20 := ((f18.setCell (p := ⟨w15.heap.size, 4, none⟩) (fun h => absurd h (by simp only; omega)) _).setCell (p := ⟨w15.heap.size, 7, none⟩) (fun h => absurd h (by simp only; omega)) _).same hf20; have hl3 : ((im2.set 4 4).set 7 (sumL ((im2.set 4 4).take 7))).length = L := (by rw [List.length_set, List.length_set]; exact hl2))
          | (go_at_call 33; refine (HCK.out w15.heap.size ((ws.set 4 5).set 7 (sumL ((ws.set 4 5).take 7))) 6 4 _ (by rw [List.length_set, List.length_set]; exact HL.out) HK2.out ((hR16.set 4 5).set 7 _)).mono ?_; rintro e w18 ⟨rfl, hf18⟩; have hR18 : Row w18 w15.heap.size ((ws.set 4 5).set 7 (sumL ((ws.set 4 5).take 7))) := hf18.heap ((hR16.set 4 5).set 7 (sumL ((ws.set 4 5).take 7))) id; have f18 : Fr New w10 w18 := ((f16.setCell (p := ⟨w15.heap.size, 4, none⟩) (fun h => absurd h (by simp only; omega)) _).setCell (p := ⟨w15.heap.size, 7, none⟩) (fun h => absurd h (by simp only; omega)) _).same hf18; have HI3 := HK3.out; obtain ⟨im2, him2⟩ : ∃ x, x = (ws.set 4 5).set 7 (sumL ((ws.set 4 5).take 7)) := ⟨_, rfl⟩; rw [← him2] at hR18 HI3; have hl2 : im2.length = L := (by rw [him2, List.length_set, List.length_set]; exact HL.out); have hM18 : w15.heap.size < w18.heap.size := hR18.lt; have m4 := HCELL.out w15.heap.size im2 w18 4 (by omega) hl2 hR18; have m7 := HCELL.out w15.heap.size im2 w18 7 (by omega) hl2 hR18; have y4 := hR18.free 4; have y7 := hR18.free 7; clear him2 hf18)
          | (go_at_call 20; refine (HOK.out w15.heap.size ((im2.set 4 4).set 7 (sumL ((im2.set 4 4).take 7))) w20 hl3 HI3.2.1 HI3.2.2.2 hR20).mono ?_; rintro e w21 ⟨hb2, rfl, hf21⟩; have hR21 : Row w21 w15.heap.size ((im2.set 4 4).set 7 (sumL ((im2.set 4 4).take 7))) := hf21.heap hR20 id; have f21 := f20.same hf21)
          | (go_at_call 32; refine (HRP.out w15.heap.size ((im2.set 4 4).set 7 (sumL ((im2.set 4 4).take 7))) w21 hl3 HI3.2.2.1 HI3.2.2.2 hR21).mono ?_; rintro e w22 ⟨rfl, hf22, n106, n114, n122, n130, n4, n22⟩; have f22 := f21.same hf22)
          | fail)
        go_ret
        exact ⟨rfl, H10.out.f.same f22⟩
      · have hz2 : (kE k0 == 0) = false := by simpa using hz
        have hz3 : (kE k0 != 0) = true := by simpa using hz
        go_upto_region 31 with (first
          | (go_at_call 33; refine (HCK.out gI (ws.set (kP k0) (0)) (kE k0) (kA k0) w13 (by rw [List.length_set]; exact HL.out) HSP.out HR13.out).mono ?_; rintro e w14 ⟨rfl, hf14⟩; have hR14 : Row w14 gI (ws.set (kP k0) (0)) := hf14.heap HR13.out id; have f14 : Fr New w10 w14 := HF13.out.same hf14; obtain ⟨q1, q2, q3⟩ := HTAB.out w14 f14 k0 hkk)
          | (go_at_call 20; refine (HER.out gI (ws.set (kP k0) (0)) (kE k0) w14 (by rw [List.length_set]; exact HL.out) (HSO.out.2 hz) HUV.out hR14).mono ?_; rintro e w15 ⟨rfl, hf15⟩; have f15 := f14.same hf15; obtain ⟨q4, q5, q6⟩ := HTAB.out w15 f15 k0 hkk; obtain ⟨a15, l15⟩ := HC.out _ _ _ _ w15 (H10.out.new f15))
          | fail)
        go_wp2_with (first
          | (go_at_call 21; refine (HIM.out _ _ w15 (H10.out.new f15)).mono ?_; rintro e w16 ⟨rfl, hR16, _, hf16⟩; have f16 := f15.same hf16; have hJ10 : w10.heap.size ≤ w15.heap.size := f15.size; have hJl : w15.heap.size < w16.heap.size := hR16.lt; have j4 := HCELL.out w15.heap.size ws w16 4 (by omega) HL.out hR16; have j7 := HCELL.out w15.heap.size ws w16 7 (by omega) HL.out hR16; have z4 := hR16.free 4; have z7 := hR16.free 7)
          | (go_at_call 36; refine calls_same (HSUM.out w15.heap.size (im2.set 4 4) (w18.setCell ⟨w15.heap.size, 4, none⟩ (.int .u64 4)) (by rw [List.length_set]; exact hl2) (hR18.set 4 4)) ?_)
          | (go_at_call 36; refine calls_same (HSUM.out w15.heap.size (ws.set 4 5) (w16.setCell ⟨w15.heap.size, 4, none⟩ (.int .u64 5)) (by rw [List.length_set]; exact HL.out) (hR16.set 4 5)) ?_)
          | (go_at_call 33; refine (HCK.out w15.heap.size ((im2.set 4 4).set 7 (sumL ((im2.set 4 4).take 7))) 8 106 _ (by rw [List.length_set, List.length_set]; exact hl2) HI3.1 ((hR18.set 4 4).set 7 _)).mono ?_; rintro e w20 ⟨rfl, hf20⟩; have hR20 : Row w20 w15.heap.size ((im2.set 4 4).set 7 (sumL ((im2.set 4 4).take 7))) := hf20.heap ((hR18.set 4 4).set 7 (sumL ((im2.set 4 4).take 7))) id; have f20 : Fr New w10 w20 := ((f18.setCell (p := ⟨w15.heap.size, 4, none⟩) (fun h => absurd h (by simp only; omega)) _).setCell (p := ⟨w15.heap.size, 7, none⟩) (fun h => absurd h (by simp only; omega)) _).same hf20; have hl3 : ((im2.set 4 4).set 7 (sumL ((im2.set 4 4).take 7))).length = L := (by rw [List.length_set, List.length_set]; exact hl2))
          | (go_at_call 33; refine (HCK.out w15.heap.size ((ws.set 4 5).set 7 (sumL ((ws.set 4 5).take 7))) 6 4 _ (by rw [List.length_set, List.length_set]; exact HL.out) HK2.out ((hR16.set 4 5).set 7 _)).mono ?_; rintro e w18 ⟨rfl, hf18⟩; have hR18 : Row w18 w15.heap.size ((ws.set 4 5).set 7 (sumL ((ws.set 4 5).take 7))) := hf18.heap ((hR16.set 4 5).set 7 (sumL ((ws.set 4 5).take 7))) id; have f18 : Fr New w10 w18 := ((f16.setCell (p := ⟨w15.heap.size, 4, none⟩) (fun h => absurd h (by simp only; omega)) _).setCell (p := ⟨w15.heap.size, 7, none⟩) (fun h => absurd h (by simp only; omega)) _).same hf18; have HI3 := HK3.out; obtain ⟨im2, him2⟩ : ∃ x, x = (ws.set 4 5).set 7 (sumL ((ws.set 4 5).take 7)) := ⟨_, rfl⟩; rw [← him2] at hR18 HI3; have hl2 : im2.length = L := (by rw [him2, List.length_set, List.length_set]; exact HL.out); have hM18 : w15.heap.size < w18.heap.size := hR18.lt; have m4 := HCELL.out w15.heap.size im2 w18 4 (by omega) hl2 hR18; have m7 := HCELL.out w15.heap.size im2 w18 7 (by omega) hl2 hR18; have y4 := hR18.free 4; have y7 := hR18.free 7; clear him2 hf18)
          | (go_at_call 20; refine (HOK.out w15.heap.size ((im2.set 4 4).set 7 (sumL ((im2.set 4 4).take 7))) w20 hl3 HI3.2.1 HI3.2.2.2 hR20).mono ?_; rintro e w21 ⟨hb2, rfl, hf21⟩; have hR21 : Row w21 w15.heap.size ((im2.set 4 4).set 7 (sumL ((im2.set 4 4).take 7))) := hf21.heap hR20 id; have f21 := f20.same hf21)
          | (go_at_call 32; refine (HRP.out w15.heap.size ((im2.set 4 4).set 7 (sumL ((im2.set 4 4).take 7))) w21 hl3 HI3.2.2.1 HI3.2.2.2 hR21).mono ?_; rintro e w22 ⟨rfl, hf22, n106, n114, n122, n130, n4, n22⟩; have f22 := f21.same hf22)
          | fail)
        go_ret
        exact ⟨rfl, H10.out.f.same f22⟩
    · have g1 : ((k0 : Int) == 17) = false := by simp; omega
      by_cases h5 : k0 = 5
      · have g2 : ((kP k0 : Int) == 7) = true := by rw [h5]; decide
        have H5 : Hid (k0 = 5) := h5
        clear h5
        go_upto_region 27 with fail
        obtain ⟨hS1, hS2, hS3, hS4, hS5⟩ := HNX.out k0 (bits .xor .u64 (1000000000 + (x : Int)) (wd ws 7)) hk18 hp (by rw [if_neg h17, if_pos H5.out])
        have HSP : Hid (CheckIs (ws.set (kP k0) (bits .xor .u64 (1000000000 + (x : Int)) (wd ws 7))) (kE k0) (kA k0)) := hS1
        have HSO : Hid ((kE k0 = 0 → OpenOk (ws.set (kP k0) (bits .xor .u64 (1000000000 + (x : Int)) (wd ws 7)))) ∧ (kE k0 ≠ 0 → OpenErr (ws.set (kP k0) (bits .xor .u64 (1000000000 + (x : Int)) (wd ws 7))) (kE k0))) := hS2
        have HUV : Hid (∀ z ∈ ws.set (kP k0) (bits .xor .u64 (1000000000 + (x : Int)) (wd ws 7)), U z) := hS3
        obtain ⟨w13, hw13⟩ : ∃ w13, w13 = w12.setCell ⟨gI, kP k0, none⟩ (.int .u64 (bits .xor .u64 (1000000000 + (x : Int)) (wd ws 7))) := ⟨_, rfl⟩
        rw [← hw13] at hS4 hS5
        rw [← hw13]
        have HR13 : Hid (Row w13 gI (ws.set (kP k0) (bits .xor .u64 (1000000000 + (x : Int)) (wd ws 7)))) := hS4
        have HF13 : Hid (Fr New w10 w13) := hS5
        have hkk : k0 < 18 := hk18
        clear hS1 hS2 hS3 hS4 hS5 hw13 p1 p2 p3 o1 o2 o3 i7 HNX HFZ HCI hIl HF12 ci fi
        by_cases hz : kE k0 = 0
        · have hz2 : (kE k0 == 0) = true := by simpa using hz
          have hz3 : (kE k0 != 0) = false := by simpa using hz
          go_upto_region 31 with (first
            | (go_at_call 33; refine (HCK.out gI (ws.set (kP k0) (bits .xor .u64 (1000000000 + (x : Int)) (wd ws 7))) (kE k0) (kA k0) w13 (by rw [List.length_set]; exact HL.out) HSP.out HR13.out).mono ?_; rintro e w14 ⟨rfl, hf14⟩; have hR14 : Row w14 gI (ws.set (kP k0) (bits .xor .u64 (1000000000 + (x : Int)) (wd ws 7))) := hf14.heap HR13.out id; have f14 : Fr New w10 w14 := HF13.out.same hf14; obtain ⟨q1, q2, q3⟩ := HTAB.out w14 f14 k0 hkk)
            | (go_at_call 20; refine (HOK.out gI (ws.set (kP k0) (bits .xor .u64 (1000000000 + (x : Int)) (wd ws 7))) w14 (by rw [List.length_set]; exact HL.out) (HSO.out.1 hz) HUV.out hR14).mono ?_; rintro e w15 ⟨hb3, rfl, hf15⟩; have f15 := f14.same hf15; obtain ⟨q4, q5, q6⟩ := HTAB.out w15 f15 k0 hkk; obtain ⟨a15, l15⟩ := HC.out _ _ _ _ w15 (H10.out.new f15))
            | fail)
          go_wp2_with (first
            | (go_at_call 21; refine (HIM.out _ _ w15 (H10.out.new f15)).mono ?_; rintro e w16 ⟨rfl, hR16, _, hf16⟩; have f16 := f15.same hf16; have hJ10 : w10.heap.size ≤ w15.heap.size := f15.size; have hJl : w15.heap.size < w16.heap.size := hR16.lt; have j4 := HCELL.out w15.heap.size ws w16 4 (by omega) HL.out hR16; have j7 := HCELL.out w15.heap.size ws w16 7 (by omega) HL.out hR16; have z4 := hR16.free 4; have z7 := hR16.free 7)
            | (go_at_call 36; refine calls_same (HSUM.out w15.heap.size (im2.set 4 4) (w18.setCell ⟨w15.heap.size, 4, none⟩ (.int .u64 4)) (by rw [List.length_set]; exact hl2) (hR18.set 4 4)) ?_)
            | (go_at_call 36; refine calls_same (HSUM.out w15.heap.size (ws.set 4 5) (w16.setCell ⟨w15.heap.size, 4, none⟩ (.int .u64 5)) (by rw [List.length_set]; exact HL.out) (hR16.set 4 5)) ?_)
            | (go_at_call 33; refine (HCK.out w15.heap.size ((im2.set 4 4).set 7 (sumL ((im2.set 4 4).take 7))) 8 106 _ (by rw [List.length_set, List.length_set]; exact hl2) HI3.1 ((hR18.set 4 4).set 7 _)).mono ?_; rintro e w20 ⟨rfl, hf20⟩; have hR20 : Row w20 w15.heap.size ((im2.set 4 4).set 7 (sumL ((im2.set 4 4).take 7))) := hf20.heap ((hR18.set 4 4).set 7 (sumL ((im2.set 4 4).take 7))) id; have f20 : Fr New w10 w20 := ((f18.setCell (p := ⟨w15.heap.size, 4, none⟩) (fun h => absurd h (by simp only; omega)) _).setCell (p := ⟨w15.heap.size, 7, none⟩) (fun h => absurd h (by simp only; omega)) _).same hf20; have hl3 : ((im2.set 4 4).set 7 (sumL ((im2.set 4 4).take 7))).length = L := (by rw [List.length_set, List.length_set]; exact hl2))
            | (go_at_call 33; refine (HCK.out w15.heap.size ((ws.set 4 5).set 7 (sumL ((ws.set 4 5).take 7))) 6 4 _ (by rw [List.length_set, List.length_set]; exact HL.out) HK2.out ((hR16.set 4 5).set 7 _)).mono ?_; rintro e w18 ⟨rfl, hf18⟩; have hR18 : Row w18 w15.heap.size ((ws.set 4 5).set 7 (sumL ((ws.set 4 5).take 7))) := hf18.heap ((hR16.set 4 5).set 7 (sumL ((ws.set 4 5).take 7))) id; have f18 : Fr New w10 w18 := ((f16.setCell (p := ⟨w15.heap.size, 4, none⟩) (fun h => absurd h (by simp only; omega)) _).setCell (p := ⟨w15.heap.size, 7, none⟩) (fun h => absurd h (by simp only; omega)) _).same hf18; have HI3 := HK3.out; obtain ⟨im2, him2⟩ : ∃ x, x = (ws.set 4 5).set 7 (sumL ((ws.set 4 5).take 7)) := ⟨_, rfl⟩; rw [← him2] at hR18 HI3; have hl2 : im2.length = L := (by rw [him2, List.length_set, List.length_set]; exact HL.out); have hM18 : w15.heap.size < w18.heap.size := hR18.lt; have m4 := HCELL.out w15.heap.size im2 w18 4 (by omega) hl2 hR18; have m7 := HCELL.out w15.heap.size im2 w18 7 (by omega) hl2 hR18; have y4 := hR18.free 4; have y7 := hR18.free 7; clear him2 hf18)
            | (go_at_call 20; refine (HOK.out w15.heap.size ((im2.set 4 4).set 7 (sumL ((im2.set 4 4).take 7))) w20 hl3 HI3.2.1 HI3.2.2.2 hR20).mono ?_; rintro e w21 ⟨hb2, rfl, hf21⟩; have hR21 : Row w21 w15.heap.size ((im2.set 4 4).set 7 (sumL ((im2.set 4 4).take 7))) := hf21.heap hR20 id; have f21 := f20.same hf21)
            | (go_at_call 32; refine (HRP.out w15.heap.size ((im2.set 4 4).set 7 (sumL ((im2.set 4 4).take 7))) w21 hl3 HI3.2.2.1 HI3.2.2.2 hR21).mono ?_; rintro e w22 ⟨rfl, hf22, n106, n114, n122, n130, n4, n22⟩; have f22 := f21.same hf22)
            | fail)
          go_ret
          exact ⟨rfl, H10.out.f.same f22⟩
        · have hz2 : (kE k0 == 0) = false := by simpa using hz
          have hz3 : (kE k0 != 0) = true := by simpa using hz
          go_upto_region 31 with (first
            | (go_at_call 33; refine (HCK.out gI (ws.set (kP k0) (bits .xor .u64 (1000000000 + (x : Int)) (wd ws 7))) (kE k0) (kA k0) w13 (by rw [List.length_set]; exact HL.out) HSP.out HR13.out).mono ?_; rintro e w14 ⟨rfl, hf14⟩; have hR14 : Row w14 gI (ws.set (kP k0) (bits .xor .u64 (1000000000 + (x : Int)) (wd ws 7))) := hf14.heap HR13.out id; have f14 : Fr New w10 w14 := HF13.out.same hf14; obtain ⟨q1, q2, q3⟩ := HTAB.out w14 f14 k0 hkk)
            | (go_at_call 20; refine (HER.out gI (ws.set (kP k0) (bits .xor .u64 (1000000000 + (x : Int)) (wd ws 7))) (kE k0) w14 (by rw [List.length_set]; exact HL.out) (HSO.out.2 hz) HUV.out hR14).mono ?_; rintro e w15 ⟨rfl, hf15⟩; have f15 := f14.same hf15; obtain ⟨q4, q5, q6⟩ := HTAB.out w15 f15 k0 hkk; obtain ⟨a15, l15⟩ := HC.out _ _ _ _ w15 (H10.out.new f15))
            | fail)
          go_wp2_with (first
            | (go_at_call 21; refine (HIM.out _ _ w15 (H10.out.new f15)).mono ?_; rintro e w16 ⟨rfl, hR16, _, hf16⟩; have f16 := f15.same hf16; have hJ10 : w10.heap.size ≤ w15.heap.size := f15.size; have hJl : w15.heap.size < w16.heap.size := hR16.lt; have j4 := HCELL.out w15.heap.size ws w16 4 (by omega) HL.out hR16; have j7 := HCELL.out w15.heap.size ws w16 7 (by omega) HL.out hR16; have z4 := hR16.free 4; have z7 := hR16.free 7)
            | (go_at_call 36; refine calls_same (HSUM.out w15.heap.size (im2.set 4 4) (w18.setCell ⟨w15.heap.size, 4, none⟩ (.int .u64 4)) (by rw [List.length_set]; exact hl2) (hR18.set 4 4)) ?_)
            | (go_at_call 36; refine calls_same (HSUM.out w15.heap.size (ws.set 4 5) (w16.setCell ⟨w15.heap.size, 4, none⟩ (.int .u64 5)) (by rw [List.length_set]; exact HL.out) (hR16.set 4 5)) ?_)
            | (go_at_call 33; refine (HCK.out w15.heap.size ((im2.set 4 4).set 7 (sumL ((im2.set 4 4).take 7))) 8 106 _ (by rw [List.length_set, List.length_set]; exact hl2) HI3.1 ((hR18.set 4 4).set 7 _)).mono ?_; rintro e w20 ⟨rfl, hf20⟩; have hR20 : Row w20 w15.heap.size ((im2.set 4 4).set 7 (sumL ((im2.set 4 4).take 7))) := hf20.heap ((hR18.set 4 4).set 7 (sumL ((im2.set 4 4).take 7))) id; have f20 : Fr New w10 w20 := ((f18.setCell (p := ⟨w15.heap.size, 4, none⟩) (fun h => absurd h (by simp only; omega)) _).setCell (p := ⟨w15.heap.size, 7, none⟩) (fun h => absurd h (by simp only; omega)) _).same hf20; have hl3 : ((im2.set 4 4).set 7 (sumL ((im2.set 4 4).take 7))).length = L := (by rw [List.length_set, List.length_set]; exact hl2))
            | (go_at_call 33; refine (HCK.out w15.heap.size ((ws.set 4 5).set 7 (sumL ((ws.set 4 5).take 7))) 6 4 _ (by rw [List.length_set, List.length_set]; exact HL.out) HK2.out ((hR16.set 4 5).set 7 _)).mono ?_; rintro e w18 ⟨rfl, hf18⟩; have hR18 : Row w18 w15.heap.size ((ws.set 4 5).set 7 (sumL ((ws.set 4 5).take 7))) := hf18.heap ((hR16.set 4 5).set 7 (sumL ((ws.set 4 5).take 7))) id; have f18 : Fr New w10 w18 := ((f16.setCell (p := ⟨w15.heap.size, 4, none⟩) (fun h => absurd h (by simp only; omega)) _).setCell (p := ⟨w15.heap.size, 7, none⟩) (fun h => absurd h (by simp only; omega)) _).same hf18; have HI3 := HK3.out; obtain ⟨im2, him2⟩ : ∃ x, x = (ws.set 4 5).set 7 (sumL ((ws.set 4 5).take 7)) := ⟨_, rfl⟩; rw [← him2] at hR18 HI3; have hl2 : im2.length = L := (by rw [him2, List.length_set, List.length_set]; exact HL.out); have hM18 : w15.heap.size < w18.heap.size := hR18.lt; have m4 := HCELL.out w15.heap.size im2 w18 4 (by omega) hl2 hR18; have m7 := HCELL.out w15.heap.size im2 w18 7 (by omega) hl2 hR18; have y4 := hR18.free 4; have y7 := hR18.free 7; clear him2 hf18)
            | (go_at_call 20; refine (HOK.out w15.heap.size ((im2.set 4 4).set 7 (sumL ((im2.set 4 4).take 7))) w20 hl3 HI3.2.1 HI3.2.2.2 hR20).mono ?_; rintro e w21 ⟨hb2, rfl, hf21⟩; have hR21 : Row w21 w15.heap.size ((im2.set 4 4).set 7 (sumL ((im2.set 4 4).take 7))) := hf21.heap hR20 id; have f21 := f20.same hf21)
            | (go_at_call 32; refine (HRP.out w15.heap.size ((im2.set 4 4).set 7 (sumL ((im2.set 4 4).take 7))) w21 hl3 HI3.2.2.1 HI3.2.2.2 hR21).mono ?_; rintro e w22 ⟨rfl, hf22, n106, n114, n122, n130, n4, n22⟩; have f22 := f21.same hf22)
            | fail)
          go_ret
          exact ⟨rfl, H10.out.f.same f22⟩
      · have g2 : ((kP k0 : Int) == 7) = false := by simp; exact kseven hk18 h5
        go_upto_region 27 with fail
        obtain ⟨hS1, hS2, hS3, hS4, hS5⟩ := HNX.out k0 (1000000000 + (x : Int)) hk18 hp (by rw [if_neg h17, if_neg h5])
        have HSP : Hid (CheckIs (ws.set (kP k0) (1000000000 + (x : Int))) (kE k0) (kA k0)) := hS1
        have HSO : Hid ((kE k0 = 0 → OpenOk (ws.set (kP k0) (1000000000 + (x : Int)))) ∧ (kE k0 ≠ 0 → OpenErr (ws.set (kP k0) (1000000000 + (x : Int))) (kE k0))) := hS2
        have HUV : Hid (∀ z ∈ ws.set (kP k0) (1000000000 + (x : Int)), U z) := hS3
        obtain ⟨w13, hw13⟩ : ∃ w13, w13 = w12.setCell ⟨gI, kP k0, none⟩ (.int .u64 (1000000000 + (x : Int))) := ⟨_, rfl⟩
        rw [← hw13] at hS4 hS5
        rw [← hw13]
        have HR13 : Hid (Row w13 gI (ws.set (kP k0) (1000000000 + (x : Int)))) := hS4
        have HF13 : Hid (Fr New w10 w13) := hS5
        have hkk : k0 < 18 := hk18
        clear hS1 hS2 hS3 hS4 hS5 hw13 p1 p2 p3 o1 o2 o3 i7 HNX HFZ HCI hIl HF12 ci fi
        by_cases hz : kE k0 = 0
        · have hz2 : (kE k0 == 0) = true := by simpa using hz
          have hz3 : (kE k0 != 0) = false := by simpa using hz
          go_upto_region 31 with (first
            | (go_at_call 33; refine (HCK.out gI (ws.set (kP k0) (1000000000 + (x : Int))) (kE k0) (kA k0) w13 (by rw [List.length_set]; exact HL.out) HSP.out HR13.out).mono ?_; rintro e w14 ⟨rfl, hf14⟩; have hR14 : Row w14 gI (ws.set (kP k0) (1000000000 + (x : Int))) := hf14.heap HR13.out id; have f14 : Fr New w10 w14 := HF13.out.same hf14; obtain ⟨q1, q2, q3⟩ := HTAB.out w14 f14 k0 hkk)
            | (go_at_call 20; refine (HOK.out gI (ws.set (kP k0) (1000000000 + (x : Int))) w14 (by rw [List.length_set]; exact HL.out) (HSO.out.1 hz) HUV.out hR14).mono ?_; rintro e w15 ⟨hb3, rfl, hf15⟩; have f15 := f14.same hf15; obtain ⟨q4, q5, q6⟩ := HTAB.out w15 f15 k0 hkk; obtain ⟨a15, l15⟩ := HC.out _ _ _ _ w15 (H10.out.new f15))
            | fail)
          go_wp2_with (first
            | (go_at_call 21; refine (HIM.out _ _ w15 (H10.out.new f15)).mono ?_; rintro e w16 ⟨rfl, hR16, _, hf16⟩; have f16 := f15.same hf16; have hJ10 : w10.heap.size ≤ w15.heap.size := f15.size; have hJl : w15.heap.size < w16.heap.size := hR16.lt; have j4 := HCELL.out w15.heap.size ws w16 4 (by omega) HL.out hR16; have j7 := HCELL.out w15.heap.size ws w16 7 (by omega) HL.out hR16; have z4 := hR16.free 4; have z7 := hR16.free 7)
            | (go_at_call 36; refine calls_same (HSUM.out w15.heap.size (im2.set 4 4) (w18.setCell ⟨w15.heap.size, 4, none⟩ (.int .u64 4)) (by rw [List.length_set]; exact hl2) (hR18.set 4 4)) ?_)
            | (go_at_call 36; refine calls_same (HSUM.out w15.heap.size (ws.set 4 5) (w16.setCell ⟨w15.heap.size, 4, none⟩ (.int .u64 5)) (by rw [List.length_set]; exact HL.out) (hR16.set 4 5)) ?_)
            | (go_at_call 33; refine (HCK.out w15.heap.size ((im2.set 4 4).set 7 (sumL ((im2.set 4 4).take 7))) 8 106 _ (by rw [List.length_set, List.length_set]; exact hl2) HI3.1 ((hR18.set 4 4).set 7 _)).mono ?_; rintro e w20 ⟨rfl, hf20⟩; have hR20 : Row w20 w15.heap.size ((im2.set 4 4).set 7 (sumL ((im2.set 4 4).take 7))) := hf20.heap ((hR18.set 4 4).set 7 (sumL ((im2.set 4 4).take 7))) id; have f20 : Fr New w10 w20 := ((f18.setCell (p := ⟨w15.heap.size, 4, none⟩) (fun h => absurd h (by simp only; omega)) _).setCell (p := ⟨w15.heap.size, 7, none⟩) (fun h => absurd h (by simp only; omega)) _).same hf20; have hl3 : ((im2.set 4 4).set 7 (sumL ((im2.set 4 4).take 7))).length = L := (by rw [List.length_set, List.length_set]; exact hl2))
            | (go_at_call 33; refine (HCK.out w15.heap.size ((ws.set 4 5).set 7 (sumL ((ws.set 4 5).take 7))) 6 4 _ (by rw [List.length_set, List.length_set]; exact HL.out) HK2.out ((hR16.set 4 5).set 7 _)).mono ?_; rintro e w18 ⟨rfl, hf18⟩; have hR18 : Row w18 w15.heap.size ((ws.set 4 5).set 7 (sumL ((ws.set 4 5).take 7))) := hf18.heap ((hR16.set 4 5).set 7 (sumL ((ws.set 4 5).take 7))) id; have f18 : Fr New w10 w18 := ((f16.setCell (p := ⟨w15.heap.size, 4, none⟩) (fun h => absurd h (by simp only; omega)) _).setCell (p := ⟨w15.heap.size, 7, none⟩) (fun h => absurd h (by simp only; omega)) _).same hf18; have HI3 := HK3.out; obtain ⟨im2, him2⟩ : ∃ x, x = (ws.set 4 5).set 7 (sumL ((ws.set 4 5).take 7)) := ⟨_, rfl⟩; rw [← him2] at hR18 HI3; have hl2 : im2.length = L := (by rw [him2, List.length_set, List.length_set]; exact HL.out); have hM18 : w15.heap.size < w18.heap.size := hR18.lt; have m4 := HCELL.out w15.heap.size im2 w18 4 (by omega) hl2 hR18; have m7 := HCELL.out w15.heap.size im2 w18 7 (by omega) hl2 hR18; have y4 := hR18.free 4; have y7 := hR18.free 7; clear him2 hf18)
            | (go_at_call 20; refine (HOK.out w15.heap.size ((im2.set 4 4).set 7 (sumL ((im2.set 4 4).take 7))) w20 hl3 HI3.2.1 HI3.2.2.2 hR20).mono ?_; rintro e w21 ⟨hb2, rfl, hf21⟩; have hR21 : Row w21 w15.heap.size ((im2.set 4 4).set 7 (sumL ((im2.set 4 4).take 7))) := hf21.heap hR20 id; have f21 := f20.same hf21)
            | (go_at_call 32; refine (HRP.out w15.heap.size ((im2.set 4 4).set 7 (sumL ((im2.set 4 4).take 7))) w21 hl3 HI3.2.2.1 HI3.2.2.2 hR21).mono ?_; rintro e w22 ⟨rfl, hf22, n106, n114, n122, n130, n4, n22⟩; have f22 := f21.same hf22)
            | fail)
          go_ret
          exact ⟨rfl, H10.out.f.same f22⟩
        · have hz2 : (kE k0 == 0) = false := by simpa using hz
          have hz3 : (kE k0 != 0) = true := by simpa using hz
          go_upto_region 31 with (first
            | (go_at_call 33; refine (HCK.out gI (ws.set (kP k0) (1000000000 + (x : Int))) (kE k0) (kA k0) w13 (by rw [List.length_set]; exact HL.out) HSP.out HR13.out).mono ?_; rintro e w14 ⟨rfl, hf14⟩; have hR14 : Row w14 gI (ws.set (kP k0) (1000000000 + (x : Int))) := hf14.heap HR13.out id; have f14 : Fr New w10 w14 := HF13.out.same hf14; obtain ⟨q1, q2, q3⟩ := HTAB.out w14 f14 k0 hkk)
            | (go_at_call 20; refine (HER.out gI (ws.set (kP k0) (1000000000 + (x : Int))) (kE k0) w14 (by rw [List.length_set]; exact HL.out) (HSO.out.2 hz) HUV.out hR14).mono ?_; rintro e w15 ⟨rfl, hf15⟩; have f15 := f14.same hf15; obtain ⟨q4, q5, q6⟩ := HTAB.out w15 f15 k0 hkk; obtain ⟨a15, l15⟩ := HC.out _ _ _ _ w15 (H10.out.new f15))
            | fail)
          go_wp2_with (first
            | (go_at_call 21; refine (HIM.out _ _ w15 (H10.out.new f15)).mono ?_; rintro e w16 ⟨rfl, hR16, _, hf16⟩; have f16 := f15.same hf16; have hJ10 : w10.heap.size ≤ w15.heap.size := f15.size; have hJl : w15.heap.size < w16.heap.size := hR16.lt; have j4 := HCELL.out w15.heap.size ws w16 4 (by omega) HL.out hR16; have j7 := HCELL.out w15.heap.size ws w16 7 (by omega) HL.out hR16; have z4 := hR16.free 4; have z7 := hR16.free 7)
            | (go_at_call 36; refine calls_same (HSUM.out w15.heap.size (im2.set 4 4) (w18.setCell ⟨w15.heap.size, 4, none⟩ (.int .u64 4)) (by rw [List.length_set]; exact hl2) (hR18.set 4 4)) ?_)
            | (go_at_call 36; refine calls_same (HSUM.out w15.heap.size (ws.set 4 5) (w16.setCell ⟨w15.heap.size, 4, none⟩ (.int .u64 5)) (by rw [List.length_set]; exact HL.out) (hR16.set 4 5)) ?_)
            | (go_at_call 33; refine (HCK.out w15.heap.size ((im2.set 4 4).set 7 (sumL ((im2.set 4 4).take 7))) 8 106 _ (by rw [List.length_set, List.length_set]; exact hl2) HI3.1 ((hR18.set 4 4).set 7 _)).mono ?_; rintro e w20 ⟨rfl, hf20⟩; have hR20 : Row w20 w15.heap.size ((im2.set 4 4).set 7 (sumL ((im2.set 4 4).take 7))) := hf20.heap ((hR18.set 4 4).set 7 (sumL ((im2.set 4 4).take 7))) id; have f20 : Fr New w10 w20 := ((f18.setCell (p := ⟨w15.heap.size, 4, none⟩) (fun h => absurd h (by simp only; omega)) _).setCell (p := ⟨w15.heap.size, 7, none⟩) (fun h => absurd h (by simp only; omega)) _).same hf20; have hl3 : ((im2.set 4 4).set 7 (sumL ((im2.set 4 4).take 7))).length = L := (by rw [List.length_set, List.length_set]; exact hl2))
            | (go_at_call 33; refine (HCK.out w15.heap.size ((ws.set 4 5).set 7 (sumL ((ws.set 4 5).take 7))) 6 4 _ (by rw [List.length_set, List.length_set]; exact HL.out) HK2.out ((hR16.set 4 5).set 7 _)).mono ?_; rintro e w18 ⟨rfl, hf18⟩; have hR18 : Row w18 w15.heap.size ((ws.set 4 5).set 7 (sumL ((ws.set 4 5).take 7))) := hf18.heap ((hR16.set 4 5).set 7 (sumL ((ws.set 4 5).take 7))) id; have f18 : Fr New w10 w18 := ((f16.setCell (p := ⟨w15.heap.size, 4, none⟩) (fun h => absurd h (by simp only; omega)) _).setCell (p := ⟨w15.heap.size, 7, none⟩) (fun h => absurd h (by simp only; omega)) _).same hf18; have HI3 := HK3.out; obtain ⟨im2, him2⟩ : ∃ x, x = (ws.set 4 5).set 7 (sumL ((ws.set 4 5).take 7)) := ⟨_, rfl⟩; rw [← him2] at hR18 HI3; have hl2 : im2.length = L := (by rw [him2, List.length_set, List.length_set]; exact HL.out); have hM18 : w15.heap.size < w18.heap.size := hR18.lt; have m4 := HCELL.out w15.heap.size im2 w18 4 (by omega) hl2 hR18; have m7 := HCELL.out w15.heap.size im2 w18 7 (by omega) hl2 hR18; have y4 := hR18.free 4; have y7 := hR18.free 7; clear him2 hf18)
            | (go_at_call 20; refine (HOK.out w15.heap.size ((im2.set 4 4).set 7 (sumL ((im2.set 4 4).take 7))) w20 hl3 HI3.2.1 HI3.2.2.2 hR20).mono ?_; rintro e w21 ⟨hb2, rfl, hf21⟩; have hR21 : Row w21 w15.heap.size ((im2.set 4 4).set 7 (sumL ((im2.set 4 4).take 7))) := hf21.heap hR20 id; have f21 := f20.same hf21)
            | (go_at_call 32; refine (HRP.out w15.heap.size ((im2.set 4 4).set 7 (sumL ((im2.set 4 4).take 7))) w21 hl3 HI3.2.2.1 HI3.2.2.2 hR21).mono ?_; rintro e w22 ⟨rfl, hf22, n106, n114, n122, n130, n4, n22⟩; have f22 := f21.same hf22)
            | fail)
          go_ret
          exact ⟨rfl, H10.out.f.same f22⟩
  · have hg : decide ((L : Int) ≤ (kP k0 : Int)) = true := by simp; omega
    have hp0 : kP 0 < L := by rw [show kP 0 = 0 from rfl]; omega
    have bp0 : (0 : Int) ≤ (kP 0 : Int) := by omega
    have bp1 : (kP 0 : Int) < (L : Int) := by omega
    have ci := HCI.out (kP 0) hp0
    have fi := HFZ.out (kP 0)
    have g2 : ((kP 0 : Int) == 7) = false := by decide
    go_upto_region 27 with fail
    obtain ⟨hS1, hS2, hS3, hS4, hS5⟩ := HNX.out 0 (1000000000 + (x : Int)) (by omega) hp0 (by rw [if_neg (by omega), if_neg (by omega)])
    have HSP : Hid (CheckIs (ws.set (kP 0) (1000000000 + (x : Int))) (kE 0) (kA 0)) := hS1
    have HSO : Hid ((kE 0 = 0 → OpenOk (ws.set (kP 0) (1000000000 + (x : Int)))) ∧ (kE 0 ≠ 0 → OpenErr (ws.set (kP 0) (1000000000 + (x : Int))) (kE 0))) := hS2
    have HUV : Hid (∀ z ∈ ws.set (kP 0) (1000000000 + (x : Int)), U z) := hS3
    obtain ⟨w13, hw13⟩ : ∃ w13, w13 = w12.setCell ⟨gI, kP 0, none⟩ (.int .u64 (1000000000 + (x : Int))) := ⟨_, rfl⟩
    rw [← hw13] at hS4 hS5
    rw [← hw13]
    have HR13 : Hid (Row w13 gI (ws.set (kP 0) (1000000000 + (x : Int)))) := hS4
    have HF13 : Hid (Fr New w10 w13) := hS5
    have hkk : 0 < 18 := (by omega)
    clear hS1 hS2 hS3 hS4 hS5 hw13 p1 p2 p3 o1 o2 o3 i7 HNX HFZ HCI hIl HF12 ci fi
    by_cases hz : kE 0 = 0
    · have hz2 : (kE 0 == 0) = true := by simpa using hz
      have hz3 : (kE 0 != 0) = false := by simpa using hz
      go_upto_region 31 with (first
        | (go_at_call 33; refine (HCK.out gI (ws.set (kP 0) (1000000000 + (x : Int))) (kE 0) (kA 0) w13 (by rw [List.length_set]; exact HL.out) HSP.out HR13.out).mono ?_; rintro e w14 ⟨rfl, hf14⟩; have hR14 : Row w14 gI (ws.set (kP 0) (1000000000 + (x : Int))) := hf14.heap HR13.out id; have f14 : Fr New w10 w14 := HF13.out.same hf14; obtain ⟨q1, q2, q3⟩ := HTAB.out w14 f14 0 hkk)
        | (go_at_call 20; refine (HOK.out gI (ws.set (kP 0) (1000000000 + (x : Int))) w14 (by rw [List.length_set]; exact HL.out) (HSO.out.1 hz) HUV.out hR14).mono ?_; rintro e w15 ⟨hb3, rfl, hf15⟩; have f15 := f14.same hf15; obtain ⟨q4, q5, q6⟩ := HTAB.out w15 f15 0 hkk; obtain ⟨a15, l15⟩ := HC.out _ _ _ _ w15 (H10.out.new f15))
        | fail)
      go_wp2_with (first
        | (go_at_call 21; refine (HIM.out _ _ w15 (H10.out.new f15)).mono ?_; rintro e w16 ⟨rfl, hR16, _, hf16⟩; have f16 := f15.same hf16; have hJ10 : w10.heap.size ≤ w15.heap.size := f15.size; have hJl : w15.heap.size < w16.heap.size := hR16.lt; have j4 := HCELL.out w15.heap.size ws w16 4 (by omega) HL.out hR16; have j7 := HCELL.out w15.heap.size ws w16 7 (by omega) HL.out hR16; have z4 := hR16.free 4; have z7 := hR16.free 7)
        | (go_at_call 36; refine calls_same (HSUM.out w15.heap.size (im2.set 4 4) (w18.setCell ⟨w15.heap.size, 4, none⟩ (.int .u64 4)) (by rw [List.length_set]; exact hl2) (hR18.set 4 4)) ?_)
        | (go_at_call 36; refine calls_same (HSUM.out w15.heap.size (ws.set 4 5) (w16.setCell ⟨w15.heap.size, 4, none⟩ (.int .u64 5)) (by rw [List.length_set]; exact HL.out) (hR16.set 4 5)) ?_)
        | (go_at_call 33; refine (HCK.out w15.heap.size ((im2.set 4 4).set 7 (sumL ((im2.set 4 4).take 7))) 8 106 _ (by rw [List.length_set, List.length_set]; exact hl2) HI3.1 ((hR18.set 4 4).set 7 _)).mono ?_; rintro e w20 ⟨rfl, hf20⟩; have hR20 : Row w20 w15.heap.size ((im2.set 4 4).set 7 (sumL ((im2.set 4 4).take 7))) := hf20.heap ((hR18.set 4 4).set 7 (sumL ((im2.set 4 4).take 7))) id; have f20 : Fr New w10 w20 := ((f18.setCell (p := ⟨w15.heap.size, 4, none⟩) (fun h => absurd h (by simp only; omega)) _).setCell (p := ⟨w15.heap.size, 7, none⟩) (fun h => absurd h (by simp only; omega)) _).same hf20; have hl3 : ((im2.set 4 4).set 7 (sumL ((im2.set 4 4).take 7))).length = L := (by rw [List.length_set, List.length_set]; exact hl2))
        | (go_at_call 33; refine (HCK.out w15.heap.size ((ws.set 4 5).set 7 (sumL ((ws.set 4 5).take 7))) 6 4 _ (by rw [List.length_set, List.length_set]; exact HL.out) HK2.out ((hR16.set 4 5).set 7 _)).mono ?_; rintro e w18 ⟨rfl, hf18⟩; have hR18 : Row w18 w15.heap.size ((ws.set 4 5).set 7 (sumL ((ws.set 4 5).take 7))) := hf18.heap ((hR16.set 4 5).set 7 (sumL ((ws.set 4 5).take 7))) id; have f18 : Fr New w10 w18 := ((f16.setCell (p := ⟨w15.heap.size, 4, none⟩) (fun h => absurd h (by simp only; omega)) _).setCell (p := ⟨w15.heap.size, 7, none⟩) (fun h => absurd h (by simp only; omega)) _).same hf18; have HI3 := HK3.out; obtain ⟨im2, him2⟩ : ∃ x, x = (ws.set 4 5).set 7 (sumL ((ws.set 4 5).take 7)) := ⟨_, rfl⟩; rw [← him2] at hR18 HI3; have hl2 : im2.length = L := (by rw [him2, List.length_set, List.length_set]; exact HL.out); have hM18 : w15.heap.size < w18.heap.size := hR18.lt; have m4 := HCELL.out w15.heap.size im2 w18 4 (by omega) hl2 hR18; have m7 := HCELL.out w15.heap.size im2 w18 7 (by omega) hl2 hR18; have y4 := hR18.free 4; have y7 := hR18.free 7; clear him2 hf18)
        | (go_at_call 20; refine (HOK.out w15.heap.size ((im2.set 4 4).set 7 (sumL ((im2.set 4 4).take 7))) w20 hl3 HI3.2.1 HI3.2.2.2 hR20).mono ?_; rintro e w21 ⟨hb2, rfl, hf21⟩; have hR21 : Row w21 w15.heap.size ((im2.set 4 4).set 7 (sumL ((im2.set 4 4).take 7))) := hf21.heap hR20 id; have f21 := f20.same hf21)
        | (go_at_call 32; refine (HRP.out w15.heap.size ((im2.set 4 4).set 7 (sumL ((im2.set 4 4).take 7))) w21 hl3 HI3.2.2.1 HI3.2.2.2 hR21).mono ?_; rintro e w22 ⟨rfl, hf22, n106, n114, n122, n130, n4, n22⟩; have f22 := f21.same hf22)
        | fail)
      go_ret
      exact ⟨rfl, H10.out.f.same f22⟩
    · have hz2 : (kE 0 == 0) = false := by simpa using hz
      have hz3 : (kE 0 != 0) = true := by simpa using hz
      go_upto_region 31 with (first
        | (go_at_call 33; refine (HCK.out gI (ws.set (kP 0) (1000000000 + (x : Int))) (kE 0) (kA 0) w13 (by rw [List.length_set]; exact HL.out) HSP.out HR13.out).mono ?_; rintro e w14 ⟨rfl, hf14⟩; have hR14 : Row w14 gI (ws.set (kP 0) (1000000000 + (x : Int))) := hf14.heap HR13.out id; have f14 : Fr New w10 w14 := HF13.out.same hf14; obtain ⟨q1, q2, q3⟩ := HTAB.out w14 f14 0 hkk)
        | (go_at_call 20; refine (HER.out gI (ws.set (kP 0) (1000000000 + (x : Int))) (kE 0) w14 (by rw [List.length_set]; exact HL.out) (HSO.out.2 hz) HUV.out hR14).mono ?_; rintro e w15 ⟨rfl, hf15⟩; have f15 := f14.same hf15; obtain ⟨q4, q5, q6⟩ := HTAB.out w15 f15 0 hkk; obtain ⟨a15, l15⟩ := HC.out _ _ _ _ w15 (H10.out.new f15))
        | fail)
      go_wp2_with (first
        | (go_at_call 21; refine (HIM.out _ _ w15 (H10.out.new f15)).mono ?_; rintro e w16 ⟨rfl, hR16, _, hf16⟩; have f16 := f15.same hf16; have hJ10 : w10.heap.size ≤ w15.heap.size := f15.size; have hJl : w15.heap.size < w16.heap.size := hR16.lt; have j4 := HCELL.out w15.heap.size ws w16 4 (by omega) HL.out hR16; have j7 := HCELL.out w15.heap.size ws w16 7 (by omega) HL.out hR16; have z4 := hR16.free 4; have z7 := hR16.free 7)
        | (go_at_call 36; refine calls_same (HSUM.out w15.heap.size (im2.set 4 4) (w18.setCell ⟨w15.heap.size, 4, none⟩ (.int .u64 4)) (by rw [List.length_set]; exact hl2) (hR18.set 4 4)) ?_)
        | (go_at_call 36; refine calls_same (HSUM.out w15.heap.size (ws.set 4 5) (w16.setCell ⟨w15.heap.size, 4, none⟩ (.int .u64 5)) (by rw [List.length_set]; exact HL.out) (hR16.set 4 5)) ?_)
        | (go_at_call 33; refine (HCK.out w15.heap.size ((im2.set 4 4).set 7 (sumL ((im2.set 4 4).take 7))) 8 106 _ (by rw [List.length_set, List.length_set]; exact hl2) HI3.1 ((hR18.set 4 4).set 7 _)).mono ?_; rintro e w20 ⟨rfl, hf20⟩; have hR20 : Row w20 w15.heap.size ((im2.set 4 4).set 7 (sumL ((im2.set 4 4).take 7))) := hf20.heap ((hR18.set 4 4).set 7 (sumL ((im2.set 4 4).take 7))) id; have f20 : Fr New w10 w20 := ((f18.setCell (p := ⟨w15.heap.size, 4, none⟩) (fun h => absurd h (by simp only; omega)) _).setCell (p := ⟨w15.heap.size, 7, none⟩) (fun h => absurd h (by simp only; omega)) _).same hf20; have hl3 : ((im2.set 4 4).set 7 (sumL ((im2.set 4 4).take 7))).length = L := (by rw [List.length_set, List.length_set]; exact hl2))
        | (go_at_call 33; refine (HCK.out w15.heap.size ((ws.set 4 5).set 7 (sumL ((ws.set 4 5).take 7))) 6 4 _ (by rw [List.length_set, List.length_set]; exact HL.out) HK2.out ((hR16.set 4 5).set 7 _)).mono ?_; rintro e w18 ⟨rfl, hf18⟩; have hR18 : Row w18 w15.heap.size ((ws.set 4 5).set 7 (sumL ((ws.set 4 5).take 7))) := hf18.heap ((hR16.set 4 5).set 7 (sumL ((ws.set 4 5).take 7))) id; have f18 : Fr New w10 w18 := ((f16.setCell (p := ⟨w15.heap.size, 4, none⟩) (fun h => absurd h (by simp only; omega)) _).setCell (p := ⟨w15.heap.size, 7, none⟩) (fun h => absurd h (by simp only; omega)) _).same hf18; have HI3 := HK3.out; obtain ⟨im2, him2⟩ : ∃ x, x = (ws.set 4 5).set 7 (sumL ((ws.set 4 5).take 7)) := ⟨_, rfl⟩; rw [← him2] at hR18 HI3; have hl2 : im2.length = L := (by rw [him2, List.length_set, List.length_set]; exact HL.out); have hM18 : w15.heap.size < w18.heap.size := hR18.lt; have m4 := HCELL.out w15.heap.size im2 w18 4 (by omega) hl2 hR18; have m7 := HCELL.out w15.heap.size im2 w18 7 (by omega) hl2 hR18; have y4 := hR18.free 4; have y7 := hR18.free 7; clear him2 hf18)
        | (go_at_call 20; refine (HOK.out w15.heap.size ((im2.set 4 4).set 7 (sumL ((im2.set 4 4).take 7))) w20 hl3 HI3.2.1 HI3.2.2.2 hR20).mono ?_; rintro e w21 ⟨hb2, rfl, hf21⟩; have hR21 : Row w21 w15.heap.size ((im2.set 4 4).set 7 (sumL ((im2.set 4 4).take 7))) := hf21.heap hR20 id; have f21 := f20.same hf21)
        | (go_at_call 32; refine (HRP.out w15.heap.size ((im2.set 4 4).set 7 (sumL ((im2.set 4 4).take 7))) w21 hl3 HI3.2.2.1 HI3.2.2.2 hR21).mono ?_; rintro e w22 ⟨rfl, hf22, n106, n114, n122, n130, n4, n22⟩; have f22 := f21.same hf22)
        | fail)
      go_ret
      exact ⟨rfl, H10.out.f.same f22⟩
end Go.Proofs.YtbagcjlimdilpaaGreat
