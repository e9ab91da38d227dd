/- The walk of the law Firm. -/
import Derived.Test.YtbagcjlimdilpaaGreatKtJ21
import Derived.Test.YtbagcjlimdilpaaGreatKtJ22
import Derived.Deep.RegionHeld3
import Derived.Deep.QuietTactic
import Derived.BigQuiet
namespace Go.Proofs.YtbagcjlimdilpaaGreat
open Go.RowKit Go.Maps
def fsp (f : Int) (i : Nat) : Int := [0, -1 - f, 5 + f, 1, 1, 2].getD i 0
def fpt (f : Int) (i : Nat) : Int := [0, 0, 0, -1 - f, 8 + f, 16 + f].getD i 0
def fhn (f : Int) (i : Nat) : Int := [0, -1 - f, 3, 40 + f].getD i 0
def fpc (f : Int) (i : Nat) : Int := [-1 - f, 7 + f].getD i 0
def frt (f : Int) (i : Nat) : Int := [-1 - f, 4 + f].getD i 0
theorem fs_arr (f : Int) {i : Nat} (h : i < 6) : (#[.int .i64 0, .int .i64 (-1 - f), .int .i64 (5 + f), .int .i64 1, .int .i64 1, .int .i64 2] : Array Value)[i]? = some (.int .i64 (fsp f i)) ∧ (#[.int .i64 0, .int .i64 0, .int .i64 0, .int .i64 (-1 - f), .int .i64 (8 + f), .int .i64 (16 + f)] : Array Value)[i]? = some (.int .i64 (fpt f i)) := by
  obtain rfl | rfl | rfl | rfl | rfl | rfl : i = 0 ∨ i = 1 ∨ i = 2 ∨ i = 3 ∨ i = 4 ∨ i = 5 := by omega
  all_goals exact ⟨rfl, rfl⟩
theorem fs_bad {f : Int} (hf : 0 ≤ f) {i : Nat} (h : i < 6) : ¬ argOk (fsp f i) (fpt f i) := by
  unfold argOk
  obtain rfl | rfl | rfl | rfl | rfl | rfl : i = 0 ∨ i = 1 ∨ i = 2 ∨ i = 3 ∨ i = 4 ∨ i = 5 := by omega
  · rw [show fsp f 0 = 0 from rfl]; omega
  · rw [show fsp f 1 = -1 - f from rfl]; omega
  · rw [show fsp f 2 = 5 + f from rfl]; omega
  · rw [show fpt f 3 = -1 - f from rfl]; omega
  · rw [show fsp f 4 = 1 from rfl, show fpt f 4 = 8 + f from rfl]; omega
  · rw [show fsp f 5 = 2 from rfl, show fpt f 5 = 16 + f from rfl]; omega
theorem fh_arr (f : Int) {i : Nat} (h : i < 4) : (#[.int .i64 0, .int .i64 (-1 - f), .int .i64 3, .int .i64 (40 + f)] : Array Value)[i]? = some (.int .i64 (fhn f i)) := by
  obtain rfl | rfl | rfl | rfl : i = 0 ∨ i = 1 ∨ i = 2 ∨ i = 3 := by omega
  all_goals rfl
theorem fh_bad {f : Int} (hf : 0 ≤ f) (hf2 : f < 1099511627776) {i : Nat} (h : i < 4) : -9223372036854775808 ≤ fhn f i ∧ fhn f i ≤ 9223372036854775807 ∧ fhn f i ≠ 1 ∧ fhn f i ≠ 2 := by
  obtain rfl | rfl | rfl | rfl : i = 0 ∨ i = 1 ∨ i = 2 ∨ i = 3 := by omega
  · rw [show fhn f 0 = 0 from rfl]; omega
  · rw [show fhn f 1 = -1 - f from rfl]; omega
  · rw [show fhn f 2 = 3 from rfl]; omega
  · rw [show fhn f 3 = 40 + f from rfl]; omega
theorem fp_arr (f : Int) {i : Nat} (h : i < 2) : (#[.int .i64 (-1 - f), .int .i64 (7 + f)] : Array Value)[i]? = some (.int .i64 (fpc f i)) ∧ (#[.int .i64 (-1 - f), .int .i64 (4 + f)] : Array Value)[i]? = some (.int .i64 (frt f i)) := by
  obtain rfl | rfl : i = 0 ∨ i = 1 := by omega
  all_goals exact ⟨rfl, rfl⟩
theorem fp_bad {f : Int} (hf : 0 ≤ f) {i : Nat} (h : i < 2) : (fpc f i < 0 ∨ 7 ≤ fpc f i) ∧ (frt f i < 0 ∨ 4 ≤ frt f i) := by
  obtain rfl | rfl : i = 0 ∨ i = 1 := by omega
  · rw [show fpc f 0 = -1 - f from rfl, show frt f 0 = -1 - f from rfl]; omega
  · rw [show fpc f 1 = 7 + f from rfl, show frt f 1 = 4 + f from rfl]; omega
theorem Hf.mblt {w0 w : World} {sb hb tb cb mb g : Nat} {vs vn : Value} {un : List Value} {A : Array Value} {ws now shp : List Int} {sts : List St} (h : Hf w0 sb hb tb cb mb g vs vn un A ws now shp sts w) : mb < w.heap.size := by
  obtain ⟨D, ⟨es, clock, hm, _⟩, _⟩ := h.ph.cg.mp
  exact (Array.getElem?_eq_some_iff.1 hm).1

set_option maxHeartbeats 4000000 in
set_option maxRecDepth 100000 in
theorem firm_walk (bl : Int) (a0 : Option Addr) (len cap : Nat) (z : List Int) (fa : Int) (w : World) (hl : z.length = len) (hm : len ≤ 17592186044416) (hc : RawAt w a0 z) (hbl : I64 bl) (hz : ∀ i, I64 (z.getD i 0)) (hfa : I64 fa) :
    Calls Tryz.prog 13 #[.int .i64 bl, .slice a0 len cap, .int .i64 fa] w fun e w' => e = .returned (.bool true) ∧ Fr New w w' := by
  subst hl
  have hq30 := pickN_lt bl (n := 30) (by omega)
  have hf40 := pickN_lt fa (n := 1099511627776) (by omega)
  have HPB : Hid (∀ w1, Calls Tryz.prog 16 #[.int .i64 bl, .int .i64 30] w1 fun e w' => e = .returned (.int .i64 (pickN bl 30 : Nat)) ∧ w' = w1) := fun w1 => pickN_any bl 30 w1 hbl (by omega) (by omega)
  have HPF : Hid (∀ w1, Calls Tryz.prog 16 #[.int .i64 fa, .int .i64 1099511627776] w1 fun e w' => e = .returned (.int .i64 (pickN fa 1099511627776 : Nat)) ∧ w' = w1) := fun w1 => by
    have h0 := pickI_nonneg fa 1099511627776 (by omega)
    refine (pick_any fa 1099511627776 w1 hfa.1 hfa.2 (by omega) (by omega)).mono ?_
    rintro e w' ⟨rfl, rfl⟩
    exact ⟨ret_i (by unfold pickN; rw [show ((1099511627776 : Nat) : Int) = 1099511627776 from rfl]; omega), rfl⟩
  obtain ⟨q, hq⟩ : ∃ q : Nat, q = pickN bl 30 := ⟨_, rfl⟩
  obtain ⟨f, hf⟩ : ∃ q : Nat, q = pickN fa 1099511627776 := ⟨_, rfl⟩
  rw [← hq] at HPB hq30
  rw [← hf] at HPF hf40
  have HBG : Hid (Calls Tryz.prog 15 #[.int .i64 (3 + (q : Int))] w fun e w' => ∃ sb F, e = .returned (.tuple #[.pointer (some ⟨sb, 0, none⟩), .bool true]) ∧ Story F sb (3 + q) (imgL (3 + q)) (imgL (3 + q)) [] w' ∧ (∀ k, F k → w.heap.size ≤ k) ∧ Fr New w w') := by
    have := begun_any (3 + q) (by omega) (by omega) w
    rwa [show ((3 + q : Nat) : Int) = 3 + (q : Int) by omega] at this
  have HWK : Hid (∀ w1, Calls Tryz.prog 17 #[] w1 fun e w' => e = .returned (.bool true) ∧ Fr New w1 w') := works_any
  have HAL : Hid (∀ F sb now (p : Nat) w1, p < 8 → Story F sb (3 + q) (imgL (3 + q)) now [] w1 → (∀ k, F k → w.heap.size ≤ k) → Fr New w w1 → Calls Tryz.prog 23 #[.pointer (some ⟨sb, 0, none⟩), .int .i64 1, .int .i64 (p : Int)] w1 fun e w' => e = .returned (.bool true) ∧ ∃ now1 F', Story F' sb (3 + q) (imgL (3 + q)) now1 [] w' ∧ (∀ k, F' k → w.heap.size ≤ k) ∧ Fr New w w' ∧ AllocTo now (3 + q) 1 p now1) := fun F sb now p w1 h8 hS hF hf => by
    refine (kalloc_any F sb (3 + q) (imgL (3 + q)) now [] 1 p (by omega) (by omega) (by omega) w1 hS).mono ?_
    rintro e w' ⟨rfl, now1, F', q1, q2, q3, q4⟩
    refine ⟨rfl, now1, F', q1, fun k hk => ?_, hf.trans q2 (fun j hj h => by have := hF j h; omega), q4⟩
    rcases q3 k hk with h | h
    · exact hF k h
    · exact Nat.le_trans hf.size h
  have HZ : Hid (∀ wr, Fr New w wr → RawAt wr a0 z) := fun wr hf => hc.fr hf
  have HI : Hid (∀ i, I64 (z.getD i 0)) := hz
  clear hc hz hq hf hbl hfa
  go_enter Tryz.func13, Tryz.ntmps13
  go_upto_region 8 with (first
    | (go_at_call_of 16 (Value.int .i64 30); refine calls_same (HPB.out _) ?_)
    | (go_at_call 16; refine calls_same (HPF.out _) ?_)
    | (go_at_call 15; refine HBG.out.mono ?_; rintro e w1 ⟨sb, F1, rfl, hS1, hF1, hf1⟩)
    | (go_at_call 17; refine (HWK.out w1).mono ?_; rintro e w2 ⟨rfl, hf2⟩)
    | (go_at_call_of 23 (Value.int .i64 0); refine (HAL.out F3 sb now1 0 w3 (by omega) hS3 hF3 hf3).mono ?_; rintro e w4 ⟨rfl, now2, F4, hS4, hF4, hf4, ha4⟩)
    | (go_at_call 23; refine (HAL.out F1 sb _ 1 w2 (by omega) (hS1.new hf2) hF1 (hf1.same hf2)).mono ?_; rintro e w3 ⟨rfl, now1, F3, hS3, hF3, hf3, ha3⟩)
    | fail)
  obtain ⟨hW2, hO2, hsr, hFm⟩ := fm_alloc (n := 3 + q) (by omega) (by omega) ha3 ha4
  obtain ⟨hb, tb, cb, mb, g, vs, vn, vk, un, uk, S, hFt⟩ := hS4
  have HSR : Hid (Calls Tryz.prog 35 #[.pointer (some ⟨hb, 0, none⟩), .int .i64 3, .int .i64 1] w4 fun e w' => e = .returned (.int .i64 0) ∧ w'.cell? ⟨sb, 6, none⟩ = some (.int .i64 (wd now2 6)) ∧ w'.frozen? ⟨sb, 6, none⟩ = false ∧ sb < w'.heap.size ∧ Story F4 sb (3 + q) (imgL (3 + q)) (now2.set 6 1) [] (w'.setCell ⟨sb, 6, none⟩ (.int .i64 1)) ∧ Fr New w (w'.setCell ⟨sb, 6, none⟩ (.int .i64 1))) := by
    refine (hsetRoot_any hb tb cb mb g vs (imgL (3 + q)) now2 [] 3 1 w4 (by omega) (by omega) S.ph).mono ?_
    rw [hsr]
    rintro e w' ⟨rfl, hp, hfr⟩
    obtain ⟨n1, _, _⟩ := S.next hfr hp
    obtain ⟨r1, r2⟩ := root_late (i := 3) (x := 1) S hFt (by omega) (.inr ⟨⟨0, 1, 1⟩, by rw [hO2]; simp, rfl⟩) hp hfr
    exact ⟨rfl, ((block_cells n1).1 6).trans rfl, (block_cells n1).2 6, lt_of_block n1, r1, hf4.trans r2 (fun j hj h => by have := hF4 j h; omega)⟩
  have HFK : Hid (∀ k, F4 k → w.heap.size ≤ k) := hF4
  have HFM : Hid (Fm (3 + q) (now2.set 6 1)) := hFm
  have c0 := S.c0
  clear hS1 hF1 hf1 hf2 hS3 hF3 hf3 ha3 ha4 hF4 hf4 hW2 hO2 hsr hFm S hFt HBG HWK HAL HPB HPF
  go_upto_region 11 with (first
    | (go_at_call 35; refine HSR.out.mono ?_; rintro e w5 ⟨rfl, s6, sz6, sl5, hS5, hf5⟩)
    | fail)
  have HST : Hid (∃ now, Story F4 sb (3 + q) (imgL (3 + q)) now [] (w5.setCell ⟨sb, 6, none⟩ (.int .i64 1)) ∧ Fm (3 + q) now ∧ Fr New w (w5.setCell ⟨sb, 6, none⟩ (.int .i64 1))) := ⟨_, hS5, HFM.out, hf5⟩
  obtain ⟨w6, hw6⟩ : ∃ x, x = w5.setCell ⟨sb, 6, none⟩ (.int .i64 1) := ⟨_, rfl⟩
  rw [← hw6] at HST
  rw [← hw6]
  clear hw6 hS5 hf5 s6 sz6 sl5 c0 HSR HFM
  go_wp2
  go_loopg [12] (z.length + 8) (fun gh vi wr => ∃ i : Nat, vi = .int .i64 (i : Int) ∧ gh = z.length + 8 - i ∧ i ≤ z.length + 4 ∧ ∃ now, Story F4 sb (3 + q) (imgL (3 + q)) now [] wr ∧ Fm (3 + q) now ∧ Fr New w wr)
  case atStart => exact ⟨0, rfl, by omega, by omega, HST.out⟩
  case round =>
    clear HST
    obtain ⟨i, rfl, rfl, hi4, now, hS, hFm, hf⟩ := hrel
    by_cases hi : i + 3 < z.length
    · have hd0 : decide ((i : Int) + 3 < (z.length : Int)) = true := by simp; omega
      obtain ⟨ad, rfl, r1⟩ := HZ.out wr hf (i + 1) (by omega)
      obtain ⟨z1, hz1⟩ : ∃ x, x = z.getD (i + 1) 0 := ⟨_, rfl⟩
      obtain ⟨z2, hz2⟩ : ∃ x, x = z.getD (i + 2) 0 := ⟨_, rfl⟩
      obtain ⟨z3, hz3⟩ : ∃ x, x = z.getD (i + 3) 0 := ⟨_, rfl⟩
      clear r1
      have HPL : Hid (∀ w1, Fr New wr w1 → Calls Tryz.prog 18 #[.pointer (some ⟨sb, 0, none⟩), .int .i64 4, .int .i64 z1, .int .i64 z2, .int .i64 z3] w1 fun e w' => e = .returned (.bool true) ∧ Fr New w w' ∧ ∃ now, Story F4 sb (3 + q) (imgL (3 + q)) now [] w' ∧ Fm (3 + q) now ∧ Fr New w w') := fun w1 hf1 => by
        refine (play_four F4 sb (3 + q) (imgL (3 + q)) now [] z1 z2 z3 w1 (by rw [hz1]; exact HI.out _) (by rw [hz2]; exact HI.out _) (by rw [hz3]; exact HI.out _) (hS.new hf1) (by rw [things_len, hFm.ob]; simp)).mono ?_
        rintro e w' ⟨rfl, now', p1, p2, p3, p4⟩
        have hfw : Fr New w w' := (hf.same hf1).trans p2 (fun j hj h => by have := HFK.out j h; omega)
        obtain ⟨_, _, _, _, _, _, _, _, _, _, S', _⟩ := id p1
        exact ⟨rfl, hfw, now', p1, hFm.more S'.hw p3 p4, hfw⟩
      have HFW : Hid (Fr New w wr) := hf
      have HRW : Hid (∀ w', Fr New w w' → w'.cell? ⟨ad.block, ad.off + (i + 1), none⟩ = some (.int .i64 z1) ∧ w'.cell? ⟨ad.block, ad.off + (i + 1 + 1), none⟩ = some (.int .i64 z2) ∧ w'.cell? ⟨ad.block, ad.off + (i + 2 + 1), none⟩ = some (.int .i64 z3)) := fun w' hf' => by
        rw [hz1, hz2, hz3]
        refine ⟨?_, ?_, ?_⟩
        · obtain ⟨_, e, r⟩ := HZ.out w' hf' (i + 1) (by omega); cases e; rw [add_succ] at r; exact r
        · obtain ⟨_, e, r⟩ := HZ.out w' hf' (i + 2) (by omega); cases e; rw [add_succ] at r; exact r
        · obtain ⟨_, e, r⟩ := HZ.out w' hf' (i + 3) (by omega); cases e; rw [add_succ] at r; exact r
      obtain ⟨r1, r2, r3⟩ := HRW.out wr HFW.out
      clear hz1 hz2 hz3 hS hFm hf
      have bl1 : (0 : Int) ≤ (i : Int) + 1 := by omega
      have bu1 : (i : Int) + 1 < (z.length : Int) := by omega
      have bt1 : ((i : Int) + 1).toNat = i + 1 := by omega
      have bw1 : IntKind.i64.wrap ((i : Int) + 1) = (i : Int) + 1 := by rw [IntKind.wrap_i64]; omega
      have bl2 : (0 : Int) ≤ (i : Int) + 2 := by omega
      have bu2 : (i : Int) + 2 < (z.length : Int) := by omega
      have bt2 : ((i : Int) + 2).toNat = i + 2 := by omega
      have bw2 : IntKind.i64.wrap ((i : Int) + 2) = (i : Int) + 2 := by rw [IntKind.wrap_i64]; omega
      have bl3 : (0 : Int) ≤ (i : Int) + 3 := by omega
      have bu3 : (i : Int) + 3 < (z.length : Int) := by omega
      have bt3 : ((i : Int) + 3).toNat = i + 3 := by omega
      have bw3 : IntKind.i64.wrap ((i : Int) + 3) = (i : Int) + 3 := by rw [IntKind.wrap_i64]; omega
      go_upto_region 14 with fail
      go_region_held3 (fun w' => w'.cell? ⟨ad.block, ad.off + (i + 1), none⟩ = some (.int .i64 z1) ∧ w'.cell? ⟨ad.block, ad.off + (i + 1 + 1), none⟩ = some (.int .i64 z2) ∧ w'.cell? ⟨ad.block, ad.off + (i + 2 + 1), none⟩ = some (.int .i64 z3)) (first | go_keep | exact hkeep2)
        (first
          | (go_at_call 18; refine (HPL.out _ (by first | exact Fr.refl _ _ | exact (Fr.refl _ _).drew)).mono ?_; rintro e w3 ⟨rfl, hf3, hend⟩; have hkeep2 : w3.cell? ⟨ad.block, ad.off + (i + 1), none⟩ = some (.int .i64 z1) ∧ w3.cell? ⟨ad.block, ad.off + (i + 1 + 1), none⟩ = some (.int .i64 z2) ∧ w3.cell? ⟨ad.block, ad.off + (i + 2 + 1), none⟩ = some (.int .i64 z3) := HRW.out w3 hf3)
          | fail)
      all_goals
        clear hkeep2
        go_wp2_with fail
        go_roundg (z.length + 8 - (i + 4))
        case measure => omega
        case rel =>
          refine ⟨i + 4, by go_num, rfl, by omega, ?_⟩
          obtain ⟨now', p1, p2, p3⟩ := hend
          first
            | exact ⟨now', p1, p2, p3⟩
            | exact ⟨now', p1.new (Fr.refl New _).drew, p2, p3.drew⟩
    · have hd0 : decide ((i : Int) + 3 < (z.length : Int)) = false := by simp; omega
      obtain ⟨hb, tb, cb, mb, g, vs, vn, vk, un, H⟩ := hS.half HFK.out hf
      have HOB : Hid (objs now = fobs) := hFm.ob
      have HFM : Hid (Fm (3 + q) now) := hFm
      have hlen2 : (things now).length = 2 := by rw [things_len, hFm.ob]; rfl
      obtain ⟨g2, cv, hvn⟩ : ∃ g2 cv, vn = .slice (some ⟨g2, 0, none⟩) 2 cv := by
        obtain ⟨g2, cv, _, _, h, _⟩ := H.tn.at' 0 (by omega)
        rw [hlen2] at h
        exact ⟨g2, cv, h⟩
      subst hvn
      obtain ⟨A, hA⟩ : ∃ A, A = stArr hb (3 + q) (.slice (some ⟨g2, 0, none⟩) 2 cv) vk now (imgL (3 + q)) := ⟨_, rfl⟩
      rw [← hA] at H
      have HC : Hid (∀ w1, Hf w sb hb tb cb mb g vs (.slice (some ⟨g2, 0, none⟩) 2 cv) un A (imgL (3 + q)) now now [] w1 → w1.cell? ⟨sb, 0, none⟩ = some (.pointer (some ⟨hb, 0, none⟩)) ∧ w1.cell? ⟨sb, 2, none⟩ = some (.slice (some ⟨g2, 0, none⟩) 2 cv) ∧ w1.cell? ⟨sb, 3, none⟩ = some (.int .i64 0) ∧ w1.cell? ⟨sb, 4, none⟩ = some (.int .i64 0) ∧ w1.cell? ⟨sb, 5, none⟩ = some (.int .i64 0) ∧ w1.cell? ⟨sb, 6, none⟩ = some (.int .i64 1) ∧ sb < w1.heap.size) := fun w1 h => by
        refine ⟨?_, ?_, ?_, ?_, ?_, ?_, h.lt⟩
        · rw [h.cell, hA]; rfl
        · rw [h.cell, hA]; rfl
        · rw [h.cell, hA, ← hFm.r0]; rfl
        · rw [h.cell, hA, ← hFm.r1]; rfl
        · rw [h.cell, hA, ← hFm.r2]; rfl
        · rw [h.cell, hA, ← hFm.r3]; rfl
      have HFO : Hid (∀ n w1, (n ≤ 0 ∨ 33 ≤ n) → Calls Tryz.prog 37 #[.int .i64 n] w1 fun e w' => e = .returned (.tuple #[.slice none 0 0, .int .i64 1]) ∧ w' = w1) := fun n w1 h => fmt_no n w1 (by omega)
      have HH : Hid (Hf w sb hb tb cb mb g vs (.slice (some ⟨g2, 0, none⟩) 2 cv) un A (imgL (3 + q)) now now [] wr) := H
      clear hA hlen2 H hS hFm hf HZ HI
      go_upto_region 23 with (first
        | (go_at_call 37; refine calls_same (HFO.out _ _ (by omega)) ?_)
        | fail)
      have HT0 : Hid (((wr.alloc (.cells #[.int .i64 0, .int .i64 (-1 - (f : Int)), .int .i64 (5 + (f : Int)), .int .i64 1, .int .i64 1, .int .i64 2] 3)).alloc (.cells #[.int .i64 0, .int .i64 0, .int .i64 0, .int .i64 (-1 - (f : Int)), .int .i64 (8 + (f : Int)), .int .i64 (16 + (f : Int))] 3)).heap[wr.heap.size]? = some (.cells #[.int .i64 0, .int .i64 (-1 - (f : Int)), .int .i64 (5 + (f : Int)), .int .i64 1, .int .i64 1, .int .i64 2] 3 (0, 0)) ∧ ((wr.alloc (.cells #[.int .i64 0, .int .i64 (-1 - (f : Int)), .int .i64 (5 + (f : Int)), .int .i64 1, .int .i64 1, .int .i64 2] 3)).alloc (.cells #[.int .i64 0, .int .i64 0, .int .i64 0, .int .i64 (-1 - (f : Int)), .int .i64 (8 + (f : Int)), .int .i64 (16 + (f : Int))] 3)).heap[wr.heap.size + 1]? = some (.cells #[.int .i64 0, .int .i64 0, .int .i64 0, .int .i64 (-1 - (f : Int)), .int .i64 (8 + (f : Int)), .int .i64 (16 + (f : Int))] 3 (0, 0))) := by
        refine ⟨((Fr.refl New _).alloc _).heap (Go.Deep.blk_alloc_new wr _) id, ?_⟩
        have := Go.Deep.blk_alloc_new (wr.alloc (.cells #[.int .i64 0, .int .i64 (-1 - (f : Int)), .int .i64 (5 + (f : Int)), .int .i64 1, .int .i64 1, .int .i64 2] 3)) (.cells #[.int .i64 0, .int .i64 0, .int .i64 0, .int .i64 (-1 - (f : Int)), .int .i64 (8 + (f : Int)), .int .i64 (16 + (f : Int))] 3)
        rwa [World.size_alloc] at this
      have HN0 : Hid (Fr New wr ((wr.alloc (.cells #[.int .i64 0, .int .i64 (-1 - (f : Int)), .int .i64 (5 + (f : Int)), .int .i64 1, .int .i64 1, .int .i64 2] 3)).alloc (.cells #[.int .i64 0, .int .i64 0, .int .i64 0, .int .i64 (-1 - (f : Int)), .int .i64 (8 + (f : Int)), .int .i64 (16 + (f : Int))] 3))) := (((Fr.refl New _).alloc _).alloc _)
      have HMB : Hid (mb < wr.heap.size) := HH.out.mblt
      obtain ⟨w7, hww7⟩ : ∃ x, x = (wr.alloc (.cells #[.int .i64 0, .int .i64 (-1 - (f : Int)), .int .i64 (5 + (f : Int)), .int .i64 1, .int .i64 1, .int .i64 2] 3)).alloc (.cells #[.int .i64 0, .int .i64 0, .int .i64 0, .int .i64 (-1 - (f : Int)), .int .i64 (8 + (f : Int)), .int .i64 (16 + (f : Int))] 3) := ⟨_, rfl⟩
      obtain ⟨gs, hggs⟩ : ∃ x, x = wr.heap.size := ⟨_, rfl⟩
      rw [← hww7, ← hggs] at HT0
      rw [← hww7] at HN0
      rw [← hggs] at HMB
      rw [← hww7, ← hggs]
      have HTB : Hid (∀ w1, Fr (fun k => k = mb) w7 w1 → ∀ i, i < 6 → w1.cell? ⟨gs, i, none⟩ = some (.int .i64 (fsp (f : Int) i)) ∧ w1.cell? ⟨gs + 1, i, none⟩ = some (.int .i64 (fpt (f : Int) i))) := fun w1 hf i hi => by
        obtain ⟨t1, t2⟩ := HT0.out
        have u1 := (block_cells (hf.heap t1 (by have := HMB.out; omega))).1 i
        have u2 := (block_cells (hf.heap t2 (by have := HMB.out; omega))).1 i
        rw [u1, u2]
        exact fs_arr (f : Int) hi
      have H0 : Hid (Hf w sb hb tb cb mb g vs (.slice (some ⟨g2, 0, none⟩) 2 cv) un A (imgL (3 + q)) now now [] w7 ∧ Fr (fun k => k = mb) w7 w7) := ⟨HH.out.new HN0.out, Fr.refl _ _⟩
      have HDR : Hid (∀ w1, (Hf w sb hb tb cb mb g vs (.slice (some ⟨g2, 0, none⟩) 2 cv) un A (imgL (3 + q)) now now [] w1 ∧ Fr (fun k => k = mb) w7 w1) → (Hf w sb hb tb cb mb g vs (.slice (some ⟨g2, 0, none⟩) 2 cv) un A (imgL (3 + q)) now now [] w1.drew ∧ Fr (fun k => k = mb) w7 w1.drew)) := fun w1 h => ⟨h.1.new (Fr.refl New _).drew, h.2.drew⟩
      clear hww7 hggs HT0 HN0 HH
      go_wp2
      go_loopg [20] 6 (fun gh t wr => ∃ i : Nat, i ≤ 6 ∧ gh = 6 - i ∧ t = .int .i64 (i : Int) ∧ (Hf w sb hb tb cb mb g vs (.slice (some ⟨g2, 0, none⟩) 2 cv) un A (imgL (3 + q)) now now [] wr ∧ Fr (fun k => k = mb) w7 wr))
      case atStart => exact ⟨0, by omega, rfl, rfl, H0.out⟩
      case round =>
        clear H0
        obtain ⟨i, hin, rfl, rfl, hK⟩ := hrel
        by_cases hi : i < 6
        · have hd0 : decide ((i : Int) < 6) = true := by simp; omega
          have b0 : (0 : Int) ≤ (i : Int) := by omega
          have b1 : (i : Int) < 6 := by omega
          obtain ⟨c0, _⟩ := HC.out wr hK.1
          obtain ⟨t1, t2⟩ := HTB.out wr hK.2 i hi
          have hbad := fs_bad (f := (f : Int)) (by omega) hi
          obtain ⟨s, hs⟩ : ∃ s, s = fsp (f : Int) i := ⟨_, rfl⟩
          obtain ⟨p, hp⟩ : ∃ p, p = fpt (f : Int) i := ⟨_, rfl⟩
          rw [← hs] at t1 hbad
          rw [← hp] at t2 hbad
          have HA1 : Hid (∀ w1, (Hf w sb hb tb cb mb g vs (.slice (some ⟨g2, 0, none⟩) 2 cv) un A (imgL (3 + q)) now now [] w1 ∧ Fr (fun k => k = mb) w7 w1) → Calls Tryz.prog 38 #[.pointer (some ⟨hb, 0, none⟩), .int .i64 s, .int .i64 p] w1 fun e w' => e = .returned (.tuple #[.int .i64 0, .int .i64 1]) ∧ (Hf w sb hb tb cb mb g vs (.slice (some ⟨g2, 0, none⟩) 2 cv) un A (imgL (3 + q)) now now [] w' ∧ Fr (fun k => k = mb) w7 w')) := fun w1 h1 => by
            refine (h1.1.badAlloc HFM.out.hw.gn.bad s p hbad).mono ?_
            rintro e w' ⟨rfl, hh, hf⟩
            exact ⟨rfl, hh, h1.2.trans hf (fun _ _ e => e)⟩
          have HKS : Hid (∀ w1, (Hf w sb hb tb cb mb g vs (.slice (some ⟨g2, 0, none⟩) 2 cv) un A (imgL (3 + q)) now now [] w1 ∧ Fr (fun k => k = mb) w7 w1) → w1.cell? ⟨sb, 0, none⟩ = some (.pointer (some ⟨hb, 0, none⟩)) ∧ w1.cell? ⟨gs, i, none⟩ = some (.int .i64 s) ∧ w1.cell? ⟨gs + 1, i, none⟩ = some (.int .i64 p)) := fun w1 h1 => by
            obtain ⟨d0, _⟩ := HC.out w1 h1.1
            obtain ⟨d1, d2⟩ := HTB.out w1 h1.2 i hi
            rw [hs, hp]
            exact ⟨d0, d1, d2⟩
          clear hs hp hbad
          go_upto_region 26 with fail
          go_region_held3 (fun w' => w'.cell? ⟨sb, 0, none⟩ = some (.pointer (some ⟨hb, 0, none⟩)) ∧ w'.cell? ⟨gs, i, none⟩ = some (.int .i64 s) ∧ w'.cell? ⟨gs + 1, i, none⟩ = some (.int .i64 p)) (first | go_keep | exact hkpv1)
            (first
              | (go_at_call 38; refine (HA1.out _ (by first | exact hK | exact HDR.out _ hK)).mono ?_; rintro e v1 ⟨rfl, hK1⟩; have hkpv1 : v1.cell? ⟨sb, 0, none⟩ = some (.pointer (some ⟨hb, 0, none⟩)) ∧ v1.cell? ⟨gs, i, none⟩ = some (.int .i64 s) ∧ v1.cell? ⟨gs + 1, i, none⟩ = some (.int .i64 p) := HKS.out _ hK1)
              | fail)
          all_goals
            clear hkpv1
            go_wp2_with fail
            go_roundg (6 - (i + 1))
            case measure => omega
            case rel => exact ⟨i + 1, by omega, rfl, by go_num, (by first | exact hK1 | exact HDR.out _ hK1)⟩
        · obtain rfl : i = 6 := by omega
          have hd0 : decide ((6 : Int) < 6) = false := by simp
          have HH : Hid (Hf w sb hb tb cb mb g vs (.slice (some ⟨g2, 0, none⟩) 2 cv) un A (imgL (3 + q)) now now [] wr) := hK.1
          clear hK hin hi HTB HDR HMB
          as_aux_lemma =>
            go_upto_region 30 with fail
            have HT0 : Hid ((wr.alloc (.cells #[.int .i64 0, .int .i64 (-1 - (f : Int)), .int .i64 3, .int .i64 (40 + (f : Int))] 3)).heap[wr.heap.size]? = some (.cells #[.int .i64 0, .int .i64 (-1 - (f : Int)), .int .i64 3, .int .i64 (40 + (f : Int))] 3 (0, 0))) := by
              exact Go.Deep.blk_alloc_new wr _
            have HN0 : Hid (Fr New wr (wr.alloc (.cells #[.int .i64 0, .int .i64 (-1 - (f : Int)), .int .i64 3, .int .i64 (40 + (f : Int))] 3))) := ((Fr.refl New _).alloc _)
            have HMB : Hid (mb < wr.heap.size) := HH.out.mblt
            obtain ⟨w8, hww8⟩ : ∃ x, x = wr.alloc (.cells #[.int .i64 0, .int .i64 (-1 - (f : Int)), .int .i64 3, .int .i64 (40 + (f : Int))] 3) := ⟨_, rfl⟩
            obtain ⟨gh, hggh⟩ : ∃ x, x = wr.heap.size := ⟨_, rfl⟩
            rw [← hww8, ← hggh] at HT0
            rw [← hww8] at HN0
            rw [← hggh] at HMB
            rw [← hww8, ← hggh]
            have HTB : Hid (∀ w1, Fr (fun k => k = mb) w8 w1 → ∀ i, i < 4 → w1.cell? ⟨gh, i, none⟩ = some (.int .i64 (fhn (f : Int) i))) := fun w1 hf i hi => by
              have u1 := (block_cells (hf.heap HT0.out (by have := HMB.out; omega))).1 i
              rw [u1]
              exact fh_arr (f : Int) hi
            have H0 : Hid (Hf w sb hb tb cb mb g vs (.slice (some ⟨g2, 0, none⟩) 2 cv) un A (imgL (3 + q)) now now [] w8 ∧ Fr (fun k => k = mb) w8 w8) := ⟨HH.out.new HN0.out, Fr.refl _ _⟩
            have HDR : Hid (∀ w1, (Hf w sb hb tb cb mb g vs (.slice (some ⟨g2, 0, none⟩) 2 cv) un A (imgL (3 + q)) now now [] w1 ∧ Fr (fun k => k = mb) w8 w1) → (Hf w sb hb tb cb mb g vs (.slice (some ⟨g2, 0, none⟩) 2 cv) un A (imgL (3 + q)) now now [] w1.drew ∧ Fr (fun k => k = mb) w8 w1.drew)) := fun w1 h => ⟨h.1.new (Fr.refl New _).drew, h.2.drew⟩
            clear hww8 hggh HT0 HN0 HH
            go_wp2
            go_loopg [24] 4 (fun gh t wr => ∃ i : Nat, i ≤ 4 ∧ gh = 4 - i ∧ t = .int .i64 (i : Int) ∧ (Hf w sb hb tb cb mb g vs (.slice (some ⟨g2, 0, none⟩) 2 cv) un A (imgL (3 + q)) now now [] wr ∧ Fr (fun k => k = mb) w8 wr))
            case atStart => exact ⟨0, by omega, rfl, rfl, H0.out⟩
            case round =>
              clear H0
              obtain ⟨i, hin, rfl, rfl, hK⟩ := hrel
              by_cases hi : i < 4
              · have hd0 : decide ((i : Int) < 4) = true := by simp; omega
                have b0 : (0 : Int) ≤ (i : Int) := by omega
                have b1 : (i : Int) < 4 := by omega
                obtain ⟨c0, _⟩ := HC.out wr hK.1
                have t1 := HTB.out wr hK.2 i hi
                obtain ⟨x1, x2, x3, x4⟩ := fh_bad (f := (f : Int)) (by omega) (by omega) hi
                obtain ⟨x, hx⟩ : ∃ s, s = fhn (f : Int) i := ⟨_, rfl⟩
                rw [← hx] at t1 x1 x2 x3 x4
                have HR1 : Hid (∀ w1, (Hf w sb hb tb cb mb g vs (.slice (some ⟨g2, 0, none⟩) 2 cv) un A (imgL (3 + q)) now now [] w1 ∧ Fr (fun k => k = mb) w8 w1) → Calls Tryz.prog 39 #[.pointer (some ⟨hb, 0, none⟩), .int .i64 x, .int .i64 (-1)] w1 fun e w' => e = .returned (.tuple #[.int .u64 0, .int .i64 9]) ∧ (Hf w sb hb tb cb mb g vs (.slice (some ⟨g2, 0, none⟩) 2 cv) un A (imgL (3 + q)) now now [] w' ∧ Fr (fun k => k = mb) w8 w')) := fun w1 h1 => by
                  refine (h1.1.noRead HOB.out x (-1) x1 x2 ⟨x3, x4⟩).mono ?_
                  rintro e w' ⟨rfl, hf⟩
                  exact ⟨rfl, h1.1.new hf, h1.2.same hf⟩
                have HW1 : Hid (∀ w1, (Hf w sb hb tb cb mb g vs (.slice (some ⟨g2, 0, none⟩) 2 cv) un A (imgL (3 + q)) now now [] w1 ∧ Fr (fun k => k = mb) w8 w1) → Calls Tryz.prog 26 #[.pointer (some ⟨hb, 0, none⟩), .int .i64 x, .int .i64 (-1), .int .u64 0] w1 fun e w' => e = .returned (.int .i64 9) ∧ (Hf w sb hb tb cb mb g vs (.slice (some ⟨g2, 0, none⟩) 2 cv) un A (imgL (3 + q)) now now [] w' ∧ Fr (fun k => k = mb) w8 w')) := fun w1 h1 => by
                  refine (h1.1.noWrite HOB.out x (-1) 0 x1 x2 (by unfold U; omega) ⟨x3, x4⟩).mono ?_
                  rintro e w' ⟨rfl, hh, hf⟩
                  exact ⟨rfl, hh, h1.2.trans hf (fun _ _ e => e)⟩
                have HF1 : Hid (∀ w1, (Hf w sb hb tb cb mb g vs (.slice (some ⟨g2, 0, none⟩) 2 cv) un A (imgL (3 + q)) now now [] w1 ∧ Fr (fun k => k = mb) w8 w1) → Calls Tryz.prog 40 #[.pointer (some ⟨hb, 0, none⟩), .int .i64 x] w1 fun e w' => e = .returned (.int .i64 9) ∧ (Hf w sb hb tb cb mb g vs (.slice (some ⟨g2, 0, none⟩) 2 cv) un A (imgL (3 + q)) now now [] w' ∧ Fr (fun k => k = mb) w8 w')) := fun w1 h1 => by
                  refine (h1.1.noFree HOB.out x x1 x2 ⟨x3, x4⟩).mono ?_
                  rintro e w' ⟨rfl, hh, hf⟩
                  exact ⟨rfl, hh, h1.2.trans hf (fun _ _ e => e)⟩
                have HS1 : Hid (x ≠ 0 → ∀ w1, (Hf w sb hb tb cb mb g vs (.slice (some ⟨g2, 0, none⟩) 2 cv) un A (imgL (3 + q)) now now [] w1 ∧ Fr (fun k => k = mb) w8 w1) → Calls Tryz.prog 35 #[.pointer (some ⟨hb, 0, none⟩), .int .i64 0, .int .i64 x] w1 fun e w' => e = .returned (.int .i64 9) ∧ (Hf w sb hb tb cb mb g vs (.slice (some ⟨g2, 0, none⟩) 2 cv) un A (imgL (3 + q)) now now [] w' ∧ Fr (fun k => k = mb) w8 w')) := fun h0 w1 h1 => by
                  refine (h1.1.noRoot HOB.out x x1 x2 ⟨h0, x3, x4⟩).mono ?_
                  rintro e w' ⟨rfl, hh, hf⟩
                  exact ⟨rfl, hh, h1.2.trans hf (fun _ _ e => e)⟩
                have HKS : Hid (∀ w1, (Hf w sb hb tb cb mb g vs (.slice (some ⟨g2, 0, none⟩) 2 cv) un A (imgL (3 + q)) now now [] w1 ∧ Fr (fun k => k = mb) w8 w1) → w1.cell? ⟨sb, 0, none⟩ = some (.pointer (some ⟨hb, 0, none⟩)) ∧ w1.cell? ⟨gh, i, none⟩ = some (.int .i64 x)) := fun w1 h1 => by
                  obtain ⟨d0, _⟩ := HC.out w1 h1.1
                  rw [hx]
                  exact ⟨d0, HTB.out w1 h1.2 i hi⟩
                clear hx x3 x4
                go_upto_region 33 with fail
                go_region_held3 (fun w' => w'.cell? ⟨sb, 0, none⟩ = some (.pointer (some ⟨hb, 0, none⟩)) ∧ w'.cell? ⟨gh, i, none⟩ = some (.int .i64 x)) (first | go_keep | exact hkpv1)
                  (first
                    | (go_at_call 39; refine (HR1.out _ (by first | exact hK | exact HDR.out _ hK)).mono ?_; rintro e v1 ⟨rfl, hK1⟩; have hkpv1 : v1.cell? ⟨sb, 0, none⟩ = some (.pointer (some ⟨hb, 0, none⟩)) ∧ v1.cell? ⟨gh, i, none⟩ = some (.int .i64 x) := HKS.out _ hK1)
                    | fail)
                all_goals
                  clear hkpv1 c0 t1
                  first
                    | (obtain ⟨vA, hW⟩ : ∃ W, W = v1.drew := ⟨_, rfl⟩; rw [← hW]; have hKA : (Hf w sb hb tb cb mb g vs (.slice (some ⟨g2, 0, none⟩) 2 cv) un A (imgL (3 + q)) now now [] vA ∧ Fr (fun k => k = mb) w8 vA) := (by rw [hW]; exact HDR.out _ hK1); clear hW)
                    | (obtain ⟨vA, hW⟩ : ∃ W, W = v1 := ⟨_, rfl⟩; rw [← hW]; have hKA : (Hf w sb hb tb cb mb g vs (.slice (some ⟨g2, 0, none⟩) 2 cv) un A (imgL (3 + q)) now now [] vA ∧ Fr (fun k => k = mb) w8 vA) := (by rw [hW]; exact hK1); clear hW)
                  obtain ⟨e0, e1⟩ := HKS.out vA hKA
                  go_upto_region 34 with fail
                  go_region_held3 (fun w' => w'.cell? ⟨sb, 0, none⟩ = some (.pointer (some ⟨hb, 0, none⟩)) ∧ w'.cell? ⟨gh, i, none⟩ = some (.int .i64 x)) (first | go_keep | exact hkpv3 | exact hkpv2)
                    (first
                      | (go_at_call 26; refine (HW1.out _ (by first | exact hKA | exact HDR.out _ hKA)).mono ?_; rintro e v2 ⟨rfl, hK2⟩; have hkpv2 : v2.cell? ⟨sb, 0, none⟩ = some (.pointer (some ⟨hb, 0, none⟩)) ∧ v2.cell? ⟨gh, i, none⟩ = some (.int .i64 x) := HKS.out _ hK2)
                      | (go_at_call 40; refine (HF1.out _ (by first | exact hK2 | exact HDR.out _ hK2)).mono ?_; rintro e v3 ⟨rfl, hK3⟩; have hkpv3 : v3.cell? ⟨sb, 0, none⟩ = some (.pointer (some ⟨hb, 0, none⟩)) ∧ v3.cell? ⟨gh, i, none⟩ = some (.int .i64 x) := HKS.out _ hK3)
                      | fail)
                  all_goals
                    clear hkpv2 hkpv3 e0 e1
                    first
                      | (obtain ⟨vB, hW⟩ : ∃ W, W = v3.drew := ⟨_, rfl⟩; rw [← hW]; have hKB : (Hf w sb hb tb cb mb g vs (.slice (some ⟨g2, 0, none⟩) 2 cv) un A (imgL (3 + q)) now now [] vB ∧ Fr (fun k => k = mb) w8 vB) := (by rw [hW]; exact HDR.out _ hK3); clear hW)
                      | (obtain ⟨vB, hW⟩ : ∃ W, W = v3 := ⟨_, rfl⟩; rw [← hW]; have hKB : (Hf w sb hb tb cb mb g vs (.slice (some ⟨g2, 0, none⟩) 2 cv) un A (imgL (3 + q)) now now [] vB ∧ Fr (fun k => k = mb) w8 vB) := (by rw [hW]; exact hK3); clear hW)
                    by_cases hx0 : x = 0
                    · have hxb : (x != 0) = false := by simpa using hx0
                      have hxc : (x == 0) = true := by simpa using hx0
                      have HX0 : Hid (x = 0) := hx0
                      clear hx0
                      obtain ⟨e0, e1⟩ := HKS.out vB hKB
                      go_upto_region 36 with fail
                      go_quiet (fail)
                      go_wp2_with fail
                      go_roundg (4 - (i + 1))
                      case measure => omega
                      case rel => exact ⟨i + 1, by omega, rfl, by go_num, (by first | exact hKB | exact HDR.out _ hKB | exact ⟨hKB.1.new ((Fr.refl New _).drewN _), hKB.2.same ((Fr.refl New _).drewN _)⟩)⟩
                    · have hxb : (x != 0) = true := by simpa using hx0
                      have hxc : (x == 0) = false := by simpa using hx0
                      have HS2 : Hid (∀ w1, (Hf w sb hb tb cb mb g vs (.slice (some ⟨g2, 0, none⟩) 2 cv) un A (imgL (3 + q)) now now [] w1 ∧ Fr (fun k => k = mb) w8 w1) → Calls Tryz.prog 35 #[.pointer (some ⟨hb, 0, none⟩), .int .i64 0, .int .i64 x] w1 fun e w' => e = .returned (.int .i64 9) ∧ (Hf w sb hb tb cb mb g vs (.slice (some ⟨g2, 0, none⟩) 2 cv) un A (imgL (3 + q)) now now [] w' ∧ Fr (fun k => k = mb) w8 w')) := HS1.out hx0
                      obtain ⟨e0, e1⟩ := HKS.out vB hKB
                      go_upto_region 36 with fail
                      go_region_held3 (fun w' => w'.cell? ⟨sb, 0, none⟩ = some (.pointer (some ⟨hb, 0, none⟩)) ∧ w'.cell? ⟨gh, i, none⟩ = some (.int .i64 x)) (first | go_keep | exact hkpv4)
                        (first
                          | (go_at_call 35; refine (HS2.out _ (by first | exact hKB | exact HDR.out _ hKB)).mono ?_; rintro e v4 ⟨rfl, hK4⟩; have hkpv4 : v4.cell? ⟨sb, 0, none⟩ = some (.pointer (some ⟨hb, 0, none⟩)) ∧ v4.cell? ⟨gh, i, none⟩ = some (.int .i64 x) := HKS.out _ hK4)
                          | fail)
                      all_goals
                        clear hkpv4
                        go_wp2_with fail
                        go_roundg (4 - (i + 1))
                        case measure => omega
                        case rel => exact ⟨i + 1, by omega, rfl, by go_num, (by first | exact hK4 | exact HDR.out _ hK4)⟩
              · obtain rfl : i = 4 := by omega
                have hd0 : decide ((4 : Int) < 4) = false := by simp
                have HH : Hid (Hf w sb hb tb cb mb g vs (.slice (some ⟨g2, 0, none⟩) 2 cv) un A (imgL (3 + q)) now now [] wr) := hK.1
                clear hK hin hi HTB HDR HMB
                as_aux_lemma =>
                  go_upto_region 39 with fail
                  have HT0 : Hid ((wr.alloc (.cells #[.int .i64 (-1 - (f : Int)), .int .i64 (7 + (f : Int))] 3)).heap[wr.heap.size]? = some (.cells #[.int .i64 (-1 - (f : Int)), .int .i64 (7 + (f : Int))] 3 (0, 0))) := by
                    exact Go.Deep.blk_alloc_new wr _
                  have HN0 : Hid (Fr New wr (wr.alloc (.cells #[.int .i64 (-1 - (f : Int)), .int .i64 (7 + (f : Int))] 3))) := ((Fr.refl New _).alloc _)
                  have HMB : Hid (mb < wr.heap.size) := HH.out.mblt
                  obtain ⟨w9, hww9⟩ : ∃ x, x = wr.alloc (.cells #[.int .i64 (-1 - (f : Int)), .int .i64 (7 + (f : Int))] 3) := ⟨_, rfl⟩
                  obtain ⟨gq, hggq⟩ : ∃ x, x = wr.heap.size := ⟨_, rfl⟩
                  rw [← hww9, ← hggq] at HT0
                  rw [← hww9] at HN0
                  rw [← hggq] at HMB
                  rw [← hww9, ← hggq]
                  have HTB : Hid (∀ w1, Fr (fun k => k = mb) w9 w1 → ∀ i, i < 2 → w1.cell? ⟨gq, i, none⟩ = some (.int .i64 (fpc (f : Int) i))) := fun w1 hf i hi => by
                    have u1 := (block_cells (hf.heap HT0.out (by have := HMB.out; omega))).1 i
                    rw [u1]
                    exact (fp_arr (f : Int) hi).1
                  have H0 : Hid (Hf w sb hb tb cb mb g vs (.slice (some ⟨g2, 0, none⟩) 2 cv) un A (imgL (3 + q)) now now [] w9 ∧ Fr (fun k => k = mb) w9 w9) := ⟨HH.out.new HN0.out, Fr.refl _ _⟩
                  have HDR : Hid (∀ w1, (Hf w sb hb tb cb mb g vs (.slice (some ⟨g2, 0, none⟩) 2 cv) un A (imgL (3 + q)) now now [] w1 ∧ Fr (fun k => k = mb) w9 w1) → (Hf w sb hb tb cb mb g vs (.slice (some ⟨g2, 0, none⟩) 2 cv) un A (imgL (3 + q)) now now [] w1.drew ∧ Fr (fun k => k = mb) w9 w1.drew)) := fun w1 h => ⟨h.1.new (Fr.refl New _).drew, h.2.drew⟩
                  clear hww9 hggq HT0 HN0 HH
                  go_wp2
                  go_loopg [28] 2 (fun gh t wr => ∃ i : Nat, i ≤ 2 ∧ gh = 2 - i ∧ t = .int .i64 (i : Int) ∧ (Hf w sb hb tb cb mb g vs (.slice (some ⟨g2, 0, none⟩) 2 cv) un A (imgL (3 + q)) now now [] wr ∧ Fr (fun k => k = mb) w9 wr))
                  case atStart => exact ⟨0, by omega, rfl, rfl, H0.out⟩
                  case round =>
                    clear H0
                    obtain ⟨i, hin, rfl, rfl, hK⟩ := hrel
                    by_cases hi : i < 2
                    · have hd0 : decide ((i : Int) < 2) = true := by simp; omega
                      have b0 : (0 : Int) ≤ (i : Int) := by omega
                      have b1 : (i : Int) < 2 := by omega
                      obtain ⟨c0, _⟩ := HC.out wr hK.1
                      have t1 := HTB.out wr hK.2 i hi
                      have hbad := (fp_bad (f := (f : Int)) (by omega) hi).1
                      obtain ⟨x, hx⟩ : ∃ s, s = fpc (f : Int) i := ⟨_, rfl⟩
                      rw [← hx] at t1 hbad
                      have HR1 : Hid (∀ w1, (Hf w sb hb tb cb mb g vs (.slice (some ⟨g2, 0, none⟩) 2 cv) un A (imgL (3 + q)) now now [] w1 ∧ Fr (fun k => k = mb) w9 w1) → Calls Tryz.prog 39 #[.pointer (some ⟨hb, 0, none⟩), .int .i64 1, .int .i64 x] w1 fun e w' => e = .returned (.tuple #[.int .u64 0, .int .i64 1]) ∧ (Hf w sb hb tb cb mb g vs (.slice (some ⟨g2, 0, none⟩) 2 cv) un A (imgL (3 + q)) now now [] w' ∧ Fr (fun k => k = mb) w9 w')) := fun w1 h1 => by
                        refine (h1.1.farRead HOB.out x hbad).mono ?_
                        rintro e w' ⟨rfl, hf⟩
                        exact ⟨rfl, h1.1.new hf, h1.2.same hf⟩
                      have HW1 : Hid (∀ w1, (Hf w sb hb tb cb mb g vs (.slice (some ⟨g2, 0, none⟩) 2 cv) un A (imgL (3 + q)) now now [] w1 ∧ Fr (fun k => k = mb) w9 w1) → Calls Tryz.prog 26 #[.pointer (some ⟨hb, 0, none⟩), .int .i64 1, .int .i64 x, .int .u64 0] w1 fun e w' => e = .returned (.int .i64 1) ∧ (Hf w sb hb tb cb mb g vs (.slice (some ⟨g2, 0, none⟩) 2 cv) un A (imgL (3 + q)) now now [] w' ∧ Fr (fun k => k = mb) w9 w')) := fun w1 h1 => by
                        refine (h1.1.farWrite HOB.out x hbad).mono ?_
                        rintro e w' ⟨rfl, hh, hf⟩
                        exact ⟨rfl, hh, h1.2.trans hf (fun _ _ e => e)⟩
                      have HKS : Hid (∀ w1, (Hf w sb hb tb cb mb g vs (.slice (some ⟨g2, 0, none⟩) 2 cv) un A (imgL (3 + q)) now now [] w1 ∧ Fr (fun k => k = mb) w9 w1) → w1.cell? ⟨sb, 0, none⟩ = some (.pointer (some ⟨hb, 0, none⟩)) ∧ w1.cell? ⟨gq, i, none⟩ = some (.int .i64 x)) := fun w1 h1 => by
                        obtain ⟨d0, _⟩ := HC.out w1 h1.1
                        rw [hx]
                        exact ⟨d0, HTB.out w1 h1.2 i hi⟩
                      clear hx hbad
                      go_upto_region 42 with fail
                      go_region_held3 (fun w' => w'.cell? ⟨sb, 0, none⟩ = some (.pointer (some ⟨hb, 0, none⟩)) ∧ w'.cell? ⟨gq, i, none⟩ = some (.int .i64 x)) (first | go_keep | exact hkpv1)
                        (first
                          | (go_at_call 39; refine (HR1.out _ (by first | exact hK | exact HDR.out _ hK)).mono ?_; rintro e v1 ⟨rfl, hK1⟩; have hkpv1 : v1.cell? ⟨sb, 0, none⟩ = some (.pointer (some ⟨hb, 0, none⟩)) ∧ v1.cell? ⟨gq, i, none⟩ = some (.int .i64 x) := HKS.out _ hK1)
                          | fail)
                      all_goals
                        clear hkpv1 c0 t1
                        first
                          | (obtain ⟨vA, hW⟩ : ∃ W, W = v1.drew := ⟨_, rfl⟩; rw [← hW]; have hKA : (Hf w sb hb tb cb mb g vs (.slice (some ⟨g2, 0, none⟩) 2 cv) un A (imgL (3 + q)) now now [] vA ∧ Fr (fun k => k = mb) w9 vA) := (by rw [hW]; exact HDR.out _ hK1); clear hW)
                          | (obtain ⟨vA, hW⟩ : ∃ W, W = v1 := ⟨_, rfl⟩; rw [← hW]; have hKA : (Hf w sb hb tb cb mb g vs (.slice (some ⟨g2, 0, none⟩) 2 cv) un A (imgL (3 + q)) now now [] vA ∧ Fr (fun k => k = mb) w9 vA) := (by rw [hW]; exact hK1); clear hW)
                        obtain ⟨e0, e1⟩ := HKS.out vA hKA
                        go_upto_region 43 with fail
                        go_region_held3 (fun w' => w'.cell? ⟨sb, 0, none⟩ = some (.pointer (some ⟨hb, 0, none⟩)) ∧ w'.cell? ⟨gq, i, none⟩ = some (.int .i64 x)) (first | go_keep | exact hkpv2)
                          (first
                            | (go_at_call 26; refine (HW1.out _ (by first | exact hKA | exact HDR.out _ hKA)).mono ?_; rintro e v2 ⟨rfl, hK2⟩; have hkpv2 : v2.cell? ⟨sb, 0, none⟩ = some (.pointer (some ⟨hb, 0, none⟩)) ∧ v2.cell? ⟨gq, i, none⟩ = some (.int .i64 x) := HKS.out _ hK2)
                            | fail)
                        all_goals
                          clear hkpv2
                          go_wp2_with fail
                          go_roundg (2 - (i + 1))
                          case measure => omega
                          case rel => exact ⟨i + 1, by omega, rfl, by go_num, (by first | exact hK2 | exact HDR.out _ hK2)⟩
                    · obtain rfl : i = 2 := by omega
                      have hd0 : decide ((2 : Int) < 2) = false := by simp
                      have HH : Hid (Hf w sb hb tb cb mb g vs (.slice (some ⟨g2, 0, none⟩) 2 cv) un A (imgL (3 + q)) now now [] wr) := hK.1
                      clear hK hin hi HTB HDR HMB
                      go_upto_region 46 with fail
                      have HT0 : Hid ((wr.alloc (.cells #[.int .i64 (-1 - (f : Int)), .int .i64 (4 + (f : Int))] 3)).heap[wr.heap.size]? = some (.cells #[.int .i64 (-1 - (f : Int)), .int .i64 (4 + (f : Int))] 3 (0, 0))) := by
                        exact Go.Deep.blk_alloc_new wr _
                      have HN0 : Hid (Fr New wr (wr.alloc (.cells #[.int .i64 (-1 - (f : Int)), .int .i64 (4 + (f : Int))] 3))) := ((Fr.refl New _).alloc _)
                      have HMB : Hid (mb < wr.heap.size) := HH.out.mblt
                      obtain ⟨w10, hww10⟩ : ∃ x, x = wr.alloc (.cells #[.int .i64 (-1 - (f : Int)), .int .i64 (4 + (f : Int))] 3) := ⟨_, rfl⟩
                      obtain ⟨gr, hggr⟩ : ∃ x, x = wr.heap.size := ⟨_, rfl⟩
                      rw [← hww10, ← hggr] at HT0
                      rw [← hww10] at HN0
                      rw [← hggr] at HMB
                      rw [← hww10, ← hggr]
                      have HTB : Hid (∀ w1, Fr (fun k => k = mb) w10 w1 → ∀ i, i < 2 → w1.cell? ⟨gr, i, none⟩ = some (.int .i64 (frt (f : Int) i))) := fun w1 hf i hi => by
                        have u1 := (block_cells (hf.heap HT0.out (by have := HMB.out; omega))).1 i
                        rw [u1]
                        exact (fp_arr (f : Int) hi).2
                      have H0 : Hid (Hf w sb hb tb cb mb g vs (.slice (some ⟨g2, 0, none⟩) 2 cv) un A (imgL (3 + q)) now now [] w10 ∧ Fr (fun k => k = mb) w10 w10) := ⟨HH.out.new HN0.out, Fr.refl _ _⟩
                      have HDR : Hid (∀ w1, (Hf w sb hb tb cb mb g vs (.slice (some ⟨g2, 0, none⟩) 2 cv) un A (imgL (3 + q)) now now [] w1 ∧ Fr (fun k => k = mb) w10 w1) → (Hf w sb hb tb cb mb g vs (.slice (some ⟨g2, 0, none⟩) 2 cv) un A (imgL (3 + q)) now now [] w1.drew ∧ Fr (fun k => k = mb) w10 w1.drew)) := fun w1 h => ⟨h.1.new (Fr.refl New _).drew, h.2.drew⟩
                      clear hww10 hggr HT0 HN0 HH
                      go_wp2
                      go_loopg [32] 2 (fun gh t wr => ∃ i : Nat, i ≤ 2 ∧ gh = 2 - i ∧ t = .int .i64 (i : Int) ∧ (Hf w sb hb tb cb mb g vs (.slice (some ⟨g2, 0, none⟩) 2 cv) un A (imgL (3 + q)) now now [] wr ∧ Fr (fun k => k = mb) w10 wr))
                      case atStart => exact ⟨0, by omega, rfl, rfl, H0.out⟩
                      case round =>
                        clear H0
                        obtain ⟨i, hin, rfl, rfl, hK⟩ := hrel
                        by_cases hi : i < 2
                        · have hd0 : decide ((i : Int) < 2) = true := by simp; omega
                          have b0 : (0 : Int) ≤ (i : Int) := by omega
                          have b1 : (i : Int) < 2 := by omega
                          obtain ⟨c0, _⟩ := HC.out wr hK.1
                          have t1 := HTB.out wr hK.2 i hi
                          have hbad := (fp_bad (f := (f : Int)) (by omega) hi).2
                          obtain ⟨x, hx⟩ : ∃ s, s = frt (f : Int) i := ⟨_, rfl⟩
                          rw [← hx] at t1 hbad
                          have HR1 : Hid (∀ w1, (Hf w sb hb tb cb mb g vs (.slice (some ⟨g2, 0, none⟩) 2 cv) un A (imgL (3 + q)) now now [] w1 ∧ Fr (fun k => k = mb) w10 w1) → Calls Tryz.prog 41 #[.pointer (some ⟨hb, 0, none⟩), .int .i64 x] w1 fun e w' => e = .returned (.tuple #[.int .i64 0, .int .i64 1]) ∧ (Hf w sb hb tb cb mb g vs (.slice (some ⟨g2, 0, none⟩) 2 cv) un A (imgL (3 + q)) now now [] w' ∧ Fr (fun k => k = mb) w10 w')) := fun w1 h1 => by
                            refine (h1.1.farRoot x hbad).mono ?_
                            rintro e w' ⟨rfl, rfl⟩
                            exact ⟨rfl, h1⟩
                          have HW1 : Hid (∀ w1, (Hf w sb hb tb cb mb g vs (.slice (some ⟨g2, 0, none⟩) 2 cv) un A (imgL (3 + q)) now now [] w1 ∧ Fr (fun k => k = mb) w10 w1) → Calls Tryz.prog 35 #[.pointer (some ⟨hb, 0, none⟩), .int .i64 x, .int .i64 (-1)] w1 fun e w' => e = .returned (.int .i64 1) ∧ (Hf w sb hb tb cb mb g vs (.slice (some ⟨g2, 0, none⟩) 2 cv) un A (imgL (3 + q)) now now [] w' ∧ Fr (fun k => k = mb) w10 w')) := fun w1 h1 => by
                            refine (h1.1.farSetRoot x hbad).mono ?_
                            rintro e w' ⟨rfl, hh, hf⟩
                            exact ⟨rfl, hh, h1.2.trans hf (fun _ _ e => e)⟩
                          have HKS : Hid (∀ w1, (Hf w sb hb tb cb mb g vs (.slice (some ⟨g2, 0, none⟩) 2 cv) un A (imgL (3 + q)) now now [] w1 ∧ Fr (fun k => k = mb) w10 w1) → w1.cell? ⟨sb, 0, none⟩ = some (.pointer (some ⟨hb, 0, none⟩)) ∧ w1.cell? ⟨gr, i, none⟩ = some (.int .i64 x)) := fun w1 h1 => by
                            obtain ⟨d0, _⟩ := HC.out w1 h1.1
                            rw [hx]
                            exact ⟨d0, HTB.out w1 h1.2 i hi⟩
                          clear hx hbad
                          go_upto_region 49 with fail
                          go_region_held3 (fun w' => w'.cell? ⟨sb, 0, none⟩ = some (.pointer (some ⟨hb, 0, none⟩)) ∧ w'.cell? ⟨gr, i, none⟩ = some (.int .i64 x)) (first | go_keep | exact hkpv1)
                            (first
                              | (go_at_call 41; refine (HR1.out _ (by first | exact hK | exact HDR.out _ hK)).mono ?_; rintro e v1 ⟨rfl, hK1⟩; have hkpv1 : v1.cell? ⟨sb, 0, none⟩ = some (.pointer (some ⟨hb, 0, none⟩)) ∧ v1.cell? ⟨gr, i, none⟩ = some (.int .i64 x) := HKS.out _ hK1)
                              | fail)
                          all_goals
                            clear hkpv1 c0 t1
                            first
                              | (obtain ⟨vA, hW⟩ : ∃ W, W = v1.drew := ⟨_, rfl⟩; rw [← hW]; have hKA : (Hf w sb hb tb cb mb g vs (.slice (some ⟨g2, 0, none⟩) 2 cv) un A (imgL (3 + q)) now now [] vA ∧ Fr (fun k => k = mb) w10 vA) := (by rw [hW]; exact HDR.out _ hK1); clear hW)
                              | (obtain ⟨vA, hW⟩ : ∃ W, W = v1 := ⟨_, rfl⟩; rw [← hW]; have hKA : (Hf w sb hb tb cb mb g vs (.slice (some ⟨g2, 0, none⟩) 2 cv) un A (imgL (3 + q)) now now [] vA ∧ Fr (fun k => k = mb) w10 vA) := (by rw [hW]; exact hK1); clear hW)
                            obtain ⟨e0, e1⟩ := HKS.out vA hKA
                            go_upto_region 50 with fail
                            go_region_held3 (fun w' => w'.cell? ⟨sb, 0, none⟩ = some (.pointer (some ⟨hb, 0, none⟩)) ∧ w'.cell? ⟨gr, i, none⟩ = some (.int .i64 x)) (first | go_keep | exact hkpv2)
                              (first
                                | (go_at_call 35; refine (HW1.out _ (by first | exact hKA | exact HDR.out _ hKA)).mono ?_; rintro e v2 ⟨rfl, hK2⟩; have hkpv2 : v2.cell? ⟨sb, 0, none⟩ = some (.pointer (some ⟨hb, 0, none⟩)) ∧ v2.cell? ⟨gr, i, none⟩ = some (.int .i64 x) := HKS.out _ hK2)
                                | fail)
                            all_goals
                              clear hkpv2
                              go_wp2_with fail
                              go_roundg (2 - (i + 1))
                              case measure => omega
                              case rel => exact ⟨i + 1, by omega, rfl, by go_num, (by first | exact hK2 | exact HDR.out _ hK2)⟩
                        · obtain rfl : i = 2 := by omega
                          have hd0 : decide ((2 : Int) < 2) = false := by simp
                          have HH : Hid (Hf w sb hb tb cb mb g vs (.slice (some ⟨g2, 0, none⟩) 2 cv) un A (imgL (3 + q)) now now [] wr) := hK.1
                          clear hK hin hi HTB HDR HMB
                          as_aux_lemma =>
                            have hm114 := pickN_lt (f : Int) (n := 114) (by omega)
                            have HPS : Hid (∀ w1, Calls Tryz.prog 16 #[.int .i64 (f : Int), .int .i64 114] w1 fun e w' => e = .returned (.int .i64 (pickN (f : Int) 114 : Nat)) ∧ w' = w1) := fun w1 => pickN_any (f : Int) 114 w1 (by unfold I64; omega) (by omega) (by omega)
                            obtain ⟨m, hm0⟩ : ∃ m : Nat, m = pickN (f : Int) 114 := ⟨_, rfl⟩
                            rw [← hm0] at HPS hm114
                            have hnb : nblk (List.replicate m (0 : Int)).length = 0 := by
                              rw [List.length_replicate]
                              unfold nblk
                              rw [if_neg (by omega)]
                            have hU0 : ∀ z ∈ List.replicate m (0 : Int), U z := fun z hz => by
                              rw [(List.mem_replicate.1 hz).2]; unfold U; omega
                            have HOS : Hid (∀ gg w1, Row w1 gg (List.replicate m (0 : Int)) → Calls Tryz.prog 20 #[.slice (some ⟨gg, 0, none⟩) m m] w1 fun e w' => e = .returned (.tuple #[.pointer none, .int .i64 2]) ∧ Fr New w1 w') := fun gg w1 hr => by
                              have := popen_any (some ⟨gg, 0, none⟩) m (List.replicate m (0 : Int)) w1 (by simp; omega) hU0 (Row.rowU hr)
                              rw [List.length_replicate] at this
                              refine this.mono ?_
                              rintro e w' ⟨v, c, rfl, hto, hf⟩
                              rcases hto with ⟨⟨_, rfl⟩ | ⟨h1, _⟩, rfl⟩ | ⟨h1, _⟩
                              · exact ⟨rfl, hf⟩
                              · exact absurd hnb h1
                              · exact absurd hnb h1.1
                            have HRS : Hid (∀ gg w1, Row w1 gg (List.replicate m (0 : Int)) → Calls Tryz.prog 32 #[.slice (some ⟨gg, 0, none⟩) m m] w1 fun e w' => e = .returned (.tuple #[.slice none 0 0, .int .i64 2]) ∧ Fr New w1 w') := fun gg w1 hr => by
                              have := prepair_any (some ⟨gg, 0, none⟩) m (List.replicate m (0 : Int)) w1 (by simp; omega) hU0 (Row.rowU hr)
                              rw [List.length_replicate] at this
                              refine this.mono ?_
                              rintro e w' ⟨v, r, c, rfl, hR, hc, hf⟩
                              rcases hR with ⟨_, rfl, _⟩ | ⟨h1, _⟩
                              · rcases hc with ⟨_, rfl, _⟩ | ⟨h, _⟩
                                · exact ⟨rfl, hf⟩
                                · omega
                              · exact absurd hnb h1
                            have HCS : Hid (∀ gg w1, Row w1 gg (List.replicate m (0 : Int)) → Calls Tryz.prog 33 #[.slice (some ⟨gg, 0, none⟩) m m] w1 fun e w' => e = .returned (.tuple #[.int .i64 2, .int .i64 0]) ∧ Fr New w1 w') := fun gg w1 hr => by
                              have := pcheck_any (some ⟨gg, 0, none⟩) m (List.replicate m (0 : Int)) w1 (by simp; omega) (Row.rowU hr)
                              rw [List.length_replicate] at this
                              refine this.mono ?_
                              rintro e w' ⟨c, p, rfl, hc, hf⟩
                              have hc2 : CheckIs (List.replicate m (0 : Int)) 2 0 := .inl ⟨hnb, rfl, rfl⟩
                              obtain ⟨e1, e2⟩ := told_one hc hc2
                              subst e1 e2
                              exact ⟨rfl, hf⟩
                            obtain ⟨i0, hi0, hz0, hz1, hz2⟩ := info_parts Tryz.info50
                            clear hm0 hnb hU0
                            go_upto_region 58 with (first
                              | (go_at_call 16; refine calls_same (HPS.out _) ?_)
                              | (at_make; refine wpList_make_full _ rfl (.tmp 327) (.tmp 327) 43 rfl wr.heap.size 50 i0 (.int .u64 0) 1 Tryz.underlying43 hi0 hz0 hz1 .i64 .i64 _ _ m rfl rfl (by omega) (by omega) (by rw [hz2]; omega) (by unfold maxLen; omega) (Nat.le_refl _) ?_; intro v1 hown1 hg1; have hr1 : Row v1 wr.heap.size (List.replicate m (0 : Int)) := Row.ofOwn hown1 (made_zeros _); have hf1 : Fr New wr v1 := (Fr.refl New wr).grownNew hg1; clear hown1 hg1)
                              | (go_at_call 20; refine (HOS.out wr.heap.size v1 hr1).mono ?_; rintro e v2 ⟨rfl, hf2⟩; have hr2 : Row v2 wr.heap.size (List.replicate m (0 : Int)) := hf2.heap hr1 id)
                              | (go_at_call 32; refine (HRS.out wr.heap.size v2 hr2).mono ?_; rintro e v3 ⟨rfl, hf3⟩; have hr3 : Row v3 wr.heap.size (List.replicate m (0 : Int)) := hf3.heap hr2 id)
                              | (go_at_call 33; refine (HCS.out wr.heap.size v3 hr3).mono ?_; rintro e v4 ⟨rfl, hf4⟩)
                              | fail)
                            have hK : (Hf w sb hb tb cb mb g vs (.slice (some ⟨g2, 0, none⟩) 2 cv) un A (imgL (3 + q)) now now [] v4 ∧ Fr (fun k => k = mb) v4 v4) := ⟨HH.out.new (((hf1.same hf2).same hf3).same hf4), Fr.refl _ _⟩
                            have HDR : Hid (∀ w1, (Hf w sb hb tb cb mb g vs (.slice (some ⟨g2, 0, none⟩) 2 cv) un A (imgL (3 + q)) now now [] w1 ∧ Fr (fun k => k = mb) v4 w1) → (Hf w sb hb tb cb mb g vs (.slice (some ⟨g2, 0, none⟩) 2 cv) un A (imgL (3 + q)) now now [] w1.drew ∧ Fr (fun k => k = mb) v4 w1.drew)) := fun w1 h => ⟨h.1.new (Fr.refl New _).drew, h.2.drew⟩
                            have HKS : Hid (∀ w1, (Hf w sb hb tb cb mb g vs (.slice (some ⟨g2, 0, none⟩) 2 cv) un A (imgL (3 + q)) now now [] w1 ∧ Fr (fun k => k = mb) v4 w1) → w1.cell? ⟨sb, 0, none⟩ = some (.pointer (some ⟨hb, 0, none⟩)) ∧ w1.cell? ⟨sb, 2, none⟩ = some (.slice (some ⟨g2, 0, none⟩) 2 cv) ∧ w1.cell? ⟨sb, 3, none⟩ = some (.int .i64 0) ∧ w1.cell? ⟨sb, 4, none⟩ = some (.int .i64 0) ∧ w1.cell? ⟨sb, 5, none⟩ = some (.int .i64 0) ∧ w1.cell? ⟨sb, 6, none⟩ = some (.int .i64 1)) := fun w1 h1 => by
                              obtain ⟨d0, d2, d3, d4, d5, d6, _⟩ := HC.out w1 h1.1
                              exact ⟨d0, d2, d3, d4, d5, d6⟩
                            have HW1 : Hid (∀ w1, (Hf w sb hb tb cb mb g vs (.slice (some ⟨g2, 0, none⟩) 2 cv) un A (imgL (3 + q)) now now [] w1 ∧ Fr (fun k => k = mb) v4 w1) → Calls Tryz.prog 26 #[.pointer (some ⟨hb, 0, none⟩), .int .i64 1, .int .i64 0, .int .u64 3] w1 fun e w' => e = .returned (.int .i64 7) ∧ (Hf w sb hb tb cb mb g vs (.slice (some ⟨g2, 0, none⟩) 2 cv) un A (imgL (3 + q)) now now [] w' ∧ Fr (fun k => k = mb) v4 w')) := fun w1 h1 => by
                              refine (h1.1.badPtr HOB.out 3 (by unfold U; omega) (by omega)).mono ?_
                              rintro e w' ⟨rfl, hh, hf⟩
                              exact ⟨rfl, hh, h1.2.trans hf (fun _ _ e => e)⟩
                            have HW2 : Hid (∀ w1, (Hf w sb hb tb cb mb g vs (.slice (some ⟨g2, 0, none⟩) 2 cv) un A (imgL (3 + q)) now now [] w1 ∧ Fr (fun k => k = mb) v4 w1) → Calls Tryz.prog 26 #[.pointer (some ⟨hb, 0, none⟩), .int .i64 1, .int .i64 0, .int .u64 1099511627776] w1 fun e w' => e = .returned (.int .i64 7) ∧ (Hf w sb hb tb cb mb g vs (.slice (some ⟨g2, 0, none⟩) 2 cv) un A (imgL (3 + q)) now now [] w' ∧ Fr (fun k => k = mb) v4 w')) := fun w1 h1 => by
                              refine (h1.1.badPtr HOB.out 1099511627776 (by unfold U; omega) (by omega)).mono ?_
                              rintro e w' ⟨rfl, hh, hf⟩
                              exact ⟨rfl, hh, h1.2.trans hf (fun _ _ e => e)⟩
                            have HF1 : Hid (∀ w1, (Hf w sb hb tb cb mb g vs (.slice (some ⟨g2, 0, none⟩) 2 cv) un A (imgL (3 + q)) now now [] w1 ∧ Fr (fun k => k = mb) v4 w1) → Calls Tryz.prog 40 #[.pointer (some ⟨hb, 0, none⟩), .int .i64 1] w1 fun e w' => e = .returned (.int .i64 10) ∧ (Hf w sb hb tb cb mb g vs (.slice (some ⟨g2, 0, none⟩) 2 cv) un A (imgL (3 + q)) now now [] w' ∧ Fr (fun k => k = mb) v4 w')) := fun w1 h1 => by
                              refine (h1.1.heldFree HOB.out HFM.out.r3).mono ?_
                              rintro e w' ⟨rfl, hh, hf⟩
                              exact ⟨rfl, hh, h1.2.trans hf (fun _ _ e => e)⟩
                            have HIS : Hid (∀ w1, (Hf w sb hb tb cb mb g vs (.slice (some ⟨g2, 0, none⟩) 2 cv) un A (imgL (3 + q)) now now [] w1 ∧ Fr (fun k => k = mb) v4 w1) → Calls Tryz.prog 19 #[.pointer (some ⟨hb, 0, none⟩), .agg #[.slice (some ⟨g2, 0, none⟩) 2 cv, .int .i64 0, .int .i64 0, .int .i64 0, .int .i64 1]] w1 fun e w' => e = .returned (.bool true) ∧ (Hf w sb hb tb cb mb g vs (.slice (some ⟨g2, 0, none⟩) 2 cv) un A (imgL (3 + q)) now now [] w' ∧ Fr (fun k => k = mb) v4 w')) := fun w1 h1 => by
                              refine (h1.1.is_ 0 0 0 1).mono ?_
                              rintro e w' ⟨b, rfl, hb', hf⟩
                              have hit := is_self HFM.out.hw.gn
                              rw [HFM.out.r0, HFM.out.r1, HFM.out.r2, HFM.out.r3] at hit
                              rw [hb'.2 hit]
                              exact ⟨rfl, h1.1.new hf, h1.2.same hf⟩
                            obtain ⟨d0, d2, d3, d4, d5, d6⟩ := HKS.out v4 hK
                            clear hf1 hf2 hf3 hf4 hr1 hr2 hr3 hz0 hz1 hz2 hi0
                            go_region_held3 (fun w' => w'.cell? ⟨sb, 0, none⟩ = some (.pointer (some ⟨hb, 0, none⟩)) ∧ w'.cell? ⟨sb, 2, none⟩ = some (.slice (some ⟨g2, 0, none⟩) 2 cv) ∧ w'.cell? ⟨sb, 3, none⟩ = some (.int .i64 0) ∧ w'.cell? ⟨sb, 4, none⟩ = some (.int .i64 0) ∧ w'.cell? ⟨sb, 5, none⟩ = some (.int .i64 0) ∧ w'.cell? ⟨sb, 6, none⟩ = some (.int .i64 1)) (first | go_keep | exact hkpv8 | exact hkpv7 | exact hkpv6 | exact hkpv5)
                              (first
                                | (go_at_call_of 26 (Value.int .u64 3); refine (HW1.out _ (by first | exact hK | exact HDR.out _ hK)).mono ?_; rintro e v5 ⟨rfl, hK5⟩; have hkpv5 : v5.cell? ⟨sb, 0, none⟩ = some (.pointer (some ⟨hb, 0, none⟩)) ∧ v5.cell? ⟨sb, 2, none⟩ = some (.slice (some ⟨g2, 0, none⟩) 2 cv) ∧ v5.cell? ⟨sb, 3, none⟩ = some (.int .i64 0) ∧ v5.cell? ⟨sb, 4, none⟩ = some (.int .i64 0) ∧ v5.cell? ⟨sb, 5, none⟩ = some (.int .i64 0) ∧ v5.cell? ⟨sb, 6, none⟩ = some (.int .i64 1) := HKS.out _ hK5)
                                | (go_at_call_of 26 (Value.int .u64 1099511627776); refine (HW2.out _ (by first | exact hK5 | exact HDR.out _ hK5)).mono ?_; rintro e v6 ⟨rfl, hK6⟩; have hkpv6 : v6.cell? ⟨sb, 0, none⟩ = some (.pointer (some ⟨hb, 0, none⟩)) ∧ v6.cell? ⟨sb, 2, none⟩ = some (.slice (some ⟨g2, 0, none⟩) 2 cv) ∧ v6.cell? ⟨sb, 3, none⟩ = some (.int .i64 0) ∧ v6.cell? ⟨sb, 4, none⟩ = some (.int .i64 0) ∧ v6.cell? ⟨sb, 5, none⟩ = some (.int .i64 0) ∧ v6.cell? ⟨sb, 6, none⟩ = some (.int .i64 1) := HKS.out _ hK6)
                                | (go_at_call 40; refine (HF1.out _ (by first | exact hK6 | exact HDR.out _ hK6)).mono ?_; rintro e v7 ⟨rfl, hK7⟩; have hkpv7 : v7.cell? ⟨sb, 0, none⟩ = some (.pointer (some ⟨hb, 0, none⟩)) ∧ v7.cell? ⟨sb, 2, none⟩ = some (.slice (some ⟨g2, 0, none⟩) 2 cv) ∧ v7.cell? ⟨sb, 3, none⟩ = some (.int .i64 0) ∧ v7.cell? ⟨sb, 4, none⟩ = some (.int .i64 0) ∧ v7.cell? ⟨sb, 5, none⟩ = some (.int .i64 0) ∧ v7.cell? ⟨sb, 6, none⟩ = some (.int .i64 1) := HKS.out _ hK7)
                                | (go_at_call 19; refine (HIS.out _ (by first | exact hK7 | exact HDR.out _ hK7)).mono ?_; rintro e v8 ⟨rfl, hK8⟩; have hkpv8 : v8.cell? ⟨sb, 0, none⟩ = some (.pointer (some ⟨hb, 0, none⟩)) ∧ v8.cell? ⟨sb, 2, none⟩ = some (.slice (some ⟨g2, 0, none⟩) 2 cv) ∧ v8.cell? ⟨sb, 3, none⟩ = some (.int .i64 0) ∧ v8.cell? ⟨sb, 4, none⟩ = some (.int .i64 0) ∧ v8.cell? ⟨sb, 5, none⟩ = some (.int .i64 0) ∧ v8.cell? ⟨sb, 6, none⟩ = some (.int .i64 1) := HKS.out _ hK8)
                                | fail)
                            all_goals
                              go_wp2_with fail
                              go_ret
                              exact ⟨rfl, by first | exact hK8.1.f | exact hK8.1.f.drew⟩
end Go.Proofs.YtbagcjlimdilpaaGreat
