/- The walk of the law Apart. -/
import Derived.Test.YtbagcjlimdilpabGreatKtKuA
import Derived.Test.YtbagcjlimdilpabGreatKtJ18
import Derived.Test.YtbagcjlimdilpabGreatKtJ19
import Derived.Test.YtbagcjlimdilpabGreatKtJ4
import Derived.Deep.RegionHeld3
namespace Go.Proofs.YtbagcjlimdilpabGreat
open Go.RowKit Go.Maps

set_option maxHeartbeats 4000000 in
set_option maxRecDepth 100000 in
theorem apart_walk (a1 a2 : Option Addr) (len1 len2 cap1 cap2 : Nat) (z1 z2 : List Int) (w : World) (hl1 : z1.length = len1) (hl2 : z2.length = len2) (hm1 : len1 ≤ 1048576) (hm2 : len2 ≤ 1048576) (hc1 : RawAt w a1 z1) (hc2 : RawAt w a2 z2) (hz1 : ∀ i, I64 (z1.getD i 0)) (hz2 : ∀ i, I64 (z2.getD i 0)) :
    Calls Tryz.prog 3 #[.slice a1 len1 cap1, .slice a2 len2 cap2] w fun e w' => e = .returned (.bool true) ∧ Fr New w w' := by
  subst hl1 hl2
  have HBG : Hid (∀ w1, Calls Tryz.prog 4 #[.int .i64 9] w1 fun e w' => ∃ sb F, e = .returned (.tuple #[.pointer (some ⟨sb, 0, none⟩), .bool true]) ∧ Story F sb 9 (imgL 9) (imgL 9) [] w' ∧ (∀ k, F k → w1.heap.size ≤ k) ∧ Fr New w1 w') := begun_any 9 (by omega) (by omega)
  have HBG2 : Hid (∀ w1, Calls Tryz.prog 4 #[.int .i64 20] w1 fun e w' => ∃ sb F, e = .returned (.tuple #[.pointer (some ⟨sb, 0, none⟩), .bool true]) ∧ Story F sb 20 (imgL 20) (imgL 20) [] w' ∧ (∀ k, F k → w1.heap.size ≤ k) ∧ Fr New w1 w') := begun_any 20 (by omega) (by omega)
  have HWK : Hid (∀ w1, Calls Tryz.prog 10 #[] w1 fun e w' => e = .returned (.bool true) ∧ Fr New w1 w') := works_any
  have HZ1 : Hid (∀ wr, Fr New w wr → RawAt wr a1 z1) := fun wr hf => hc1.fr hf
  have HZ2 : Hid (∀ wr, Fr New w wr → RawAt wr a2 z2) := fun wr hf => hc2.fr hf
  have HI1 : Hid (∀ i, I64 (z1.getD i 0)) := hz1
  have HI2 : Hid (∀ i, I64 (z2.getD i 0)) := hz2
  clear hc1 hc2 hz1 hz2
  go_enter Tryz.func3, Tryz.ntmps3
  go_wp2_with (first
    | (go_at_call_of 4 (Value.int .i64 9); refine (HBG.out w).mono ?_; rintro e w1 ⟨sa, F1, rfl, hS1, hF1, hf1⟩)
    | (go_at_call_of 4 (Value.int .i64 20); refine (HBG2.out w1).mono ?_; rintro e w2 ⟨sb, F2, rfl, hS2, hF2, hf2⟩)
    | fail)
  have HB0 : Hid (Both w sa sb 9 20 (302 * 0) w2) := by
    refine ⟨_, _, _, _, _, _, _, _, (hS1.tight.new hf2), hS2.tight, fun k hk => ⟨hF1 k hk.1, ?_⟩, fun k hk => ⟨?_, hk.2⟩, fun k hk ht => ?_, hf1.same hf2, by simp, by simp⟩
    · have := hk.2; have := hf2.size; omega
    · have := hF2 k hk.1; have := hf1.size; omega
    · have := hF2 k ht.1; have := hk.2; omega
  clear hS1 hF1 hf1 hS2 hF2 hf2 HBG HBG2
  go_loopg [9] (z1.length + z2.length + 8) (fun gh vi wr => ∃ i : Nat, vi = .int .i64 (i : Int) ∧ gh = z1.length + z2.length + 8 - i ∧ i ≤ z1.length + z2.length + 4 ∧ Both w sa sb 9 20 (302 * i) wr)
  case atStart => exact ⟨0, rfl, by omega, by omega, HB0.out⟩
  case round =>
    clear HB0
    obtain ⟨i, rfl, rfl, hi4, hB⟩ := hrel
    by_cases hx1 : i + 3 < z1.length
    · by_cases hx2 : i + 3 < z2.length
      · have hdz1 : decide ((i : Int) + 3 < (z1.length : Int)) = true := by simp; omega
        have hdz2 : decide ((i : Int) + 3 < (z2.length : Int)) = true := by simp; omega
        obtain ⟨ad, rfl, r0⟩ := HZ1.out wr hB.frame i (by omega)
        obtain ⟨y0, hy0⟩ : ∃ x, x = z1.getD i 0 := ⟨_, rfl⟩
        obtain ⟨y1, hy1⟩ : ∃ x, x = z1.getD (i + 1) 0 := ⟨_, rfl⟩
        obtain ⟨y2, hy2⟩ : ∃ x, x = z1.getD (i + 2) 0 := ⟨_, rfl⟩
        obtain ⟨y3, hy3⟩ : ∃ x, x = z1.getD (i + 3) 0 := ⟨_, rfl⟩
        clear r0
        have HR1 : Hid (∀ w', Fr New w w' → w'.cell? (ad.add i) = some (.int .i64 y0) ∧ w'.cell? ⟨ad.block, ad.off + (i + 1), none⟩ = some (.int .i64 y1) ∧ w'.cell? ⟨ad.block, ad.off + (i + 1 + 1), none⟩ = some (.int .i64 y2) ∧ w'.cell? ⟨ad.block, ad.off + (i + 2 + 1), none⟩ = some (.int .i64 y3)) := fun w' hf' => by
          rw [hy0, hy1, hy2, hy3]
          refine ⟨?_, ?_, ?_, ?_⟩
          · obtain ⟨_, e, r⟩ := HZ1.out w' hf' i (by omega); cases e; exact r
          · obtain ⟨_, e, r⟩ := HZ1.out w' hf' (i + 1) (by omega); cases e; rw [add_succ] at r; exact r
          · obtain ⟨_, e, r⟩ := HZ1.out w' hf' (i + 2) (by omega); cases e; rw [add_succ] at r; exact r
          · obtain ⟨_, e, r⟩ := HZ1.out w' hf' (i + 3) (by omega); cases e; rw [add_succ] at r; exact r
        have HP1 : Hid (∀ w1, Both w sa sb 9 20 (302 * i) w1 → Calls Tryz.prog 5 #[.pointer (some ⟨sa, 0, none⟩), .int .i64 y0, .int .i64 y1, .int .i64 y2, .int .i64 y3] w1 fun e w' => e = .returned (.bool true) ∧ Both w sa sb 9 20 (302 * i + 151) w') := fun w1 h1 => by
          exact h1.play (by omega) (by rw [hy0]; exact HI1.out _) (by rw [hy1]; exact HI1.out _) (by rw [hy2]; exact HI1.out _) (by rw [hy3]; exact HI1.out _)
        clear hy0 hy1 hy2 hy3
        obtain ⟨bd, rfl, r0⟩ := HZ2.out wr hB.frame i (by omega)
        obtain ⟨n0, hn0⟩ : ∃ x, x = z2.getD i 0 := ⟨_, rfl⟩
        obtain ⟨n1, hn1⟩ : ∃ x, x = z2.getD (i + 1) 0 := ⟨_, rfl⟩
        obtain ⟨n2, hn2⟩ : ∃ x, x = z2.getD (i + 2) 0 := ⟨_, rfl⟩
        obtain ⟨n3, hn3⟩ : ∃ x, x = z2.getD (i + 3) 0 := ⟨_, rfl⟩
        clear r0
        have HR2 : Hid (∀ w', Fr New w w' → w'.cell? (bd.add i) = some (.int .i64 n0) ∧ w'.cell? ⟨bd.block, bd.off + (i + 1), none⟩ = some (.int .i64 n1) ∧ w'.cell? ⟨bd.block, bd.off + (i + 1 + 1), none⟩ = some (.int .i64 n2) ∧ w'.cell? ⟨bd.block, bd.off + (i + 2 + 1), none⟩ = some (.int .i64 n3)) := fun w' hf' => by
          rw [hn0, hn1, hn2, hn3]
          refine ⟨?_, ?_, ?_, ?_⟩
          · obtain ⟨_, e, r⟩ := HZ2.out w' hf' i (by omega); cases e; exact r
          · obtain ⟨_, e, r⟩ := HZ2.out w' hf' (i + 1) (by omega); cases e; rw [add_succ] at r; exact r
          · obtain ⟨_, e, r⟩ := HZ2.out w' hf' (i + 2) (by omega); cases e; rw [add_succ] at r; exact r
          · obtain ⟨_, e, r⟩ := HZ2.out w' hf' (i + 3) (by omega); cases e; rw [add_succ] at r; exact r
        have HP2 : Hid (∀ w1, Both w sa sb 9 20 (302 * i + 151) w1 → Calls Tryz.prog 5 #[.pointer (some ⟨sb, 0, none⟩), .int .i64 n0, .int .i64 n1, .int .i64 n2, .int .i64 n3] w1 fun e w' => e = .returned (.bool true) ∧ Both w sa sb 9 20 (302 * i + 151 + 151) w') := fun w1 h1 => by
          refine (h1.swap.play (by omega) (by rw [hn0]; exact HI2.out _) (by rw [hn1]; exact HI2.out _) (by rw [hn2]; exact HI2.out _) (by rw [hn3]; exact HI2.out _)).mono ?_
          rintro e w' ⟨rfl, hh⟩
          exact ⟨rfl, hh.swap⟩
        clear hn0 hn1 hn2 hn3
        obtain ⟨r0, r1, r2, r3⟩ := HR1.out wr hB.frame
        have bl1 : (0 : Int) ≤ (i : Int) + 1 := by omega
        have bt1 : ((i : Int) + 1).toNat = i + 1 := by omega
        have bw1 : IntKind.i64.wrap ((i : Int) + 1) = (i : Int) + 1 := by rw [IntKind.wrap_i64]; omega
        have bl2 : (0 : Int) ≤ (i : Int) + 2 := by omega
        have bt2 : ((i : Int) + 2).toNat = i + 2 := by omega
        have bw2 : IntKind.i64.wrap ((i : Int) + 2) = (i : Int) + 2 := by rw [IntKind.wrap_i64]; omega
        have bl3 : (0 : Int) ≤ (i : Int) + 3 := by omega
        have bt3 : ((i : Int) + 3).toNat = i + 3 := by omega
        have bw3 : IntKind.i64.wrap ((i : Int) + 3) = (i : Int) + 3 := by rw [IntKind.wrap_i64]; omega
        have bl0 : (0 : Int) ≤ (i : Int) := by omega
        have bua1 : (i : Int) + 1 < (z1.length : Int) := by omega
        have bua2 : (i : Int) + 2 < (z1.length : Int) := by omega
        have bua3 : (i : Int) + 3 < (z1.length : Int) := by omega
        have bua0 : (i : Int) < (z1.length : Int) := by omega
        have bub1 : (i : Int) + 1 < (z2.length : Int) := by omega
        have bub2 : (i : Int) + 2 < (z2.length : Int) := by omega
        have bub3 : (i : Int) + 3 < (z2.length : Int) := by omega
        have bub0 : (i : Int) < (z2.length : Int) := by omega
        go_upto_region 11 with fail
        go_region_held3 (fun w' => w'.cell? (ad.add i) = some (.int .i64 y0) ∧ w'.cell? ⟨ad.block, ad.off + (i + 1), none⟩ = some (.int .i64 y1) ∧ w'.cell? ⟨ad.block, ad.off + (i + 1 + 1), none⟩ = some (.int .i64 y2) ∧ w'.cell? ⟨ad.block, ad.off + (i + 2 + 1), none⟩ = some (.int .i64 y3)) (first | go_keep | exact hkpv1)
          (first
            | (go_at_call 5; refine (HP1.out _ (by first | exact hB | exact hB.new (Fr.refl New _).drew)).mono ?_; rintro e v1 ⟨rfl, hB1⟩; have hkpv1 : v1.cell? (ad.add i) = some (.int .i64 y0) ∧ v1.cell? ⟨ad.block, ad.off + (i + 1), none⟩ = some (.int .i64 y1) ∧ v1.cell? ⟨ad.block, ad.off + (i + 1 + 1), none⟩ = some (.int .i64 y2) ∧ v1.cell? ⟨ad.block, ad.off + (i + 2 + 1), none⟩ = some (.int .i64 y3) := HR1.out _ hB1.frame)
            | fail)
        all_goals
          clear hkpv1 r0 r1 r2 r3
          first
            | (obtain ⟨vA, hW⟩ : ∃ W, W = v1.drew := ⟨_, rfl⟩; rw [← hW]; have hBA : Both w sa sb 9 20 (302 * i + 151) vA := (by rw [hW]; exact hB1.new (Fr.refl New _).drew); clear hW)
            | (obtain ⟨vA, hW⟩ : ∃ W, W = v1 := ⟨_, rfl⟩; rw [← hW]; have hBA : Both w sa sb 9 20 (302 * i + 151) vA := (by rw [hW]; exact hB1); clear hW)
          obtain ⟨q0, q1, q2, q3⟩ := HR2.out vA hBA.frame
          go_upto_region 13 with fail
          go_region_held3 (fun w' => w'.cell? (bd.add i) = some (.int .i64 n0) ∧ w'.cell? ⟨bd.block, bd.off + (i + 1), none⟩ = some (.int .i64 n1) ∧ w'.cell? ⟨bd.block, bd.off + (i + 1 + 1), none⟩ = some (.int .i64 n2) ∧ w'.cell? ⟨bd.block, bd.off + (i + 2 + 1), none⟩ = some (.int .i64 n3)) (first | go_keep | exact hkpv2)
            (first
              | (go_at_call 5; refine (HP2.out _ (by first | exact hBA | exact hBA.new (Fr.refl New _).drew)).mono ?_; rintro e v2 ⟨rfl, hB2⟩; have hkpv2 : v2.cell? (bd.add i) = some (.int .i64 n0) ∧ v2.cell? ⟨bd.block, bd.off + (i + 1), none⟩ = some (.int .i64 n1) ∧ v2.cell? ⟨bd.block, bd.off + (i + 1 + 1), none⟩ = some (.int .i64 n2) ∧ v2.cell? ⟨bd.block, bd.off + (i + 2 + 1), none⟩ = some (.int .i64 n3) := HR2.out _ hB2.frame)
              | fail)
          all_goals
            clear hkpv2
            go_wp2_with fail
            go_roundg (z1.length + z2.length + 8 - (i + 4))
            case measure => omega
            case rel => exact ⟨i + 4, by go_num, rfl, by omega, (by first | exact hB2.more (by omega) | exact (hB2.new (Fr.refl New _).drew).more (by omega))⟩
      · have hdz1 : decide ((i : Int) + 3 < (z1.length : Int)) = true := by simp; omega
        have hdz2 : decide ((i : Int) + 3 < (z2.length : Int)) = false := by simp; omega
        obtain ⟨ad, rfl, r0⟩ := HZ1.out wr hB.frame i (by omega)
        obtain ⟨y0, hy0⟩ : ∃ x, x = z1.getD i 0 := ⟨_, rfl⟩
        obtain ⟨y1, hy1⟩ : ∃ x, x = z1.getD (i + 1) 0 := ⟨_, rfl⟩
        obtain ⟨y2, hy2⟩ : ∃ x, x = z1.getD (i + 2) 0 := ⟨_, rfl⟩
        obtain ⟨y3, hy3⟩ : ∃ x, x = z1.getD (i + 3) 0 := ⟨_, rfl⟩
        clear r0
        have HR1 : Hid (∀ w', Fr New w w' → w'.cell? (ad.add i) = some (.int .i64 y0) ∧ w'.cell? ⟨ad.block, ad.off + (i + 1), none⟩ = some (.int .i64 y1) ∧ w'.cell? ⟨ad.block, ad.off + (i + 1 + 1), none⟩ = some (.int .i64 y2) ∧ w'.cell? ⟨ad.block, ad.off + (i + 2 + 1), none⟩ = some (.int .i64 y3)) := fun w' hf' => by
          rw [hy0, hy1, hy2, hy3]
          refine ⟨?_, ?_, ?_, ?_⟩
          · obtain ⟨_, e, r⟩ := HZ1.out w' hf' i (by omega); cases e; exact r
          · obtain ⟨_, e, r⟩ := HZ1.out w' hf' (i + 1) (by omega); cases e; rw [add_succ] at r; exact r
          · obtain ⟨_, e, r⟩ := HZ1.out w' hf' (i + 2) (by omega); cases e; rw [add_succ] at r; exact r
          · obtain ⟨_, e, r⟩ := HZ1.out w' hf' (i + 3) (by omega); cases e; rw [add_succ] at r; exact r
        have HP1 : Hid (∀ w1, Both w sa sb 9 20 (302 * i) w1 → Calls Tryz.prog 5 #[.pointer (some ⟨sa, 0, none⟩), .int .i64 y0, .int .i64 y1, .int .i64 y2, .int .i64 y3] w1 fun e w' => e = .returned (.bool true) ∧ Both w sa sb 9 20 (302 * i + 151) w') := fun w1 h1 => by
          exact h1.play (by omega) (by rw [hy0]; exact HI1.out _) (by rw [hy1]; exact HI1.out _) (by rw [hy2]; exact HI1.out _) (by rw [hy3]; exact HI1.out _)
        clear hy0 hy1 hy2 hy3
        obtain ⟨r0, r1, r2, r3⟩ := HR1.out wr hB.frame
        have bl1 : (0 : Int) ≤ (i : Int) + 1 := by omega
        have bt1 : ((i : Int) + 1).toNat = i + 1 := by omega
        have bw1 : IntKind.i64.wrap ((i : Int) + 1) = (i : Int) + 1 := by rw [IntKind.wrap_i64]; omega
        have bl2 : (0 : Int) ≤ (i : Int) + 2 := by omega
        have bt2 : ((i : Int) + 2).toNat = i + 2 := by omega
        have bw2 : IntKind.i64.wrap ((i : Int) + 2) = (i : Int) + 2 := by rw [IntKind.wrap_i64]; omega
        have bl3 : (0 : Int) ≤ (i : Int) + 3 := by omega
        have bt3 : ((i : Int) + 3).toNat = i + 3 := by omega
        have bw3 : IntKind.i64.wrap ((i : Int) + 3) = (i : Int) + 3 := by rw [IntKind.wrap_i64]; omega
        have bl0 : (0 : Int) ≤ (i : Int) := by omega
        have bua1 : (i : Int) + 1 < (z1.length : Int) := by omega
        have bua2 : (i : Int) + 2 < (z1.length : Int) := by omega
        have bua3 : (i : Int) + 3 < (z1.length : Int) := by omega
        have bua0 : (i : Int) < (z1.length : Int) := by omega
        go_upto_region 11 with fail
        go_region_held3 (fun w' => w'.cell? (ad.add i) = some (.int .i64 y0) ∧ w'.cell? ⟨ad.block, ad.off + (i + 1), none⟩ = some (.int .i64 y1) ∧ w'.cell? ⟨ad.block, ad.off + (i + 1 + 1), none⟩ = some (.int .i64 y2) ∧ w'.cell? ⟨ad.block, ad.off + (i + 2 + 1), none⟩ = some (.int .i64 y3)) (first | go_keep | exact hkpv1)
          (first
            | (go_at_call 5; refine (HP1.out _ (by first | exact hB | exact hB.new (Fr.refl New _).drew)).mono ?_; rintro e v1 ⟨rfl, hB1⟩; have hkpv1 : v1.cell? (ad.add i) = some (.int .i64 y0) ∧ v1.cell? ⟨ad.block, ad.off + (i + 1), none⟩ = some (.int .i64 y1) ∧ v1.cell? ⟨ad.block, ad.off + (i + 1 + 1), none⟩ = some (.int .i64 y2) ∧ v1.cell? ⟨ad.block, ad.off + (i + 2 + 1), none⟩ = some (.int .i64 y3) := HR1.out _ hB1.frame)
            | fail)
        all_goals
          clear hkpv1 r0 r1 r2 r3
          go_wp2_with fail
          go_roundg (z1.length + z2.length + 8 - (i + 4))
          case measure => omega
          case rel => exact ⟨i + 4, by go_num, rfl, by omega, (by first | exact hB1.more (by omega) | exact (hB1.new (Fr.refl New _).drew).more (by omega))⟩
    · by_cases hx2 : i + 3 < z2.length
      · have hdz1 : decide ((i : Int) + 3 < (z1.length : Int)) = false := by simp; omega
        have hdz2 : decide ((i : Int) + 3 < (z2.length : Int)) = true := by simp; omega
        obtain ⟨bd, rfl, r0⟩ := HZ2.out wr hB.frame i (by omega)
        obtain ⟨n0, hn0⟩ : ∃ x, x = z2.getD i 0 := ⟨_, rfl⟩
        obtain ⟨n1, hn1⟩ : ∃ x, x = z2.getD (i + 1) 0 := ⟨_, rfl⟩
        obtain ⟨n2, hn2⟩ : ∃ x, x = z2.getD (i + 2) 0 := ⟨_, rfl⟩
        obtain ⟨n3, hn3⟩ : ∃ x, x = z2.getD (i + 3) 0 := ⟨_, rfl⟩
        clear r0
        have HR2 : Hid (∀ w', Fr New w w' → w'.cell? (bd.add i) = some (.int .i64 n0) ∧ w'.cell? ⟨bd.block, bd.off + (i + 1), none⟩ = some (.int .i64 n1) ∧ w'.cell? ⟨bd.block, bd.off + (i + 1 + 1), none⟩ = some (.int .i64 n2) ∧ w'.cell? ⟨bd.block, bd.off + (i + 2 + 1), none⟩ = some (.int .i64 n3)) := fun w' hf' => by
          rw [hn0, hn1, hn2, hn3]
          refine ⟨?_, ?_, ?_, ?_⟩
          · obtain ⟨_, e, r⟩ := HZ2.out w' hf' i (by omega); cases e; exact r
          · obtain ⟨_, e, r⟩ := HZ2.out w' hf' (i + 1) (by omega); cases e; rw [add_succ] at r; exact r
          · obtain ⟨_, e, r⟩ := HZ2.out w' hf' (i + 2) (by omega); cases e; rw [add_succ] at r; exact r
          · obtain ⟨_, e, r⟩ := HZ2.out w' hf' (i + 3) (by omega); cases e; rw [add_succ] at r; exact r
        have HP2 : Hid (∀ w1, Both w sa sb 9 20 (302 * i) w1 → Calls Tryz.prog 5 #[.pointer (some ⟨sb, 0, none⟩), .int .i64 n0, .int .i64 n1, .int .i64 n2, .int .i64 n3] w1 fun e w' => e = .returned (.bool true) ∧ Both w sa sb 9 20 (302 * i + 151) w') := fun w1 h1 => by
          refine (h1.swap.play (by omega) (by rw [hn0]; exact HI2.out _) (by rw [hn1]; exact HI2.out _) (by rw [hn2]; exact HI2.out _) (by rw [hn3]; exact HI2.out _)).mono ?_
          rintro e w' ⟨rfl, hh⟩
          exact ⟨rfl, hh.swap⟩
        clear hn0 hn1 hn2 hn3
        obtain ⟨r0, r1, r2, r3⟩ := HR2.out wr hB.frame
        have bl1 : (0 : Int) ≤ (i : Int) + 1 := by omega
        have bt1 : ((i : Int) + 1).toNat = i + 1 := by omega
        have bw1 : IntKind.i64.wrap ((i : Int) + 1) = (i : Int) + 1 := by rw [IntKind.wrap_i64]; omega
        have bl2 : (0 : Int) ≤ (i : Int) + 2 := by omega
        have bt2 : ((i : Int) + 2).toNat = i + 2 := by omega
        have bw2 : IntKind.i64.wrap ((i : Int) + 2) = (i : Int) + 2 := by rw [IntKind.wrap_i64]; omega
        have bl3 : (0 : Int) ≤ (i : Int) + 3 := by omega
        have bt3 : ((i : Int) + 3).toNat = i + 3 := by omega
        have bw3 : IntKind.i64.wrap ((i : Int) + 3) = (i : Int) + 3 := by rw [IntKind.wrap_i64]; omega
        have bl0 : (0 : Int) ≤ (i : Int) := by omega
        have bub1 : (i : Int) + 1 < (z2.length : Int) := by omega
        have bub2 : (i : Int) + 2 < (z2.length : Int) := by omega
        have bub3 : (i : Int) + 3 < (z2.length : Int) := by omega
        have bub0 : (i : Int) < (z2.length : Int) := by omega
        go_upto_region 13 with fail
        go_region_held3 (fun w' => w'.cell? (bd.add i) = some (.int .i64 n0) ∧ w'.cell? ⟨bd.block, bd.off + (i + 1), none⟩ = some (.int .i64 n1) ∧ w'.cell? ⟨bd.block, bd.off + (i + 1 + 1), none⟩ = some (.int .i64 n2) ∧ w'.cell? ⟨bd.block, bd.off + (i + 2 + 1), none⟩ = some (.int .i64 n3)) (first | go_keep | exact hkpv1)
          (first
            | (go_at_call 5; refine (HP2.out _ (by first | exact hB | exact hB.new (Fr.refl New _).drew)).mono ?_; rintro e v1 ⟨rfl, hB1⟩; have hkpv1 : v1.cell? (bd.add i) = some (.int .i64 n0) ∧ v1.cell? ⟨bd.block, bd.off + (i + 1), none⟩ = some (.int .i64 n1) ∧ v1.cell? ⟨bd.block, bd.off + (i + 1 + 1), none⟩ = some (.int .i64 n2) ∧ v1.cell? ⟨bd.block, bd.off + (i + 2 + 1), none⟩ = some (.int .i64 n3) := HR2.out _ hB1.frame)
            | fail)
        all_goals
          clear hkpv1 r0 r1 r2 r3
          go_wp2_with fail
          go_roundg (z1.length + z2.length + 8 - (i + 4))
          case measure => omega
          case rel => exact ⟨i + 4, by go_num, rfl, by omega, (by first | exact hB1.more (by omega) | exact (hB1.new (Fr.refl New _).drew).more (by omega))⟩
      · have hdz1 : decide ((i : Int) + 3 < (z1.length : Int)) = false := by simp; omega
        have hdz2 : decide ((i : Int) + 3 < (z2.length : Int)) = false := by simp; omega
        obtain ⟨wb, hwb⟩ : ∃ x, x = wr := ⟨_, rfl⟩
        subst hwb
        obtain ⟨Fs, Ft, ws, now, ws2, now2, sts, sts2, p⟩ := hB
        have HFW : Hid (Fr New w wb) := p.f
        obtain ⟨hb, tb, cb, mb, g, vs, vn, vk, un, uk, S, _⟩ := p.s
        obtain ⟨hbt, tbt, cbt, mbt, gt, vst, vnt, vkt, unt, ukt, T, _⟩ := p.t
        clear p
        have hw := S.hw
        have hwt := T.hw
        have hls := S.lens
        obtain ⟨an, cn, hvn⟩ := S.tn.slice
        obtain ⟨ak, ck, hvk⟩ := S.tk.slice
        obtain ⟨aT, ct, hvt⟩ := T.tn.slice
        obtain ⟨mn, hmn⟩ : ∃ m, m = (things now).length := ⟨_, rfl⟩
        obtain ⟨mk, hmk⟩ : ∃ m, m = (things ws).length := ⟨_, rfl⟩
        obtain ⟨mt, hmt⟩ : ∃ m, m = (things now2).length := ⟨_, rfl⟩
        rw [← hmn] at hvn
        rw [← hmk] at hvk
        rw [← hmt] at hvt
        subst hvn hvk hvt
        obtain ⟨x3, h3⟩ : ∃ x, x = wd now 3 := ⟨_, rfl⟩
        obtain ⟨x4, h4⟩ : ∃ x, x = wd now 4 := ⟨_, rfl⟩
        obtain ⟨x5, h5⟩ : ∃ x, x = wd now 5 := ⟨_, rfl⟩
        obtain ⟨x6, h6⟩ : ∃ x, x = wd now 6 := ⟨_, rfl⟩
        obtain ⟨y3, k3⟩ : ∃ x, x = wd ws 3 := ⟨_, rfl⟩
        obtain ⟨y4, k4⟩ : ∃ x, x = wd ws 4 := ⟨_, rfl⟩
        obtain ⟨y5, k5⟩ : ∃ x, x = wd ws 5 := ⟨_, rfl⟩
        obtain ⟨y6, k6⟩ : ∃ x, x = wd ws 6 := ⟨_, rfl⟩
        obtain ⟨u3, l3⟩ : ∃ x, x = wd now2 3 := ⟨_, rfl⟩
        obtain ⟨u4, l4⟩ : ∃ x, x = wd now2 4 := ⟨_, rfl⟩
        obtain ⟨u5, l5⟩ : ∃ x, x = wd now2 5 := ⟨_, rfl⟩
        obtain ⟨u6, l6⟩ : ∃ x, x = wd now2 6 := ⟨_, rfl⟩
        have HCS : Hid (∀ w1, Fr New wb w1 → w1.cell? ⟨sa, 0, none⟩ = some (.pointer (some ⟨hb, 0, none⟩)) ∧ w1.cell? ⟨sa, 2, none⟩ = some (.slice an mn cn) ∧ w1.cell? ⟨sa, 3, none⟩ = some (.int .i64 x3) ∧ w1.cell? ⟨sa, 4, none⟩ = some (.int .i64 x4) ∧ w1.cell? ⟨sa, 5, none⟩ = some (.int .i64 x5) ∧ w1.cell? ⟨sa, 6, none⟩ = some (.int .i64 x6)) := fun w1 h1 => by
          have hb' := (S.new h1).blk
          rw [h3, h4, h5, h6]
          exact ⟨((block_cells hb').1 0).trans rfl, ((block_cells hb').1 2).trans rfl, ((block_cells hb').1 3).trans rfl, ((block_cells hb').1 4).trans rfl, ((block_cells hb').1 5).trans rfl, ((block_cells hb').1 6).trans rfl⟩
        have HCK : Hid (∀ w1, Fr New wb w1 → w1.cell? ⟨sa, 0, none⟩ = some (.pointer (some ⟨hb, 0, none⟩)) ∧ w1.cell? ⟨sa, 7, none⟩ = some (.slice ak mk ck) ∧ w1.cell? ⟨sa, 8, none⟩ = some (.int .i64 y3) ∧ w1.cell? ⟨sa, 9, none⟩ = some (.int .i64 y4) ∧ w1.cell? ⟨sa, 10, none⟩ = some (.int .i64 y5) ∧ w1.cell? ⟨sa, 11, none⟩ = some (.int .i64 y6)) := fun w1 h1 => by
          have hb' := (S.new h1).blk
          rw [k3, k4, k5, k6]
          exact ⟨((block_cells hb').1 0).trans rfl, ((block_cells hb').1 7).trans rfl, ((block_cells hb').1 8).trans rfl, ((block_cells hb').1 9).trans rfl, ((block_cells hb').1 10).trans rfl, ((block_cells hb').1 11).trans rfl⟩
        have HCT : Hid (∀ w1, Fr New wb w1 → w1.cell? ⟨sb, 0, none⟩ = some (.pointer (some ⟨hbt, 0, none⟩)) ∧ w1.cell? ⟨sb, 2, none⟩ = some (.slice aT mt ct) ∧ w1.cell? ⟨sb, 3, none⟩ = some (.int .i64 u3) ∧ w1.cell? ⟨sb, 4, none⟩ = some (.int .i64 u4) ∧ w1.cell? ⟨sb, 5, none⟩ = some (.int .i64 u5) ∧ w1.cell? ⟨sb, 6, none⟩ = some (.int .i64 u6)) := fun w1 h1 => by
          have hb' := (T.new h1).blk
          rw [l3, l4, l5, l6]
          exact ⟨((block_cells hb').1 0).trans rfl, ((block_cells hb').1 2).trans rfl, ((block_cells hb').1 3).trans rfl, ((block_cells hb').1 4).trans rfl, ((block_cells hb').1 5).trans rfl, ((block_cells hb').1 6).trans rfl⟩
        have HIS : Hid (∀ w1, Fr New wb w1 → Calls Tryz.prog 11 #[.pointer (some ⟨hb, 0, none⟩), .agg #[.slice an mn cn, .int .i64 x3, .int .i64 x4, .int .i64 x5, .int .i64 x6]] w1 fun e w' => e = .returned (.bool true) ∧ Fr New w1 w') := fun w1 h1 => by
          have := kis_self hb tb cb mb g vs ws now now sts (.slice an mn cn) un w1 (S.new h1).ph (Like.refl _) hw.gn (S.new h1).tn
          rwa [← h3, ← h4, ← h5, ← h6] at this
        have HIT : Hid (∀ w1, Fr New wb w1 → Calls Tryz.prog 11 #[.pointer (some ⟨hbt, 0, none⟩), .agg #[.slice aT mt ct, .int .i64 u3, .int .i64 u4, .int .i64 u5, .int .i64 u6]] w1 fun e w' => e = .returned (.bool true) ∧ Fr New w1 w') := fun w1 h1 => by
          have := kis_self hbt tbt cbt mbt gt vst ws2 now2 now2 sts2 (.slice aT mt ct) unt w1 (T.new h1).ph (Like.refl _) hwt.gn (T.new h1).tn
          rwa [← l3, ← l4, ← l5, ← l6] at this
        have HIK : Hid (∀ hb2 tb2 cb2 mb2 g2 vs2 st2 w1, PH hb2 tb2 cb2 mb2 g2 vs2 ws ws st2 w1 → Fr New wb w1 → Calls Tryz.prog 11 #[.pointer (some ⟨hb2, 0, none⟩), .agg #[.slice ak mk ck, .int .i64 y3, .int .i64 y4, .int .i64 y5, .int .i64 y6]] w1 fun e w' => e = .returned (.bool true) ∧ Fr New w1 w') := fun hb2 tb2 cb2 mb2 g2 vs2 st2 w1 hp h1 => by
          have := kis_self hb2 tb2 cb2 mb2 g2 vs2 ws ws ws st2 (.slice ak mk ck) uk w1 hp (Like.refl _) hw.gw (S.new h1).tk
          rwa [← k3, ← k4, ← k5, ← k6] at this
        obtain ⟨L, hL⟩ : ∃ L, L = ws.length := ⟨_, rfl⟩
        have hL178 : L = 178 := by omega
        have HLW : Hid (ws.length = L) := hL.symm
        have HIM : Hid (Calls Tryz.prog 6 #[.pointer (some ⟨hb, 0, none⟩)] wb fun e w' => e = .returned (.slice (some ⟨wb.heap.size, 0, none⟩) L L) ∧ Row w' wb.heap.size ws ∧ Fr New wb w') := by
          have := himage_any hb tb cb mb g vs ws now sts wb S.ph
          rwa [← hL] at this
        have HOP : Hid (∀ gg w1, Row w1 gg ws → Calls Tryz.prog 7 #[.slice (some ⟨gg, 0, none⟩) L L] w1 fun e w' => ∃ hb tb cb mb g vs st, e = .returned (.tuple #[.pointer (some ⟨hb, 0, none⟩), .int .i64 0]) ∧ PH hb tb cb mb g vs ws ws st w' ∧ (w1.heap.size ≤ hb ∧ w1.heap.size ≤ tb ∧ w1.heap.size ≤ cb ∧ w1.heap.size ≤ mb ∧ w1.heap.size ≤ g ∧ ∀ k, vs.ownBlock = some k → w1.heap.size ≤ k) ∧ Fr New w1 w') := fun gg w1 hr => by
          have oR := opens_self hw.back
          have := open_kept gg L ws ws w1 (Row.rowU hr) S.ph.uw oR.ok oR.open'
          rw [HLW.out] at this
          refine this.mono ?_
          rintro e w' ⟨hb, tb, cb, mb, g, vs, rfl, hp, hq, hf⟩
          exact ⟨hb, tb, cb, mb, g, vs, _, rfl, hp, hq, hf⟩
        have HRP : Hid (∀ gg w1, Row w1 gg ws → Calls Tryz.prog 8 #[.slice (some ⟨gg, 0, none⟩) L L] w1 fun e w' => ∃ r, e = .returned (.tuple #[.slice (some ⟨w1.heap.size, 0, none⟩) L L, .int .i64 0]) ∧ r.length = L ∧ Row w' w1.heap.size r ∧ Fr New w1 w') := fun gg w1 hr => by
          have := prepair_any (some ⟨gg, 0, none⟩) L ws w1 (by rw [HLW.out]; omega) S.ph.uw (Row.rowU hr)
          rw [HLW.out] at this
          refine this.mono ?_
          rintro e w' ⟨v, r, c, rfl, hR, hc, hf⟩
          have h0 := (repair_good hR (opens_self hw.back)).1
          subst h0
          rcases hc with ⟨h, _⟩ | ⟨_, rfl, hrow, hl⟩
          · exact absurd rfl h
          · exact ⟨r, rfl, hl, hrow, hf⟩
        have HIN : Hid (∀ o ∈ objs ws, 1 ≤ o.span ∧ o.span ≤ 4) := fun o ho => by
          have := objs_in ho
          exact ⟨by omega, by omega⟩
        have HOL : Hid ((objs ws).length ≤ 32) := objs_len ws
        obtain ⟨c0, _⟩ := HCS.out wb (Fr.refl _ _)
        have hL2 : L ≤ 362 := by omega
        clear S T hw hwt hls h3 h4 h5 h6 k3 k4 k5 k6 l3 l4 l5 l6 hmn hmk hmt hL hL178 HZ1 HZ2 HI1 HI2 hx1 hx2
        go_wp2_with (first
          | (go_at_call 6; refine HIM.out.mono ?_; rintro e w3 ⟨rfl, hR3, hf3⟩)
          | (go_at_call 7; refine (HOP.out wb.heap.size w3 hR3).mono ?_; rintro e w4 ⟨hb2, tb2, cb2, mb2, g2, vs2, st2, rfl, hp4, hq4, hf4⟩; have hR4 : Row w4 wb.heap.size ws := hf4.heap hR3 id)
          | (go_at_call 8; refine (HRP.out wb.heap.size w4 hR4).mono ?_; rintro e w5 ⟨r, rfl, hrl, hRr, hf5⟩; have hR5 : Row w5 wb.heap.size ws := hf5.heap hR4 id)
          | fail)
        obtain ⟨gI, hgI⟩ : ∃ gI, gI = wb.heap.size := ⟨_, rfl⟩
        obtain ⟨gR, hgR⟩ : ∃ gR, gR = w4.heap.size := ⟨_, rfl⟩
        have hRr' : Row w5 gR r := by rw [hgR]; exact hRr
        have hR5' : Row w5 gI ws := by rw [hgI]; exact hR5
        rw [← hgI, ← hgR]
        have HFB : Hid (∀ w1, Fr (fun k => k = gI ∨ k = gR) w5 w1 → Fr New wb w1) := fun w1 h1 => by
          refine ((hf3.same hf4).same hf5).trans h1 (fun j hj e => ?_)
          have := hf3.size
          have := hf4.size
          rcases e with e | e
          · omega
          · omega
        have HPH : Hid (∀ w1, Fr (fun k => k = gI ∨ k = gR) w5 w1 → PH hb2 tb2 cb2 mb2 g2 vs2 ws ws st2 w1) := fun w1 h1 => by
          obtain ⟨q1, q2, q3, q4, q5, q6⟩ := hq4
          have hi3 : gI < w3.heap.size := by rw [hgI]; exact hR3.lt
          have hlt : ∀ k, (k = hb2 ∨ k = tb2 ∨ k = cb2 ∨ k = mb2 ∨ k = g2 ∨ vs2.ownBlock = some k) → k < gR := fun k hk => by
            rw [hgR]
            rcases hk with rfl | rfl | rfl | rfl | rfl | hk
            · exact lt_of_block hp4.hp
            · exact lt_of_block hp4.tg.t.td
            · exact lt_of_block hp4.cg.cg
            · obtain ⟨D, ⟨es, clock, hm, _⟩, _⟩ := hp4.cg.mp
              exact (Array.getElem?_eq_some_iff.1 hm).1
            · exact lt_of_block hp4.tg.t.wb
            · obtain ⟨_, c', hc⟩ := own_block hp4.tg.o hk
              exact lt_of_block hc
          refine (hp4.new hf5).fr h1 ?_ ?_ ?_ ?_ ?_ (fun k hk => ?_)
          · have := hlt hb2 (.inl rfl); omega
          · have := hlt tb2 (.inr (.inl rfl)); omega
          · have := hlt cb2 (.inr (.inr (.inl rfl))); omega
          · have := hlt mb2 (.inr (.inr (.inr (.inl rfl)))); omega
          · have := hlt g2 (.inr (.inr (.inr (.inr (.inl rfl))))); omega
          · have := hlt k (.inr (.inr (.inr (.inr (.inr hk))))); have := q6 k hk; omega
        have HCI : Hid (∀ j, j < L → ∃ x y, w5.cell? ⟨gI, j, none⟩ = some (.int .u64 x) ∧ w5.cell? ⟨gR, j, none⟩ = some (.int .u64 y) ∧ w5.frozen? ⟨gI, j, none⟩ = false ∧ w5.frozen? ⟨gR, j, none⟩ = false) := fun j hj =>
          ⟨_, _, hR5'.cell j (by rw [HLW.out]; exact hj), hRr'.cell j (by rw [hrl]; exact hj), hR5'.free j, hRr'.free j⟩
        have hIR : gI ≠ gR := by
          have : gI < w3.heap.size := by rw [hgI]; exact hR3.lt
          have := hf4.size
          omega
        have hil : gI < w5.heap.size := hR5'.lt
        have hrl' : gR < w5.heap.size := hRr'.lt
        clear hgI hgR hR3 hR4 hR5 hRr hRr' hR5' hf3 hf4 hf5 hp4 hq4 hrl c0 HIM HOP HRP
        go_loopg [17] L (fun gh vi wq => ∃ j : Nat, vi = .int .i64 (j : Int) ∧ gh = L - j ∧ j ≤ L ∧ Sim w5 wq ∧ Fr (fun k => k = gI ∨ k = gR) w5 wq)
        case atStart => exact ⟨0, rfl, by omega, by omega, Sim.refl _, Fr.refl _ _⟩
        case round =>
          obtain ⟨j, rfl, rfl, hj, hs, hfj⟩ := hrel
          obtain ⟨wq, hwwq⟩ : ∃ x, x = wr := ⟨_, rfl⟩
          subst hwwq
          by_cases hjl : j < L
          · have hd0 : decide ((j : Int) < (L : Int)) = true := by simp; omega
            obtain ⟨x, y, k1, k2, k3, k4⟩ := HCI.out j hjl
            obtain ⟨x', m1⟩ := hs.int _ _ _ k1
            obtain ⟨y', m2⟩ := hs.int _ _ _ k2
            have f1 := (hs.frz ⟨gI, j, none⟩).trans k3
            have f2 := (hs.frz ⟨gR, j, none⟩).trans k4
            have b1 : (0 : Int) ≤ (j : Int) := by omega
            have b2 : (j : Int) < (L : Int) := by omega
            have hsz := hs.size
            have i1 : gI < wq.heap.size := by omega
            have i2 : gR < wq.heap.size := by omega
            have HS2 : Hid (Sim w5 ((wq.setCell ⟨gI, j, none⟩ (.int .u64 77)).setCell ⟨gR, j, none⟩ (.int .u64 77)) ∧ Fr (fun k => k = gI ∨ k = gR) w5 ((wq.setCell ⟨gI, j, none⟩ (.int .u64 77)).setCell ⟨gR, j, none⟩ (.int .u64 77))) := ⟨(hs.set k1 77).set k2 77, (hfj.setCell (p := ⟨gI, j, none⟩) (fun _ => .inl rfl) _).setCell (p := ⟨gR, j, none⟩) (fun _ => .inr rfl) _⟩
            clear k1 k2 k3 k4 hs hfj hsz
            go_wp2
            go_roundg (L - (j + 1))
            case measure => omega
            case rel => exact ⟨j + 1, by go_num, rfl, by omega, HS2.out.1, HS2.out.2⟩
          · obtain rfl : j = L := by omega
            have hd0 : decide ((j : Int) < (j : Int)) = false := by simp
            have HP6 : Hid (PH hb2 tb2 cb2 mb2 g2 vs2 ws ws st2 wq) := HPH.out wq hfj
            have HOB : Hid (Calls Tryz.prog 9 #[.pointer (some ⟨hb2, 0, none⟩)] wq fun e w' => ∃ v gs, e = .returned v ∧ ToldO wq.heap.size w' v ws (objs ws) gs ∧ Fr New wq w') := hobjs_any hb2 tb2 cb2 mb2 g2 vs2 ws ws st2 wq HP6.out
            have HFQ : Hid (∀ w1, Fr New wq w1 → Fr New wb w1 ∧ PH hb2 tb2 cb2 mb2 g2 vs2 ws ws st2 w1) := fun w1 h1 => ⟨(HFB.out wq hfj).same h1, HP6.out.new h1⟩
            clear hs hfj HCI HFB HPH HP6
            obtain ⟨l, hl⟩ : ∃ l, l = objs ws := ⟨_, rfl⟩
            rw [← hl] at HOB HIN HOL
            have hol := HOL.out
            clear hl
            go_wp2_with (first
              | (go_at_call 9; refine HOB.out.mono ?_; rintro e w6 ⟨v, gs, rfl, hT, hf6⟩; obtain ⟨al, cl, hvl⟩ := own_slice hT.own; subst hvl)
              | fail)
            have HAT : Hid (∀ i (hi : i < l.length), ∃ gl gj M h0, al = some ⟨gl, 0, none⟩ ∧ M = 8 * (l[i]).span - 1 ∧ w6.cell? ⟨gl, i * 4, none⟩ = some (.int .i64 h0) ∧ w6.frozen? ⟨gl, i * 4, none⟩ = false ∧ w6.cell? ⟨gl, i * 4 + 3, none⟩ = some (.slice (some ⟨gj, 0, none⟩) M M) ∧ (∀ k, k < M → ∃ y, w6.cell? ⟨gj, k, none⟩ = some (.int .u64 y)) ∧ (∀ k, w6.frozen? ⟨gj, k, none⟩ = false) ∧ wq.heap.size ≤ gl ∧ wq.heap.size ≤ gj ∧ gl < w6.heap.size ∧ gj < w6.heap.size) := fun i hi => toldO_at hT hi
            have HF6 : Hid (Fr New wq w6) := hf6
            clear hT hf6 HOB
            go_loopg [19] l.length (fun gh vi wv => ∃ i : Nat, vi = .int .i64 (i : Int) ∧ gh = l.length - i ∧ i ≤ l.length ∧ Sim w6 wv ∧ Fr New wq wv)
            case atStart => exact ⟨0, rfl, by omega, by omega, Sim.refl _, HF6.out⟩
            case round =>
              obtain ⟨i, rfl, rfl, hin, hs, hfi⟩ := hrel
              obtain ⟨wv, hwwv⟩ : ∃ x, x = wr := ⟨_, rfl⟩
              subst hwwv
              by_cases hi : i < l.length
              · have hd1 : decide ((i : Int) < (l.length : Int)) = true := by simp; omega
                obtain ⟨gl, gj, M, h0, rfl, hM, k1, k2, k3, k4, k5, n1, n2, n3, n4⟩ := HAT.out i hi
                have hM31 : M ≤ 31 := by have := (HIN.out _ (List.getElem_mem hi)).2; omega
                have b0 : (0 : Int) ≤ (i : Int) := by omega
                have b1 : (i : Int) < (l.length : Int) := by omega
                have HKK : Hid (∀ wz, Sim w6 wz → (∃ y, wz.cell? ⟨gl, i * 4, none⟩ = some (.int .i64 y)) ∧ wz.frozen? ⟨gl, i * 4, none⟩ = false ∧ wz.cell? ⟨gl, i * 4 + 3, none⟩ = some (.slice (some ⟨gj, 0, none⟩) M M) ∧ (∀ k, k < M → ∃ y, wz.cell? ⟨gj, k, none⟩ = some (.int .u64 y)) ∧ (∀ k, wz.frozen? ⟨gj, k, none⟩ = false) ∧ gl < wz.heap.size ∧ gj < wz.heap.size) := fun wz h => by
                  refine ⟨h.int _ _ _ k1, (h.frz _).trans k2, h.oth _ _ k3 (fun _ _ e => by cases e), fun k hk => ?_, fun k => (h.frz _).trans (k5 k), by rw [h.size]; exact n3, by rw [h.size]; exact n4⟩
                  obtain ⟨y, hy⟩ := k4 k hk
                  exact h.int _ _ _ hy
                have HSW : Hid (∀ wz k, Sim w6 wz → Fr New wq wz → k < M → Sim w6 (wz.setCell ⟨gj, k, none⟩ (.int .u64 77)) ∧ Fr New wq (wz.setCell ⟨gj, k, none⟩ (.int .u64 77))) := fun wz k h hf hk => by
                  obtain ⟨y, hy⟩ := k4 k hk
                  exact ⟨h.set hy 77, hf.setCell (p := ⟨gj, k, none⟩) (fun h => absurd h (by simp only; omega)) _⟩
                have HSH : Hid (∀ wz, Sim w6 wz → Fr New wq wz → Sim w6 (wz.setCell ⟨gl, i * 4, none⟩ (.int .i64 77)) ∧ Fr New wq (wz.setCell ⟨gl, i * 4, none⟩ (.int .i64 77))) := fun wz h hf => ⟨h.set k1 77, hf.setCell (p := ⟨gl, i * 4, none⟩) (fun h => absurd h (by simp only; omega)) _⟩
                have HS0 : Hid (Sim w6 wv ∧ Fr New wq wv) := ⟨hs, hfi⟩
                clear hM k1 k2 k3 k4 k5 n1 n2 n3 n4 hs hfi
                go_wp2
                go_loopg [20] M (fun gh vk wz => ∃ k : Nat, vk = .int .i64 (k : Int) ∧ gh = M - k ∧ k ≤ M ∧ Sim w6 wz ∧ Fr New wq wz)
                case atStart => exact ⟨0, rfl, by omega, by omega, HS0.out.1, HS0.out.2⟩
                case round =>
                  obtain ⟨k, rfl, rfl, hkm, hs, hfk⟩ := hrel
                  obtain ⟨wz, hwwz⟩ : ∃ x, x = wr := ⟨_, rfl⟩
                  subst hwwz
                  obtain ⟨⟨y0, e0⟩, e1, e3, e4, e5, e6, e7⟩ := HKK.out wz hs
                  by_cases hk : k < M
                  · have hd2 : decide ((k : Int) < (M : Int)) = true := by simp; omega
                    obtain ⟨y, ey⟩ := e4 k hk
                    have ez := e5 k
                    have c0 : (0 : Int) ≤ (k : Int) := by omega
                    have c1 : (k : Int) < (M : Int) := by omega
                    have HN : Hid (Sim w6 (wz.setCell ⟨gj, k, none⟩ (.int .u64 77)) ∧ Fr New wq (wz.setCell ⟨gj, k, none⟩ (.int .u64 77))) := HSW.out wz k hs hfk hk
                    clear e4 e5 hs hfk e0 e1
                    go_wp2
                    go_roundg (M - (k + 1))
                    case measure => omega
                    case rel => exact ⟨k + 1, by go_num, rfl, by omega, HN.out.1, HN.out.2⟩
                  · obtain rfl : k = M := by omega
                    have hd2 : decide ((k : Int) < (k : Int)) = false := by simp
                    have HN : Hid (Sim w6 (wz.setCell ⟨gl, i * 4, none⟩ (.int .i64 77)) ∧ Fr New wq (wz.setCell ⟨gl, i * 4, none⟩ (.int .i64 77))) := HSH.out wz hs hfk
                    clear e4 e5 hs hfk
                    go_wp2
                    go_roundg (l.length - (i + 1))
                    case measure => omega
                    case rel => exact ⟨i + 1, by go_num, rfl, by omega, HN.out.1, HN.out.2⟩
              · obtain rfl : i = l.length := by omega
                have hd1 : decide ((l.length : Int) < (l.length : Int)) = false := by simp
                have HF7 : Hid (Fr New wq wv) := hfi
                clear hs hfi HAT HF6 hi hin
                go_upto_region 38 with (first
                  | (go_at_call 10; refine (HWK.out wv).mono ?_; rintro e w7 ⟨rfl, hf7⟩; have hf7' := HF7.out.same hf7)
                  | fail)
                obtain ⟨d0, d2, d3, d4, d5, d6⟩ := HCS.out w7 (HFQ.out w7 hf7').1
                go_region_held3 (fun w' => w'.cell? ⟨sa, 0, none⟩ = some (.pointer (some ⟨hb, 0, none⟩)) ∧ w'.cell? ⟨sa, 2, none⟩ = some (.slice an mn cn) ∧ w'.cell? ⟨sa, 3, none⟩ = some (.int .i64 x3) ∧ w'.cell? ⟨sa, 4, none⟩ = some (.int .i64 x4) ∧ w'.cell? ⟨sa, 5, none⟩ = some (.int .i64 x5) ∧ w'.cell? ⟨sa, 6, none⟩ = some (.int .i64 x6)) (first | go_keep | exact hkpv1)
                  (first
                    | (go_at_call 11; refine (HIS.out _ (by first | exact (HFQ.out w7 hf7').1 | exact (HFQ.out w7 hf7').1.drew)).mono ?_; rintro e v1 ⟨rfl, hv1⟩; have hq1 : Fr New wq v1 := (by first | exact hf7'.same hv1 | exact hf7'.drew.same hv1); have hkpv1 : v1.cell? ⟨sa, 0, none⟩ = some (.pointer (some ⟨hb, 0, none⟩)) ∧ v1.cell? ⟨sa, 2, none⟩ = some (.slice an mn cn) ∧ v1.cell? ⟨sa, 3, none⟩ = some (.int .i64 x3) ∧ v1.cell? ⟨sa, 4, none⟩ = some (.int .i64 x4) ∧ v1.cell? ⟨sa, 5, none⟩ = some (.int .i64 x5) ∧ v1.cell? ⟨sa, 6, none⟩ = some (.int .i64 x6) := HCS.out v1 (HFQ.out v1 hq1).1)
                    | fail)
                all_goals
                  clear hkpv1 d0 d2 d3 d4 d5 d6
                  first
                    | (obtain ⟨vA, hW⟩ : ∃ W, W = v1.drew := ⟨_, rfl⟩; rw [← hW]; have hqA : Fr New wq vA := (by rw [hW]; exact hq1.drew); clear hW)
                    | (obtain ⟨vA, hW⟩ : ∃ W, W = v1 := ⟨_, rfl⟩; rw [← hW]; have hqA : Fr New wq vA := (by rw [hW]; exact hq1); clear hW)
                  obtain ⟨d0, d2, d3, d4, d5, d6⟩ := HCT.out vA (HFQ.out vA hqA).1
                  go_upto_region 39 with fail
                  go_region_held3 (fun w' => w'.cell? ⟨sb, 0, none⟩ = some (.pointer (some ⟨hbt, 0, none⟩)) ∧ w'.cell? ⟨sb, 2, none⟩ = some (.slice aT mt ct) ∧ w'.cell? ⟨sb, 3, none⟩ = some (.int .i64 u3) ∧ w'.cell? ⟨sb, 4, none⟩ = some (.int .i64 u4) ∧ w'.cell? ⟨sb, 5, none⟩ = some (.int .i64 u5) ∧ w'.cell? ⟨sb, 6, none⟩ = some (.int .i64 u6)) (first | go_keep | exact hkpv2)
                    (first
                      | (go_at_call 11; refine (HIT.out _ (by first | exact (HFQ.out vA hqA).1 | exact (HFQ.out vA hqA).1.drew)).mono ?_; rintro e v2 ⟨rfl, hv2⟩; have hq2 : Fr New wq v2 := (by first | exact hqA.same hv2 | exact hqA.drew.same hv2); have hkpv2 : v2.cell? ⟨sb, 0, none⟩ = some (.pointer (some ⟨hbt, 0, none⟩)) ∧ v2.cell? ⟨sb, 2, none⟩ = some (.slice aT mt ct) ∧ v2.cell? ⟨sb, 3, none⟩ = some (.int .i64 u3) ∧ v2.cell? ⟨sb, 4, none⟩ = some (.int .i64 u4) ∧ v2.cell? ⟨sb, 5, none⟩ = some (.int .i64 u5) ∧ v2.cell? ⟨sb, 6, none⟩ = some (.int .i64 u6) := HCT.out v2 (HFQ.out v2 hq2).1)
                      | fail)
                  all_goals
                    clear hkpv2 d0 d2 d3 d4 d5 d6
                    first
                      | (obtain ⟨vB, hW⟩ : ∃ W, W = v2.drew := ⟨_, rfl⟩; rw [← hW]; have hqB : Fr New wq vB := (by rw [hW]; exact hq2.drew); clear hW)
                      | (obtain ⟨vB, hW⟩ : ∃ W, W = v2 := ⟨_, rfl⟩; rw [← hW]; have hqB : Fr New wq vB := (by rw [hW]; exact hq2); clear hW)
                    obtain ⟨d0, d7, d8, d9, d10, d11⟩ := HCK.out vB (HFQ.out vB hqB).1
                    go_wp2_with (first
                      | (go_at_call 11; refine (HIK.out hb2 tb2 cb2 mb2 g2 vs2 st2 vB (HFQ.out vB hqB).2 (HFQ.out vB hqB).1).mono ?_; rintro e v3 ⟨rfl, hv3⟩)
                      | fail)
                    go_ret
                    exact ⟨rfl, HFW.out.same (((HFQ.out vB hqB).1).same hv3)⟩
end Go.Proofs.YtbagcjlimdilpabGreat

