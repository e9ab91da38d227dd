/- The walk of the law Full. -/
import Derived.Test.YtbagcjlimdilpaaGreatKtKrB
import Derived.Test.YtbagcjlimdilpaaGreatKtJ20
import Derived.Test.YtbagcjlimdilpaaGreatKtKpD
import Derived.Deep.RegionHeld3
namespace Go.Proofs.YtbagcjlimdilpaaGreat
open Go.RowKit Go.Maps

theorem wrote_write {now : List Int} {i : Nat} (v : Int) (h : objs now = [⟨0, 4, 0⟩, ⟨4, 4, 0⟩]) (hi : i < 47) : writeS now ((4 * whichO i + 1 : Nat) : Int) (whichW i : Int) v = (now.set (plc i) v, 0) := by
  obtain ⟨hk, e1, h31, e2⟩ := wrote_at h hi
  have := write_is (now := now) (k := whichO i) (i := whichW i) (y := v) hk (by rw [e1]; simp only; omega) (by rw [e1]; intro h; simp at h)
  rw [e2, e1] at this
  exact this
theorem wrote_things {now : List Int} {i : Nat} (v : Int) (g : Good now) (h : objs now = [⟨0, 4, 0⟩, ⟨4, 4, 0⟩]) (hi : i < 47) (hk : whichO i < (things now).length) : things (now.set (plc i) v) = (things now).set (whichO i) (((things now)[whichO i]).1, ((things now)[whichO i]).2.set (whichW i) v) := by
  obtain ⟨_, e1, h31, e2⟩ := wrote_at h hi
  obtain ⟨_, t2, _, _⟩ := things_write (now := now) (k := whichO i) (i := whichW i) (y := v) g hk (by rw [e1]; simp only; omega) (by rw [e1]; intro h; simp at h)
  rw [e2] at t2
  exact t2
theorem find_two (i : Nat) : findI [⟨0, 4, 0⟩, ⟨4, 4, 0⟩] ((4 * whichO i + 1 : Nat) : Int) = (whichO i : Int) := by
  unfold whichO
  split <;> rfl
theorem is_zero {now : List Int} (g : Good now) (h : wd now 3 = 0 ∧ wd now 4 = 0 ∧ wd now 5 = 0 ∧ wd now 6 = 0) : IsIt now (things now) 0 0 0 0 := by
  have := is_self g
  rwa [h.1, h.2.1, h.2.2.1, h.2.2.2] at this

set_option maxHeartbeats 2000000 in
set_option maxRecDepth 100000 in
theorem full_walk (a0 : Option Addr) (len cap : Nat) (z : List Int) (w : World) (hl : z.length = len) (hc : RawAt w a0 z) (hz : ∀ i, I64 (z.getD i 0)) : Calls Tryz.prog 7 #[.slice a0 len cap] w fun e w' => e = .returned (.bool true) ∧ Fr New w w' := by
  subst hl
  have HBG : Hid (Calls Tryz.prog 15 #[.int .i64 32] w fun e w' => ∃ sb F, e = .returned (.tuple #[.pointer (some ⟨sb, 0, none⟩), .bool true]) ∧ Story F sb 32 (imgL 32) (imgL 32) [] w' ∧ (∀ k, F k → w.heap.size ≤ k) ∧ Fr New w w') := begun_any 32 (by omega) (by omega) w
  have HAL : Hid (∀ F sb now w1, Story F sb 32 (imgL 32) now [] w1 → (∀ k, F k → w.heap.size ≤ k) → Fr New w w1 → Calls Tryz.prog 23 #[.pointer (some ⟨sb, 0, none⟩), .int .i64 4, .int .i64 0] w1 fun e w' => e = .returned (.bool true) ∧ ∃ now1 F', Story F' sb 32 (imgL 32) now1 [] w' ∧ (∀ k, F' k → w.heap.size ≤ k) ∧ Fr New w w' ∧ AllocTo now 32 4 0 now1) := fun F sb now w1 hS hF hf => by
    refine (kalloc_any F sb 32 (imgL 32) now [] 4 0 (by omega) (by omega) (by omega) w1 hS).mono ?_
    rintro e w' ⟨rfl, now1, F', q1, q2, q3, q4⟩
    refine ⟨rfl, now1, F', q1, fun k hk => ?_, hf.trans q2 (fun j hj h => by have := hF j h; omega), q4⟩
    rcases q3 k hk with h | h
    · exact hF k h
    · exact Nat.le_trans hf.size h
  have HZ : Hid (∀ wr, Fr New w wr → RawAt wr a0 z) := fun wr hf => hc.fr hf
  have HI : Hid (∀ i, I64 (z.getD i 0)) := hz
  clear hc hz
  go_enter Tryz.func7, Tryz.ntmps7
  go_upto_region 8 with (first
    | (go_at_call 15; refine HBG.out.mono ?_; rintro e w1 ⟨sb, F1, rfl, hS1, hF1, hf1⟩)
    | (go_at_call 23; refine (HAL.out F2 sb now1 w2 hS2 hF2 hf2).mono ?_; rintro e w3 ⟨rfl, now2, F3, hS3, hF3, hf3, ha3⟩)
    | (go_at_call 23; refine (HAL.out F1 sb _ w1 hS1 hF1 hf1).mono ?_; rintro e w2 ⟨rfl, now1, F2, hS2, hF2, hf2, ha2⟩)
    | fail)
  have HTW : Hid (Two now2) := two_words ha2 ha3
  obtain ⟨hb, tb, cb, mb, g, vs, vn, vk, un, H3⟩ := hS3.half hF3 hf3
  obtain ⟨hre, hne, hon⟩ := two_commit HTW.out
  have hlen2 : (things now2).length = 2 := by rw [things_len, HTW.out.ob]; rfl
  obtain ⟨g2, cv, hvn⟩ : ∃ g2 cv, vn = .slice (some ⟨g2, 0, none⟩) 2 cv := by
    obtain ⟨g2, cv, _, _, h, _⟩ := H3.tn.at' 0 (by omega)
    rw [hlen2] at h
    exact ⟨g2, cv, h⟩
  subst hvn
  obtain ⟨A, hA⟩ : ∃ A, A = stArr hb 32 (.slice (some ⟨g2, 0, none⟩) 2 cv) vk now2 (imgL 32) := ⟨_, rfl⟩
  rw [← hA] at H3
  have HLK : Hid (Like (pcommitW (imgL 32) now2) now2) := (commit_good HTW.out.hw (by omega)).2
  obtain ⟨ws, hws⟩ : ∃ ws, ws = pcommitW (imgL 32) now2 := ⟨_, rfl⟩
  rw [← hws] at hon HLK
  have HON : Hid (Once ws) := hon
  obtain ⟨st, hst⟩ : ∃ st, st = pcommitSt (imgL 32) now2 := ⟨_, rfl⟩
  have hst19 : st.length = 19 := by rw [hst, sts_len, hre]
  have HCM1 : Hid (Calls Tryz.prog 24 #[.pointer (some ⟨hb, 0, none⟩)] w3 fun e w' => e = .returned (.int .i64 0) ∧ ∃ vs', Hf w sb hb tb cb mb g (vs') (.slice (some ⟨g2, 0, none⟩) 2 cv) un A ws (ws) (ws) st w') := by
    refine (H3.commit_ HTW.out.hw.two (by simp)).mono ?_
    rintro e w' ⟨c, rfl, ⟨h, _⟩ | ⟨_, h, _⟩ | ⟨_, _, rfl, vs', h1, _⟩⟩
    · exact absurd h hne
    · omega
    · rw [List.nil_append, ← hws, ← hst] at h1
      exact ⟨rfl, vs', h1.shape (things_like HLK.out)⟩
  have HC : Hid (∀ vs' ws' now' shp' sts' w1, Hf w sb hb tb cb mb g (vs') (.slice (some ⟨g2, 0, none⟩) 2 cv) un A ws' (now') (shp') sts' w1 → w1.cell? ⟨sb, 0, none⟩ = some (.pointer (some ⟨hb, 0, none⟩)) ∧ w1.cell? ⟨sb, 2, none⟩ = some (.slice (some ⟨g2, 0, none⟩) 2 cv) ∧ w1.cell? ⟨sb, 3, none⟩ = some (.int .i64 0) ∧ w1.cell? ⟨sb, 4, none⟩ = some (.int .i64 0) ∧ w1.cell? ⟨sb, 5, none⟩ = some (.int .i64 0) ∧ w1.cell? ⟨sb, 6, none⟩ = some (.int .i64 0) ∧ sb < w1.heap.size) := fun vs' ws' now' shp' sts' w1 h => by
    have hz : ∀ q, 3 ≤ q → q < 7 → wd now2 q = 0 := fun q h1 h2 => by rw [HTW.out.wd, if_neg (by omega), (imgL_hw 32 (by omega) (by omega)).2.2 q (by omega) (by omega)]
    refine ⟨?_, ?_, ?_, ?_, ?_, ?_, h.lt⟩
    · rw [h.cell, hA]; rfl
    · rw [h.cell, hA]; rfl
    · rw [h.cell, hA, ← hz 3 (by omega) (by omega)]; rfl
    · rw [h.cell, hA, ← hz 4 (by omega) (by omega)]; rfl
    · rw [h.cell, hA, ← hz 5 (by omega) (by omega)]; rfl
    · rw [h.cell, hA, ← hz 6 (by omega) (by omega)]; rfl
  have HIM : Hid (∀ vs' sts' now' w1, Hf w sb hb tb cb mb g (vs') (.slice (some ⟨g2, 0, none⟩) 2 cv) un A ws (now') (now') sts' w1 → Calls Tryz.prog 21 #[.pointer (some ⟨hb, 0, none⟩)] w1 fun e w' => e = .returned (.slice (some ⟨w1.heap.size, 0, none⟩) 362 362) ∧ Row w' w1.heap.size ws ∧ Hf w sb hb tb cb mb g (vs') (.slice (some ⟨g2, 0, none⟩) 2 cv) un A ws (now') (now') sts' w' ∧ Fr New w1 w') := fun vs' sts' now' w1 h => by
    have := h.image_
    rwa [HON.out.len] at this
  have HST1 : Hid (∀ vs' w1, Hf w sb hb tb cb mb g (vs') (.slice (some ⟨g2, 0, none⟩) 2 cv) un A ws (ws) (ws) st w1 → Calls Tryz.prog 25 #[.pointer (some ⟨hb, 0, none⟩)] w1 fun e w' => ∃ sa sc, e = .returned (.slice sa 19 sc) ∧ Hf w sb hb tb cb mb g (.slice none 0 0) (.slice (some ⟨g2, 0, none⟩) 2 cv) un A ws (ws) (ws) [] w' ∧ Fr (fun k => k = tb) w1 w') := fun vs' w1 h => by
    have := h.stores_
    rwa [hst19] at this
  have HST2 : Hid (∀ vs' w1, Hf w sb hb tb cb mb g (vs') (.slice (some ⟨g2, 0, none⟩) 2 cv) un A ws (ws) (ws) [] w1 → Calls Tryz.prog 25 #[.pointer (some ⟨hb, 0, none⟩)] w1 fun e w' => ∃ sa sc, e = .returned (.slice sa 0 sc) ∧ Hf w sb hb tb cb mb g (.slice none 0 0) (.slice (some ⟨g2, 0, none⟩) 2 cv) un A ws (ws) (ws) [] w' ∧ Fr (fun k => k = tb) w1 w') := fun vs' w1 h => h.stores_
  have HCM2 : Hid (∀ vs' w1, Hf w sb hb tb cb mb g (vs') (.slice (some ⟨g2, 0, none⟩) 2 cv) un A ws (ws) (ws) [] w1 → Calls Tryz.prog 24 #[.pointer (some ⟨hb, 0, none⟩)] w1 fun e w' => e = .returned (.int .i64 0) ∧ Hf w sb hb tb cb mb g (vs') (.slice (some ⟨g2, 0, none⟩) 2 cv) un A ws (ws) (ws) [] w' ∧ Fr New w1 w') := fun vs' w1 h => by
    refine (h.commit_ rfl (by simp)).mono ?_
    rintro e w' ⟨c, rfl, ⟨_, rfl, h1, h2⟩ | ⟨h, _⟩ | ⟨h, _⟩⟩
    · exact ⟨rfl, h1, h2⟩
    · exact absurd rfl h
    · exact absurd rfl h
  have HRW : Hid (∀ vs' ws' now' shp' sts' gI w1 w2, Hf w sb hb tb cb mb g (vs') (.slice (some ⟨g2, 0, none⟩) 2 cv) un A ws' (now') (shp') sts' w1 → Row w1 gI ws → Fr (fun k => k = tb ∨ k = mb) w1 w2 → Row w2 gI ws) := fun vs' ws' now' shp' sts' gI w1 w2 h hr hf => hf.heap hr (fun e => by
    rcases e with e | e
    · exact type_ne hr h.ph.tg.t.td (by decide) e
    · exact h.ph.mapNe hr e)
  have HW2 : Hid (∀ gI w1, Row w1 gI ws → w1.cell? ⟨gI, 2, none⟩ = some (.int .u64 1)) := fun gI w1 hr => by
    rw [hr.cell 2 (by rw [HON.out.len]; omega)]
    have := HON.out.head.2.2.1
    have hl := HON.out.len
    rw [show ws[2]'(by omega) = wd ws 2 by simp [wd, List.getD, hl], this]
  have HGI : Hid (∀ vs' ws' now' shp' sts' w1, Hf w sb hb tb cb mb g (vs') (.slice (some ⟨g2, 0, none⟩) 2 cv) un A ws' (now') (shp') sts' w1 → w1.heap.size ≠ g ∧ ∀ u ∈ un, u.ownBlock ≠ some w1.heap.size) := fun vs' ws' now' shp' sts' w1 h => ⟨fun e => by
    have := lt_of_block h.ph.tg.t.wb
    omega, fun u hu e => by
    have := h.tn.lt (.inr ⟨u, hu, e⟩)
    omega⟩
  obtain ⟨c0, c2, c3, c4, c5, c6, cl⟩ := HC.out _ _ _ _ _ w3 H3
  clear hA hS1 hS2 hS3 hF1 hF2 hF3 hf1 hf2 hf3 ha2 ha3 hre hne hon hlen2 H3 hws hst hst19 HTW HBG HAL
  go_wp2_with (first
    | (go_at_call 24; refine (HCM2.out _ w6 H6).mono ?_; rintro e w7 ⟨rfl, H7, hf7⟩; have hR7 := hf7.heap hR6 id; obtain ⟨p70, p72, p73, p74, p75, p76, p7l⟩ := HC.out _ _ _ _ _ w7 H7)
    | (go_at_call 24; refine HCM1.out.mono ?_; rintro e w4 ⟨rfl, vs4, H4⟩; obtain ⟨p40, p42, p43, p44, p45, p46, p4l⟩ := HC.out _ _ _ _ _ w4 H4)
    | (go_at_call 21; refine (HIM.out _ _ _ w4 H4).mono ?_; rintro e w5 ⟨rfl, hR5, H5, hf5⟩; obtain ⟨p50, p52, p53, p54, p55, p56, p5l⟩ := HC.out _ _ _ _ _ w5 H5)
    | (go_at_call 25; refine (HST2.out _ w7 H7).mono ?_; rintro e w8 ⟨sa8, sc8, rfl, H8, hf8⟩; have hR8 := HRW.out _ _ _ _ _ _ w7 w8 H7 hR7 (hf8.mono (fun _ _ e => .inl e)); obtain ⟨p80, p82, p83, p84, p85, p86, p8l⟩ := HC.out _ _ _ _ _ w8 H8; have hw82 := HW2.out _ w8 hR8)
    | (go_at_call 25; refine (HST1.out _ w5 H5).mono ?_; rintro e w6 ⟨sa6, sc6, rfl, H6, hf6⟩; have hR6 := HRW.out _ _ _ _ _ _ w5 w6 H5 hR5 (hf6.mono (fun _ _ e => .inl e)); obtain ⟨p60, p62, p63, p64, p65, p66, p6l⟩ := HC.out _ _ _ _ _ w6 H6)
    | fail)
  obtain ⟨hgg, hgu⟩ := HGI.out _ _ _ _ _ w4 H4
  obtain ⟨gI, hgI⟩ : ∃ gI, gI = w4.heap.size := ⟨_, rfl⟩
  rw [← hgI] at hR8 hgg hgu
  rw [← hgI]
  have HG : Hid (gI ≠ g ∧ ∀ u ∈ un, u.ownBlock ≠ some gI) := ⟨hgg, hgu⟩
  have H8' : Hid (Hf w sb hb tb cb mb g (.slice none 0 0) (.slice (some ⟨g2, 0, none⟩) 2 cv) un A ws (ws) (ws) [] w8 ∧ Row w8 gI ws) := ⟨H8, hR8⟩
  clear hgI hgg hgu H4 H5 H6 H7 H8 hR5 hR6 hR7 hR8 hf5 hf6 hf7 hf8 hw82 p40 p42 p43 p44 p45 p46 p4l p50 p52 p53 p54 p55 p56 p5l p60 p62 p63 p64 p65 p66 p6l p70 p72 p73 p74 p75 p76 p7l p80 p82 p83 p84 p85 p86 p8l c0 c2 c3 c4 c5 c6 cl HGI HST1 HST2 HCM1 HCM2
  go_loopg [12] 47 (fun gh t wr => ∃ (i : Nat) (now : List Int), i ≤ 47 ∧ gh = 47 - i ∧ t = .int .i64 (i : Int) ∧ Wrote ws now i ∧ Hf w sb hb tb cb mb g (.slice none 0 0) (.slice (some ⟨g2, 0, none⟩) 2 cv) un A ws (now) (now) [] wr ∧ Row wr gI ws)
  case atStart => exact ⟨0, ws, by omega, rfl, rfl, wrote_none HON.out, H8'.out.1, H8'.out.2⟩
  case round =>
    clear H8'
    obtain ⟨i, now, hi47, rfl, rfl, hW, H, hR⟩ := hrel
    by_cases hi : i < 47
    · have hd0 : decide ((i : Int) < 47) = true := by simp; omega
      by_cases h31 : i < 31
      · have hO : whichO i = 0 := by unfold whichO; rw [if_pos h31]
        have hK : whichW i = i := by unfold whichW; rw [if_pos h31]
        have hwr := fun v => wrote_write v hW.ob hi
        have hfi := find_two i
        have hth := fun v => wrote_things v hW.hw.gn hW.ob hi
        have hat := wrote_at hW.ob hi
        rw [hO] at hfi
        simp only [hO, hK] at hwr hth hat
        obtain ⟨hk, e1, hw31, -⟩ := hat
        obtain ⟨_, _, gi, ci, hv2, -, -, -, -, -, -, hgu, -, -⟩ := H.tn.at' 0 hk
        have hl2 : (things now).length = 2 := by rw [things_len, hW.ob]; rfl
        rw [hl2] at hv2
        cases hv2
        have hgi2 := hgu
        obtain ⟨hku, hue⟩ := hgi2
        have hgI2 : gi ≠ gI := fun e => HG.out.2 _ (List.getElem_mem hku) (by rw [hue, e]; rfl)
        have hln : ((things now)[0]).2.length = 31 := by
          have := (H.tn.fit _ (List.getElem_mem hk)).1
          rw [e1] at this
          exact this
        have HWR : Hid (∀ v, U v → Calls Tryz.prog 26 #[.pointer (some ⟨hb, 0, none⟩), .int .i64 1, .int .i64 (i : Int), .int .u64 v] wr fun e w' => e = .returned (.int .i64 0) ∧ Hf w sb hb tb cb mb g (.slice none 0 0) (.slice (some ⟨g2, 0, none⟩) 2 cv) un A ws (now.set (plc i) v) (now) [] w' ∧ Fr (fun k => k = mb) wr w') := fun v hv => by
          have := H.write_ 1 (i : Int) v (by omega) (by omega) hv
          rwa [show writeS now 1 (i : Int) v = (now.set (plc i) v, 0) from hwr v] at this
        have HAT : Hid (∀ now' w1, Hf w sb hb tb cb mb g (.slice none 0 0) (.slice (some ⟨g2, 0, none⟩) 2 cv) un A ws (now') (now) [] w1 → Calls Tryz.prog 27 #[.agg #[.slice (some ⟨g2, 0, none⟩) 2 cv, .int .i64 0, .int .i64 0, .int .i64 0, .int .i64 0], .int .u64 1] w1 fun e w' => e = .returned (.int .i64 0) ∧ Fr New w1 w') := fun now' w1 h1 => by
          have := h1.at_ 0 0 0 0 1
          rwa [hW.ob, show findI [⟨0, 4, 0⟩, ⟨4, 4, 0⟩] 1 = 0 from hfi] at this
        have HTH : Hid (∀ now' w1, Hf w sb hb tb cb mb g (.slice none 0 0) (.slice (some ⟨g2, 0, none⟩) 2 cv) un A ws (now') (now) [] w1 → w1.cell? ⟨g2, 3, none⟩ = some (.slice (some ⟨gi, 0, none⟩) 31 ci) ∧ (∃ y, w1.cell? ⟨gi, i, none⟩ = some (.int .u64 y)) ∧ w1.frozen? ⟨gi, i, none⟩ = false ∧ gi < w1.heap.size) := fun now' w1 h1 => by
          obtain ⟨_, _, gj, cj, hv3, _, _, _, _, d3, hr, ⟨_, hu3⟩, hz, hl⟩ := h1.tn.at' 0 hk
          rw [hl2] at hv3
          cases hv3
          rw [hue] at hu3
          cases hu3
          rw [hln] at d3
          obtain ⟨x, hx, hcx⟩ := hr i (by rw [hln]; omega)
          cases hx
          rw [add_plain, Nat.zero_add] at hcx
          exact ⟨d3, ⟨_, hcx⟩, hz _, hl⟩
        have HEND : Hid (∀ v w1, Hf w sb hb tb cb mb g (.slice none 0 0) (.slice (some ⟨g2, 0, none⟩) 2 cv) un A ws (now.set (plc i) v) (now) [] w1 → v ≠ 0 → Row w1 gI ws → Wrote ws (now.set (plc i) v) (i + 1) ∧ Hf w sb hb tb cb mb g (.slice none 0 0) (.slice (some ⟨g2, 0, none⟩) 2 cv) un A ws (now.set (plc i) v) (now.set (plc i) v) [] (w1.setCell ⟨gi, i, none⟩ (.int .u64 v)) ∧ Row (w1.setCell ⟨gi, i, none⟩ (.int .u64 v)) gI ws) := fun v w1 h1 hv hr =>
          ⟨wrote_next HON.out hW hi hv, h1.put hk hgu (hth v hk), ((Fr.refl (fun j => j = gi) w1).setCell (p := ⟨gi, i, none⟩) (fun _ => rfl) (.int .u64 v)).heap hr (fun e => hgI2 e.symm)⟩
        have HRK : Hid (∀ now' w1 w2, Hf w sb hb tb cb mb g (.slice none 0 0) (.slice (some ⟨g2, 0, none⟩) 2 cv) un A ws (now') (now) [] w1 → Row w1 gI ws → Fr (fun k => k = mb) w1 w2 → Row w2 gI ws) := fun now' w1 w2 h1 hr hf => HRW.out _ _ _ _ _ _ w1 w2 h1 hr (hf.mono (fun _ _ e => .inr e))
        have HH : Hid (Hf w sb hb tb cb mb g (.slice none 0 0) (.slice (some ⟨g2, 0, none⟩) 2 cv) un A ws (now) (now) [] wr ∧ Row wr gI ws ∧ RawAt wr a0 z) := ⟨H, hR, HZ.out wr H.f⟩
        obtain ⟨q0, q2, q3, q4, q5, q6, ql⟩ := HC.out _ _ _ _ _ wr H
        clear hwr hfi hth hue hku hgu hln hl2 hW H hR hO hK hk e1 hw31
        have b1 : (0 : Int) ≤ (i : Int) := by omega
        have b2 : (i : Int) < 31 := by omega
        have b5 : decide (31 ≤ (i : Int)) = false := by simp; omega
        by_cases hz1 : i < z.length
        · have hd1 : decide ((i : Int) < (z.length : Int)) = true := by simp; omega
          obtain ⟨ad, rfl, r0⟩ := HH.out.2.2 i hz1
          obtain ⟨z0, hz0⟩ : ∃ x, x = z.getD i 0 := ⟨_, rfl⟩
          rw [← hz0] at r0
          have HZ0 : Hid (I64 z0) := by show I64 z0; rw [hz0]; exact HI.out i
          clear hz0
          have b7 : (i : Int) < (z.length : Int) := by omega
          by_cases hz2 : z0 = 0
          · have hd2 : (z0 == 0) = true := by simpa using hz2
            have hd3 : (z0 != 0) = false := by simpa using hz2
            go_wp2_with (first
              | (go_at_call 26; refine (HWR.out _ (by first | exact wrapU _ | (unfold U; omega))).mono ?_; rintro e w9 ⟨rfl, H9, hf9⟩; have hR9 := HRK.out _ wr w9 HH.out.1 HH.out.2.1 hf9; obtain ⟨r0, r2, r3, r4, r5, r6, rl⟩ := HC.out _ _ _ _ _ w9 H9)
              | (go_at_call 27; refine (HAT.out _ w9 H9).mono ?_; rintro e w10 ⟨rfl, hf10⟩; have H10 := H9.new hf10; have hR10 := hf10.heap hR9 id; obtain ⟨s0, s2, s3, s4, s5, s6, sl⟩ := HC.out _ _ _ _ _ w10 H10; obtain ⟨t3, ⟨y, ty⟩, tz, tl⟩ := HTH.out _ w10 H10)
              | fail)
            go_roundg (47 - (i + 1))
            case measure => omega
            case rel =>
              obtain ⟨e1, e2, e3⟩ := HEND.out _ w10 H10 (by first | omega | (rw [IntKind.wrap_u64]; omega)) hR10
              exact ⟨i + 1, _, by omega, rfl, by go_num, e1, e2, e3⟩
          · have hd2 : (z0 == 0) = false := by simpa using hz2
            have hd3 : (z0 != 0) = true := by simpa using hz2
            go_wp2_with (first
              | (go_at_call 26; refine (HWR.out _ (by first | exact wrapU _ | (unfold U; omega))).mono ?_; rintro e w9 ⟨rfl, H9, hf9⟩; have hR9 := HRK.out _ wr w9 HH.out.1 HH.out.2.1 hf9; obtain ⟨r0, r2, r3, r4, r5, r6, rl⟩ := HC.out _ _ _ _ _ w9 H9)
              | (go_at_call 27; refine (HAT.out _ w9 H9).mono ?_; rintro e w10 ⟨rfl, hf10⟩; have H10 := H9.new hf10; have hR10 := hf10.heap hR9 id; obtain ⟨s0, s2, s3, s4, s5, s6, sl⟩ := HC.out _ _ _ _ _ w10 H10; obtain ⟨t3, ⟨y, ty⟩, tz, tl⟩ := HTH.out _ w10 H10)
              | fail)
            go_roundg (47 - (i + 1))
            case measure => omega
            case rel =>
              obtain ⟨e1, e2, e3⟩ := HEND.out _ w10 H10 (by have := HZ0.out; unfold I64 at this; rw [IntKind.wrap_u64]; omega) hR10
              exact ⟨i + 1, _, by omega, rfl, by go_num, e1, e2, e3⟩
        · have hd1 : decide ((i : Int) < (z.length : Int)) = false := by simp; omega
          go_wp2_with (first
            | (go_at_call 26; refine (HWR.out _ (by first | exact wrapU _ | (unfold U; omega))).mono ?_; rintro e w9 ⟨rfl, H9, hf9⟩; have hR9 := HRK.out _ wr w9 HH.out.1 HH.out.2.1 hf9; obtain ⟨r0, r2, r3, r4, r5, r6, rl⟩ := HC.out _ _ _ _ _ w9 H9)
            | (go_at_call 27; refine (HAT.out _ w9 H9).mono ?_; rintro e w10 ⟨rfl, hf10⟩; have H10 := H9.new hf10; have hR10 := hf10.heap hR9 id; obtain ⟨s0, s2, s3, s4, s5, s6, sl⟩ := HC.out _ _ _ _ _ w10 H10; obtain ⟨t3, ⟨y, ty⟩, tz, tl⟩ := HTH.out _ w10 H10)
            | fail)
          go_roundg (47 - (i + 1))
          case measure => omega
          case rel =>
            obtain ⟨e1, e2, e3⟩ := HEND.out _ w10 H10 (by first | omega | (rw [IntKind.wrap_u64]; omega)) hR10
            exact ⟨i + 1, _, by omega, rfl, by go_num, e1, e2, e3⟩
      · have hO : whichO i = 1 := by unfold whichO; rw [if_neg h31]
        have hK : whichW i = (i - 31) := by unfold whichW; rw [if_neg h31]
        have hwr := fun v => wrote_write v hW.ob hi
        have hfi := find_two i
        have hth := fun v => wrote_things v hW.hw.gn hW.ob hi
        have hat := wrote_at hW.ob hi
        rw [hO] at hfi
        simp only [hO, hK] at hwr hth hat
        obtain ⟨hk, e1, hw31, -⟩ := hat
        obtain ⟨_, _, gi, ci, hv2, -, -, -, -, -, -, hgu, -, -⟩ := H.tn.at' 1 hk
        have hl2 : (things now).length = 2 := by rw [things_len, hW.ob]; rfl
        rw [hl2] at hv2
        cases hv2
        have hgi2 := hgu
        obtain ⟨hku, hue⟩ := hgi2
        have hgI2 : gi ≠ gI := fun e => HG.out.2 _ (List.getElem_mem hku) (by rw [hue, e]; rfl)
        have hln : ((things now)[1]).2.length = 31 := by
          have := (H.tn.fit _ (List.getElem_mem hk)).1
          rw [e1] at this
          exact this
        have HWR : Hid (∀ v, U v → Calls Tryz.prog 26 #[.pointer (some ⟨hb, 0, none⟩), .int .i64 5, .int .i64 ((i - 31 : Nat) : Int), .int .u64 v] wr fun e w' => e = .returned (.int .i64 0) ∧ Hf w sb hb tb cb mb g (.slice none 0 0) (.slice (some ⟨g2, 0, none⟩) 2 cv) un A ws (now.set (plc i) v) (now) [] w' ∧ Fr (fun k => k = mb) wr w') := fun v hv => by
          have := H.write_ 5 ((i - 31 : Nat) : Int) v (by omega) (by omega) hv
          rwa [show writeS now 5 ((i - 31 : Nat) : Int) v = (now.set (plc i) v, 0) from hwr v] at this
        have HAT : Hid (∀ now' w1, Hf w sb hb tb cb mb g (.slice none 0 0) (.slice (some ⟨g2, 0, none⟩) 2 cv) un A ws (now') (now) [] w1 → Calls Tryz.prog 27 #[.agg #[.slice (some ⟨g2, 0, none⟩) 2 cv, .int .i64 0, .int .i64 0, .int .i64 0, .int .i64 0], .int .u64 5] w1 fun e w' => e = .returned (.int .i64 1) ∧ Fr New w1 w') := fun now' w1 h1 => by
          have := h1.at_ 0 0 0 0 5
          rwa [hW.ob, show findI [⟨0, 4, 0⟩, ⟨4, 4, 0⟩] 5 = 1 from hfi] at this
        have HTH : Hid (∀ now' w1, Hf w sb hb tb cb mb g (.slice none 0 0) (.slice (some ⟨g2, 0, none⟩) 2 cv) un A ws (now') (now) [] w1 → w1.cell? ⟨g2, 7, none⟩ = some (.slice (some ⟨gi, 0, none⟩) 31 ci) ∧ (∃ y, w1.cell? ⟨gi, (i - 31), none⟩ = some (.int .u64 y)) ∧ w1.frozen? ⟨gi, (i - 31), none⟩ = false ∧ gi < w1.heap.size) := fun now' w1 h1 => by
          obtain ⟨_, _, gj, cj, hv3, _, _, _, _, d3, hr, ⟨_, hu3⟩, hz, hl⟩ := h1.tn.at' 1 hk
          rw [hl2] at hv3
          cases hv3
          rw [hue] at hu3
          cases hu3
          rw [hln] at d3
          obtain ⟨x, hx, hcx⟩ := hr (i - 31) (by rw [hln]; omega)
          cases hx
          rw [add_plain, Nat.zero_add] at hcx
          exact ⟨d3, ⟨_, hcx⟩, hz _, hl⟩
        have HEND : Hid (∀ v w1, Hf w sb hb tb cb mb g (.slice none 0 0) (.slice (some ⟨g2, 0, none⟩) 2 cv) un A ws (now.set (plc i) v) (now) [] w1 → v ≠ 0 → Row w1 gI ws → Wrote ws (now.set (plc i) v) (i + 1) ∧ Hf w sb hb tb cb mb g (.slice none 0 0) (.slice (some ⟨g2, 0, none⟩) 2 cv) un A ws (now.set (plc i) v) (now.set (plc i) v) [] (w1.setCell ⟨gi, (i - 31), none⟩ (.int .u64 v)) ∧ Row (w1.setCell ⟨gi, (i - 31), none⟩ (.int .u64 v)) gI ws) := fun v w1 h1 hv hr =>
          ⟨wrote_next HON.out hW hi hv, h1.put hk hgu (hth v hk), ((Fr.refl (fun j => j = gi) w1).setCell (p := ⟨gi, (i - 31), none⟩) (fun _ => rfl) (.int .u64 v)).heap hr (fun e => hgI2 e.symm)⟩
        have HRK : Hid (∀ now' w1 w2, Hf w sb hb tb cb mb g (.slice none 0 0) (.slice (some ⟨g2, 0, none⟩) 2 cv) un A ws (now') (now) [] w1 → Row w1 gI ws → Fr (fun k => k = mb) w1 w2 → Row w2 gI ws) := fun now' w1 w2 h1 hr hf => HRW.out _ _ _ _ _ _ w1 w2 h1 hr (hf.mono (fun _ _ e => .inr e))
        have HH : Hid (Hf w sb hb tb cb mb g (.slice none 0 0) (.slice (some ⟨g2, 0, none⟩) 2 cv) un A ws (now) (now) [] wr ∧ Row wr gI ws ∧ RawAt wr a0 z) := ⟨H, hR, HZ.out wr H.f⟩
        obtain ⟨q0, q2, q3, q4, q5, q6, ql⟩ := HC.out _ _ _ _ _ wr H
        clear hwr hfi hth hue hku hgu hln hl2 hW H hR hO hK hk e1 hw31
        have b1 : (0 : Int) ≤ ((i - 31 : Nat) : Int) := by omega
        have b2 : ((i - 31 : Nat) : Int) < 31 := by omega
        have b3 : (i : Int) - 31 = ((i - 31 : Nat) : Int) := by omega
        have b5 : decide (31 ≤ (i : Int)) = true := by simp; omega
        by_cases hz1 : i < z.length
        · have hd1 : decide ((i : Int) < (z.length : Int)) = true := by simp; omega
          obtain ⟨ad, rfl, r0⟩ := HH.out.2.2 i hz1
          obtain ⟨z0, hz0⟩ : ∃ x, x = z.getD i 0 := ⟨_, rfl⟩
          rw [← hz0] at r0
          have HZ0 : Hid (I64 z0) := by show I64 z0; rw [hz0]; exact HI.out i
          clear hz0
          have b7 : (i : Int) < (z.length : Int) := by omega
          by_cases hz2 : z0 = 0
          · have hd2 : (z0 == 0) = true := by simpa using hz2
            have hd3 : (z0 != 0) = false := by simpa using hz2
            go_wp2_with (first
              | (go_at_call 26; refine (HWR.out _ (by first | exact wrapU _ | (unfold U; omega))).mono ?_; rintro e w9 ⟨rfl, H9, hf9⟩; have hR9 := HRK.out _ wr w9 HH.out.1 HH.out.2.1 hf9; obtain ⟨r0, r2, r3, r4, r5, r6, rl⟩ := HC.out _ _ _ _ _ w9 H9)
              | (go_at_call 27; refine (HAT.out _ w9 H9).mono ?_; rintro e w10 ⟨rfl, hf10⟩; have H10 := H9.new hf10; have hR10 := hf10.heap hR9 id; obtain ⟨s0, s2, s3, s4, s5, s6, sl⟩ := HC.out _ _ _ _ _ w10 H10; obtain ⟨t3, ⟨y, ty⟩, tz, tl⟩ := HTH.out _ w10 H10)
              | fail)
            go_roundg (47 - (i + 1))
            case measure => omega
            case rel =>
              obtain ⟨e1, e2, e3⟩ := HEND.out _ w10 H10 (by first | omega | (rw [IntKind.wrap_u64]; omega)) hR10
              exact ⟨i + 1, _, by omega, rfl, by go_num, e1, e2, e3⟩
          · have hd2 : (z0 == 0) = false := by simpa using hz2
            have hd3 : (z0 != 0) = true := by simpa using hz2
            go_wp2_with (first
              | (go_at_call 26; refine (HWR.out _ (by first | exact wrapU _ | (unfold U; omega))).mono ?_; rintro e w9 ⟨rfl, H9, hf9⟩; have hR9 := HRK.out _ wr w9 HH.out.1 HH.out.2.1 hf9; obtain ⟨r0, r2, r3, r4, r5, r6, rl⟩ := HC.out _ _ _ _ _ w9 H9)
              | (go_at_call 27; refine (HAT.out _ w9 H9).mono ?_; rintro e w10 ⟨rfl, hf10⟩; have H10 := H9.new hf10; have hR10 := hf10.heap hR9 id; obtain ⟨s0, s2, s3, s4, s5, s6, sl⟩ := HC.out _ _ _ _ _ w10 H10; obtain ⟨t3, ⟨y, ty⟩, tz, tl⟩ := HTH.out _ w10 H10)
              | fail)
            go_roundg (47 - (i + 1))
            case measure => omega
            case rel =>
              obtain ⟨e1, e2, e3⟩ := HEND.out _ w10 H10 (by have := HZ0.out; unfold I64 at this; rw [IntKind.wrap_u64]; omega) hR10
              exact ⟨i + 1, _, by omega, rfl, by go_num, e1, e2, e3⟩
        · have hd1 : decide ((i : Int) < (z.length : Int)) = false := by simp; omega
          go_wp2_with (first
            | (go_at_call 26; refine (HWR.out _ (by first | exact wrapU _ | (unfold U; omega))).mono ?_; rintro e w9 ⟨rfl, H9, hf9⟩; have hR9 := HRK.out _ wr w9 HH.out.1 HH.out.2.1 hf9; obtain ⟨r0, r2, r3, r4, r5, r6, rl⟩ := HC.out _ _ _ _ _ w9 H9)
            | (go_at_call 27; refine (HAT.out _ w9 H9).mono ?_; rintro e w10 ⟨rfl, hf10⟩; have H10 := H9.new hf10; have hR10 := hf10.heap hR9 id; obtain ⟨s0, s2, s3, s4, s5, s6, sl⟩ := HC.out _ _ _ _ _ w10 H10; obtain ⟨t3, ⟨y, ty⟩, tz, tl⟩ := HTH.out _ w10 H10)
            | fail)
          go_roundg (47 - (i + 1))
          case measure => omega
          case rel =>
            obtain ⟨e1, e2, e3⟩ := HEND.out _ w10 H10 (by first | omega | (rw [IntKind.wrap_u64]; omega)) hR10
            exact ⟨i + 1, _, by omega, rfl, by go_num, e1, e2, e3⟩
    · obtain rfl : i = 47 := by omega
      have hd0 : decide ((47 : Int) < 47) = false := by simp
      have HNN : Hid (Wrote ws now 47) := hW
      have HCM3 : Hid (Calls Tryz.prog 24 #[.pointer (some ⟨hb, 0, none⟩)] wr fun e w' => e = .returned (.int .i64 4) ∧ Hf w sb hb tb cb mb g (.slice none 0 0) (.slice (some ⟨g2, 0, none⟩) 2 cv) un A ws (now) (now) [] w' ∧ Fr New wr w') := by
        have hr := wrote_recs HON.out hW (by omega)
        refine (H.commit_ hW.hw.two (by simp)).mono ?_
        rintro e w' ⟨c, rfl, ⟨h, _⟩ | ⟨_, _, rfl, h1, h2⟩ | ⟨_, h, _⟩⟩
        · exact absurd h (wrote_ne hW (by omega))
        · exact ⟨rfl, h1, h2⟩
        · omega
      have hz4 : wd now 3 = 0 ∧ wd now 4 = 0 ∧ wd now 5 = 0 ∧ wd now 6 = 0 := by
        obtain ⟨_, _, _, a3, a4, a5, a6⟩ := HON.out.head
        exact ⟨(hW.head 3 (by omega)).trans a3, (hW.head 4 (by omega)).trans a4, (hW.head 5 (by omega)).trans a5, (hW.head 6 (by omega)).trans a6⟩
      have HIS : Hid (∀ w1, Hf w sb hb tb cb mb g (.slice none 0 0) (.slice (some ⟨g2, 0, none⟩) 2 cv) un A ws (now) (now) [] w1 → Calls Tryz.prog 19 #[.pointer (some ⟨hb, 0, none⟩), .agg #[.slice (some ⟨g2, 0, none⟩) 2 cv, .int .i64 0, .int .i64 0, .int .i64 0, .int .i64 0]] w1 fun e w' => e = .returned (.bool true) ∧ Fr New w1 w') := fun w1 h1 => by
        refine (h1.is_ 0 0 0 0).mono ?_
        rintro e w' ⟨b, rfl, hb', hf⟩
        rw [hb'.2 (is_zero hW.hw.gn hz4)]
        exact ⟨rfl, hf⟩
      have HSM : Hid (∀ ga gb w1, Row w1 ga ws → Row w1 gb ws → Calls Tryz.prog 28 #[.slice (some ⟨ga, 0, none⟩) 362 362, .slice (some ⟨gb, 0, none⟩) 362 362] w1 fun e w' => e = .returned (.bool true) ∧ Fr New w1 w') := fun ga gb w1 h1 h2 => by
        have := ksame_any (some ⟨ga, 0, none⟩) (some ⟨gb, 0, none⟩) 362 362 ws ws w1 (by rw [HON.out.len]; unfold maxLen; omega) (Row.rowU h1) (Row.rowU h2)
        rw [HON.out.len] at this
        refine this.mono ?_
        rintro e w' ⟨rfl, n, rfl⟩
        exact ⟨by simp, (Fr.refl New w1).drewN n⟩
      have hwr := wrote_write 0 hW.ob (i := 46) (by omega)
      have hat := wrote_at hW.ob (i := 46) (by omega)
      obtain ⟨hk, e1, hw31, -⟩ := hat
      have hth := wrote_things 0 hW.hw.gn hW.ob (i := 46) (by omega) hk
      simp only [show whichO 46 = 1 from rfl, show whichW 46 = 15 from rfl, show plc 46 = 154 from rfl] at hwr hk hth e1
      obtain ⟨_, _, gi, ci, hv2, -, -, -, -, -, -, hgu, -, -⟩ := H.tn.at' 1 hk
      have hl2 : (things now).length = 2 := by rw [things_len, hW.ob]; rfl
      rw [hl2] at hv2
      cases hv2
      have hgi2 := hgu
      obtain ⟨hku, hue⟩ := hgi2
      have hln : ((things now)[1]).2.length = 31 := by
        have := (H.tn.fit _ (List.getElem_mem hk)).1
        rw [e1] at this
        exact this
      have HWR : Hid (∀ w1, Hf w sb hb tb cb mb g (.slice none 0 0) (.slice (some ⟨g2, 0, none⟩) 2 cv) un A ws (now) (now) [] w1 → Calls Tryz.prog 26 #[.pointer (some ⟨hb, 0, none⟩), .int .i64 5, .int .i64 15, .int .u64 0] w1 fun e w' => e = .returned (.int .i64 0) ∧ Hf w sb hb tb cb mb g (.slice none 0 0) (.slice (some ⟨g2, 0, none⟩) 2 cv) un A ws (now.set 154 0) (now) [] w' ∧ Fr (fun k => k = mb) w1 w') := fun w1 h1 => by
        have := h1.write_ 5 15 0 (by omega) (by omega) (by unfold U; omega)
        rwa [show writeS now 5 15 0 = (now.set 154 0, 0) from hwr] at this
      have HTH : Hid (∀ now' w1, Hf w sb hb tb cb mb g (.slice none 0 0) (.slice (some ⟨g2, 0, none⟩) 2 cv) un A ws (now') (now) [] w1 → w1.cell? ⟨g2, 7, none⟩ = some (.slice (some ⟨gi, 0, none⟩) 31 ci) ∧ (∃ y, w1.cell? ⟨gi, 15, none⟩ = some (.int .u64 y)) ∧ w1.frozen? ⟨gi, 15, none⟩ = false ∧ gi < w1.heap.size) := fun now' w1 h1 => by
        obtain ⟨_, _, gj, cj, hv3, _, _, _, _, d3, hr, ⟨_, hu3⟩, hz, hl⟩ := h1.tn.at' 1 hk
        rw [hl2] at hv3
        cases hv3
        rw [hue] at hu3
        cases hu3
        rw [hln] at d3
        obtain ⟨x, hx, hcx⟩ := hr 15 (by rw [hln]; omega)
        cases hx
        rw [add_plain, Nat.zero_add] at hcx
        exact ⟨d3, ⟨_, hcx⟩, hz _, hl⟩
      have HPT : Hid (∀ w1, Hf w sb hb tb cb mb g (.slice none 0 0) (.slice (some ⟨g2, 0, none⟩) 2 cv) un A ws (now.set 154 0) (now) [] w1 → Hf w sb hb tb cb mb g (.slice none 0 0) (.slice (some ⟨g2, 0, none⟩) 2 cv) un A ws (now.set 154 0) (now.set 154 0) [] (w1.setCell ⟨gi, 15, none⟩ (.int .u64 0))) := fun w1 h1 => h1.put hk hgu hth
      have HWB : Hid (Wrote ws (now.set 154 0) 46) := wrote_back HON.out hW
      have HEN : Hid (wd (pcommitW ws (now.set 154 0)) 2 = 2 ∧ HW (pcommitW ws (now.set 154 0)) (pcommitW ws (now.set 154 0)) ∧ Like (pcommitW ws (now.set 154 0)) (now.set 154 0)) := wrote_end HON.out HWB.out
      have hre := wrote_recs HON.out HWB.out (by omega)
      have hz5 : wd (now.set 154 0) 3 = 0 ∧ wd (now.set 154 0) 4 = 0 ∧ wd (now.set 154 0) 5 = 0 ∧ wd (now.set 154 0) 6 = 0 := by
        obtain ⟨_, _, _, a3, a4, a5, a6⟩ := HON.out.head
        exact ⟨(HWB.out.head 3 (by omega)).trans a3, (HWB.out.head 4 (by omega)).trans a4, (HWB.out.head 5 (by omega)).trans a5, (HWB.out.head 6 (by omega)).trans a6⟩
      obtain ⟨nw, hnw⟩ : ∃ nw, nw = now.set 154 0 := ⟨_, rfl⟩
      rw [← hnw] at HWR HPT HWB HEN hre hz5
      obtain ⟨we, hwe⟩ : ∃ we, we = pcommitW ws nw := ⟨_, rfl⟩
      rw [← hwe] at HEN
      obtain ⟨se, hse⟩ : ∃ se, se = pcommitSt ws nw := ⟨_, rfl⟩
      have hsl : se.length = 151 := by rw [hse, sts_len, hre]
      have hwl : we.length = 362 := by rw [hwe, pcommitW_len, HON.out.len]
      have HCM4 : Hid (∀ w1, Hf w sb hb tb cb mb g (.slice none 0 0) (.slice (some ⟨g2, 0, none⟩) 2 cv) un A ws (nw) (nw) [] w1 → Calls Tryz.prog 24 #[.pointer (some ⟨hb, 0, none⟩)] w1 fun e w' => e = .returned (.int .i64 0) ∧ ∃ vs', Hf w sb hb tb cb mb g (vs') (.slice (some ⟨g2, 0, none⟩) 2 cv) un A we (we) (nw) se w') := fun w1 h1 => by
        refine (h1.commit_ HWB.out.hw.two (by simp)).mono ?_
        rintro e w' ⟨c, rfl, ⟨h, _⟩ | ⟨_, h, _⟩ | ⟨_, _, rfl, vs', h1, _⟩⟩
        · exact absurd h (wrote_ne HWB.out (by omega))
        · omega
        · rw [List.nil_append, ← hwe, ← hse] at h1
          exact ⟨rfl, vs', h1⟩
      have HST4 : Hid (∀ vs' w1, Hf w sb hb tb cb mb g (vs') (.slice (some ⟨g2, 0, none⟩) 2 cv) un A we (we) (nw) se w1 → Calls Tryz.prog 25 #[.pointer (some ⟨hb, 0, none⟩)] w1 fun e w' => ∃ sa sc, e = .returned (.slice sa 151 sc) ∧ Hf w sb hb tb cb mb g (.slice none 0 0) (.slice (some ⟨g2, 0, none⟩) 2 cv) un A we (we) (nw) [] w') := fun vs' w1 h => by
        have := h.stores_
        rw [hsl] at this
        refine this.mono ?_
        rintro e w' ⟨sa, sc, rfl, h1, _⟩
        exact ⟨sa, sc, rfl, h1⟩
      have HIM4 : Hid (∀ w1, Hf w sb hb tb cb mb g (.slice none 0 0) (.slice (some ⟨g2, 0, none⟩) 2 cv) un A we (we) (nw) [] w1 → Calls Tryz.prog 21 #[.pointer (some ⟨hb, 0, none⟩)] w1 fun e w' => e = .returned (.slice (some ⟨w1.heap.size, 0, none⟩) 362 362) ∧ Row w' w1.heap.size we ∧ Hf w sb hb tb cb mb g (.slice none 0 0) (.slice (some ⟨g2, 0, none⟩) 2 cv) un A we (we) (nw) [] w' ∧ Fr New w1 w' ∧ w'.cell? ⟨w1.heap.size, 2, none⟩ = some (.int .u64 2)) := fun w1 h => by
        have := h.image_
        rw [hwl] at this
        refine this.mono ?_
        rintro e w' ⟨rfl, hR, h1, h2⟩
        refine ⟨rfl, hR, h1, h2, ?_⟩
        rw [hR.cell 2 (by omega)]
        rw [show we[2]'(by omega) = wd we 2 by simp [wd, List.getD, hwl], HEN.out.1]
      have HOP : Hid (∀ gg w1, Hf w sb hb tb cb mb g (.slice none 0 0) (.slice (some ⟨g2, 0, none⟩) 2 cv) un A we (we) (nw) [] w1 → Row w1 gg we → Calls Tryz.prog 20 #[.slice (some ⟨gg, 0, none⟩) 362 362] w1 fun e w' => ∃ hb tb cb mb g vs st, e = .returned (.tuple #[.pointer (some ⟨hb, 0, none⟩), .int .i64 0]) ∧ PH hb tb cb mb g vs we we st w' ∧ Fr New w1 w') := fun gg w1 h1 hr => by
        have oR := opens_self HEN.out.2.1
        have := open_kept gg 362 we we w1 (Row.rowU hr) h1.ph.uw oR.ok oR.open'
        rw [hwl] at this
        refine this.mono ?_
        rintro e w' ⟨hb, tb, cb, mb, g, vs, rfl, hp, hq, hf⟩
        exact ⟨hb, tb, cb, mb, g, vs, _, rfl, hp, hf⟩
      have HIS4 : Hid (∀ hb2 tb2 cb2 mb2 g3 vs2 st2 w1, PH hb2 tb2 cb2 mb2 g3 vs2 we we st2 w1 → Hf w sb hb tb cb mb g (.slice none 0 0) (.slice (some ⟨g2, 0, none⟩) 2 cv) un A we (we) (nw) [] w1 → Calls Tryz.prog 19 #[.pointer (some ⟨hb2, 0, none⟩), .agg #[.slice (some ⟨g2, 0, none⟩) 2 cv, .int .i64 0, .int .i64 0, .int .i64 0, .int .i64 0]] w1 fun e w' => e = .returned (.bool true) ∧ Fr New w1 w') := fun hb2 tb2 cb2 mb2 g3 vs2 st2 w1 hp h1 => by
        refine (kis_any hb2 tb2 cb2 mb2 g3 vs2 we we st2 _ (things nw) un 0 0 0 0 w1 hp h1.tn).mono ?_
        rintro e w' ⟨b, rfl, hb', hf⟩
        have hlk := HEN.out.2.2
        have hit : IsIt we (things nw) 0 0 0 0 := by
          obtain ⟨q1, q2⟩ := is_zero HWB.out.hw.gn hz5
          exact ⟨(things_like hlk).symm, fun k hk => by rw [hlk.roots k hk]; exact q2 k hk⟩
        rw [hb'.2 hit]
        exact ⟨rfl, hf⟩
      obtain ⟨c0, c2, c3, c4, c5, c6, cl⟩ := HC.out _ _ _ _ _ wr H
      have HRI : Hid (Row wr gI ws) := hR
      clear hwr hth hku hue hgu hln hl2 hk e1 hw31 hre hz4 hz5 hnw hwe hse hsl hwl hW H hR hi hi47 HNN HWB HEN
      go_upto_region 31 with (first
        | (go_at_call 24; refine HCM3.out.mono ?_; rintro e w9 ⟨rfl, H9, hf9⟩; obtain ⟨d0, d2, d3, d4, d5, d6, dl⟩ := HC.out _ _ _ _ _ w9 H9; have hR9 := hf9.heap HRI.out id)
        | fail)
      clear c0 c2 c3 c4 c5 c6 cl
      go_region_held3 (fun w' => w'.cell? ⟨sb, 0, none⟩ = some (.pointer (some ⟨hb, 0, none⟩)) ∧ w'.cell? ⟨sb, 2, none⟩ = some (.slice (some ⟨g2, 0, none⟩) 2 cv) ∧ w'.cell? ⟨sb, 3, none⟩ = some (.int .i64 0) ∧ w'.cell? ⟨sb, 4, none⟩ = some (.int .i64 0) ∧ w'.cell? ⟨sb, 5, none⟩ = some (.int .i64 0) ∧ w'.cell? ⟨sb, 6, none⟩ = some (.int .i64 0)) (first | go_keep | exact hkeep2)
        (first
          | (go_at_call 19; refine (HIS.out _ (by first | exact H9 | exact H9.new (Fr.refl _ _).drew)).mono ?_; rintro e w10 ⟨rfl, hf10⟩; have hf10' : Fr New w9 w10 := (by first | exact hf10 | exact hf10.undrew); have hkeep2 : w10.cell? ⟨sb, 0, none⟩ = some (.pointer (some ⟨hb, 0, none⟩)) ∧ w10.cell? ⟨sb, 2, none⟩ = some (.slice (some ⟨g2, 0, none⟩) 2 cv) ∧ w10.cell? ⟨sb, 3, none⟩ = some (.int .i64 0) ∧ w10.cell? ⟨sb, 4, none⟩ = some (.int .i64 0) ∧ w10.cell? ⟨sb, 5, none⟩ = some (.int .i64 0) ∧ w10.cell? ⟨sb, 6, none⟩ = some (.int .i64 0) := ⟨hf10'.cell d0 id, hf10'.cell d2 id, hf10'.cell d3 id, hf10'.cell d4 id, hf10'.cell d5 id, hf10'.cell d6 id⟩)
          | fail)
      all_goals
        have H10 := H9.new hf10'
        have hR10 := hf10'.heap hR9 id
        have g0 := hkeep2.1
        clear hkeep2 d0 d2 d3 d4 d5 d6 dl
        go_wp2_with (first
          | (go_at_call 21; refine (HIM4.out w17 H17).mono ?_; rintro e w18 ⟨rfl, hR18, H18, hf18, hc18⟩; obtain ⟨k80, k82, k83, k84, k85, k86, k8l⟩ := HC.out _ _ _ _ _ w18 H18)
          | (go_at_call 21; refine (HIM4.out w15 H15).mono ?_; rintro e w16 ⟨rfl, hR16, H16, hf16, _⟩)
          | (go_at_call 21; refine (HIM.out _ _ _ _ (by first | exact H10 | exact H10.new (Fr.refl _ _).drew)).mono ?_; rintro e w11 ⟨rfl, hR11, H11, hf11⟩; have hQ11 : Row w11 gI ws := (by first | exact hf11.heap hR10 id | exact hf11.heap ((Fr.refl New w10).drew.heap hR10 id) id))
          | (go_at_call 28; refine (HSM.out _ _ w11 hR11 hQ11).mono ?_; rintro e w12 ⟨rfl, hf12⟩; have H12 := H11.new hf12; obtain ⟨k20, k22, k23, k24, k25, k26, k2l⟩ := HC.out _ _ _ _ _ w12 H12)
          | (go_at_call 26; refine (HWR.out w12 H12).mono ?_; rintro e w13 ⟨rfl, H13, hf13⟩; obtain ⟨k30, k32, k33, k34, k35, k36, k3l⟩ := HC.out _ _ _ _ _ w13 H13; obtain ⟨t3, ⟨y, ty⟩, tz, tl⟩ := HTH.out _ w13 H13; have H13s := HPT.out w13 H13; obtain ⟨k40, k42, k43, k44, k45, k46, k4l⟩ := HC.out _ _ _ _ _ _ H13s)
          | (go_at_call 24; refine (HCM4.out _ H13s).mono ?_; rintro e w14 ⟨rfl, vs14, H14⟩; obtain ⟨k50, k52, k53, k54, k55, k56, k5l⟩ := HC.out _ _ _ _ _ w14 H14)
          | (go_at_call 25; refine (HST4.out vs14 w14 H14).mono ?_; rintro e w15 ⟨sa, sc, rfl, H15⟩; obtain ⟨k60, k62, k63, k64, k65, k66, k6l⟩ := HC.out _ _ _ _ _ w15 H15)
          | (go_at_call 20; refine (HOP.out _ w16 H16 hR16).mono ?_; rintro e w17 ⟨hb2, tb2, cb2, mb2, g3, vs2, st2, rfl, hp17, hf17⟩; have H17 := H16.new hf17; obtain ⟨k70, k72, k73, k74, k75, k76, k7l⟩ := HC.out _ _ _ _ _ w17 H17)
          | (go_at_call 19; refine (HIS4.out hb2 tb2 cb2 mb2 g3 vs2 st2 w18 (hp17.new hf18) H18).mono ?_; rintro e w19 ⟨rfl, hf19⟩; have hc19 := hf19.cell hc18 id)
          | fail)
        go_ret
        exact ⟨rfl, (H18.new hf19).f⟩
end Go.Proofs.YtbagcjlimdilpaaGreat
