/- Texts that follow one another, joined. -/
import Derived.Test.YtbagcjlimdilpaaGreatKtKqL
import Derived.Test.YtbagcjlimdilpaaGreatKtKqN
import Derived.Test.YtbagcjlimdilpaaGreatKtJ19
import Derived.Deep.RegionHeld3
/- A story's play: every change of raw numbers. -/
namespace Go.Proofs.YtbagcjlimdilpaaGreat
open Go.RowKit Go.Maps

/-- a play that writes, or reads a pointer -/
theorem play_write (F : Nat → Prop) (sb n : Nat) (ws now : List Int) (sts : List St) (what a b c : Int) (w : World) (hw : I64 what) (ha : I64 a) (hb : I64 b) (hc : I64 c) (h : Story F sb n ws now sts w) (hne : (things now).length ≠ 0) (hv : pickN what 8 = 3 ∨ pickN what 8 = 4) :
    Calls Tryz.prog 18 #[.pointer (some ⟨sb, 0, none⟩), .int .i64 what, .int .i64 a, .int .i64 b, .int .i64 c] w fun e w' => e = .returned (.bool true) ∧ PlayedW F sb n ws now sts w w' := by
  have hk := pickN_lt a hne
  by_cases hd : pickN b ((things now)[pickN a (things now).length]).2.length < ((things now)[pickN a (things now).length]).1.ptrs
  · by_cases h5 : pickN c 5 = 0
    · rcases hv with hv | hv
      · exact play_write_z3 F sb n ws now sts what a b c w hw ha hb hc (fun _ => hd) h5 h hne hv
      · exact play_write_z4 F sb n ws now sts what a b c w hw ha hb hc (fun _ => hd) h5 h hne hv
    · rcases hv with hv | hv
      · exact play_write_p3 F sb n ws now sts what a b c w hw ha hb hc (fun _ => hd) h5 h hne hv
      · exact play_write_p4 F sb n ws now sts what a b c w hw ha hb hc (fun _ => hd) h5 h hne hv
  · rcases hv with hv | hv
    · exact play_write_d3 F sb n ws now sts what a b c w hw ha hb (fun _ => hd) h hne hv
    · exact play_write_d4 F sb n ws now sts what a b c w hw ha hb (fun _ => hd) h hne hv
/-- EVERY PLAY: the answer is as it must be, and a story is left -/
theorem kplay_any (F : Nat → Prop) (sb n : Nat) (ws now : List Int) (sts : List St) (what a b c : Int) (w : World) (hw : I64 what) (ha : I64 a) (hb : I64 b) (hc : I64 c) (hlen : sts.length ≤ 1099511000000) (h : Story F sb n ws now sts w) :
    Calls Tryz.prog 18 #[.pointer (some ⟨sb, 0, none⟩), .int .i64 what, .int .i64 a, .int .i64 b, .int .i64 c] w fun e w' => e = .returned (.bool true) ∧ Played F sb n sts w w' := by
  by_cases hne : (things now).length = 0
  · exact play_none F sb n ws now sts what a b c w ha hb h hne
  · have h8 := pickN_lt what (n := 8) (by omega)
    have hk := pickN_lt a hne
    rcases (show pickN what 8 = 0 ∨ pickN what 8 = 1 ∨ pickN what 8 = 2 ∨ (pickN what 8 = 3 ∨ pickN what 8 = 4) ∨ pickN what 8 = 5 ∨ pickN what 8 = 6 ∨ pickN what 8 = 7 by omega) with hv | hv | hv | hv | hv | hv | hv
    · exact play_more F sb n ws now sts what a b c w hw ha hb h hne hv
    · exact play_more1 F sb n ws now sts what a b c w hw ha hb h hne hv
    · by_cases hH : HeldBy now (objs now) ((((things now)[pickN a (things now).length]).1.block + 1 : Nat) : Int)
      · exact play_free_held F sb n ws now sts what a b c w hw ha (fun _ => hH) h hne hv
      · exact play_free F sb n ws now sts what a b c w hw ha (fun _ => hH) h hne hv
    · refine (play_write F sb n ws now sts what a b c w hw ha hb hc h hne hv).mono ?_
      rintro e w' ⟨rfl, hp⟩
      exact ⟨rfl, hp.played⟩
    · by_cases hz : pickN c 4 = 0
      · exact play_root0 F sb n ws now sts what a b c w hw ha hb hc hz h hne hv
      · exact play_root F sb n ws now sts what a b c w hw ha hb hc hz h hne hv
    · by_cases hz : pickN b 3 = 0
      · exact play_back F sb n ws now sts what a b c w hw ha hb hz h hne hv
      · exact play_stay F sb n ws now sts what a b c w hw ha hb hz h hne hv
    · exact play_commit F sb n ws now sts what a b c w hw ha hlen h hne hv
end Go.Proofs.YtbagcjlimdilpaaGreat
/- The walk of the law Kept. -/
namespace Go.Proofs.YtbagcjlimdilpaaGreat
open Go.RowKit Go.Maps

theorem add_succ (ad : Addr) (j : Nat) : ad.add (j + 1) = ⟨ad.block, ad.off + (j + 1), none⟩ := by
  unfold Addr.add
  rw [if_neg (by omega)]
/-- raw numbers that lie in memory -/
def RawAt (w : World) (a : Option Addr) (z : List Int) : Prop := ∀ i, i < z.length → ∃ x, a = some x ∧ w.cell? (x.add i) = some (.int .i64 (z.getD i 0))
theorem RawAt.fr {w w' : World} {a : Option Addr} {z : List Int} (h : RawAt w a z) (hf : Fr New w w') : RawAt w' a z := fun i hi => by
  obtain ⟨x, e, hc⟩ := h i hi
  exact ⟨x, e, hf.cell hc id⟩
theorem is_self {now : List Int} (g : Good now) : IsIt now (things now) (wd now 3) (wd now 4) (wd now 5) (wd now 6) := by
  refine ⟨rfl, fun k hk => ?_⟩
  rw [wrap_small (root_small g hk)]
  match k, hk with
  | 0, _ => rfl
  | 1, _ => rfl
  | 2, _ => rfl
  | 3, _ => rfl
/-- a heap that has the shape of its words -/
theorem kis_self (hb tb cb mb g : Nat) (vs : Value) (ws now a : List Int) (st : List St) (vt : Value) (us : List Value) (w : World) (h : PH hb tb cb mb g vs ws now st w) (ha : Like now a) (hg : Good a) (ht : ThAt w vt (things a) us) :
    Calls Tryz.prog 19 #[.pointer (some ⟨hb, 0, none⟩), .agg #[vt, .int .i64 (wd a 3), .int .i64 (wd a 4), .int .i64 (wd a 5), .int .i64 (wd a 6)]] w fun e w' => e = .returned (.bool true) ∧ Fr New w w' := by
  refine (kis_any hb tb cb mb g vs ws now st vt (things a) us _ _ _ _ w h ht).mono ?_
  rintro e w' ⟨b, rfl, hb', hf⟩
  obtain ⟨q1, q2⟩ := is_self hg
  rw [hb'.2 ⟨(things_like ha).symm, fun k hk => by rw [ha.roots k hk]; exact q2 k hk⟩]
  exact ⟨rfl, hf⟩

set_option maxHeartbeats 4000000 in
set_option maxRecDepth 100000 in
theorem kept_walk (bl : Int) (a0 : Option Addr) (len cap : Nat) (z : List Int) (w : World) (hl : z.length = len) (hm : len ≤ 1048576) (hc : RawAt w a0 z) (hbl : I64 bl) (hz : ∀ i, I64 (z.getD i 0)) :
    Calls Tryz.prog 6 #[.int .i64 bl, .slice a0 len cap] w fun e w' => e = .returned (.bool true) ∧ Fr New w w' := by
  subst hl
  have hp32 := pickN_lt bl (n := 32) (by omega)
  have HPB : Hid (∀ w1, Calls Tryz.prog 16 #[.int .i64 bl, .int .i64 32] w1 fun e w' => e = .returned (.int .i64 (pickN bl 32 : Nat)) ∧ w' = w1) := fun w1 => pickN_any bl 32 w1 hbl (by omega) (by omega)
  obtain ⟨q, hq⟩ : ∃ q : Nat, q = pickN bl 32 := ⟨_, rfl⟩
  rw [← hq] at HPB hp32
  have HBG : Hid (Calls Tryz.prog 15 #[.int .i64 (1 + (q : Int))] w fun e w' => ∃ sb F, e = .returned (.tuple #[.pointer (some ⟨sb, 0, none⟩), .bool true]) ∧ Story F sb (1 + q) (imgL (1 + q)) (imgL (1 + q)) [] w' ∧ (∀ k, F k → w.heap.size ≤ k) ∧ Fr New w w') := by
    have := begun_any (1 + q) (by omega) (by omega) w
    rwa [show ((1 + q : Nat) : Int) = 1 + (q : Int) by omega] at this
  have HWK : Hid (∀ w1, Calls Tryz.prog 17 #[] w1 fun e w' => e = .returned (.bool true) ∧ Fr New w1 w') := works_any
  have HZ : Hid (∀ wr, Fr New w wr → RawAt wr a0 z) := fun wr hf => hc.fr hf
  have HI : Hid (∀ i, I64 (z.getD i 0)) := hz
  clear hc hz hq hbl
  go_enter Tryz.func6, Tryz.ntmps6
  go_wp2_with (first
    | (go_at_call 16; refine calls_same (HPB.out _) ?_)
    | (go_at_call 15; refine HBG.out.mono ?_; rintro e w1 ⟨sb, F1, rfl, hS1, hF1, hf1⟩)
    | (go_at_call 17; refine (HWK.out w1).mono ?_; rintro e w2 ⟨rfl, hf2⟩)
    | fail)
  have HST : Hid (∃ F ws now sts, Story F sb (1 + q) ws now sts w2 ∧ (∀ k, F k → w.heap.size ≤ k) ∧ Fr New w w2 ∧ sts.length ≤ 151 * 0) := ⟨F1, _, _, [], hS1.new hf2, hF1, hf1.same hf2, by simp⟩
  clear hS1 hF1 hf1 hf2
  go_loopg [8] (z.length + 8) (fun gh vi wr => ∃ i : Nat, vi = .int .i64 (i : Int) ∧ gh = z.length + 8 - i ∧ i ≤ z.length + 4 ∧ ∃ F ws now sts, Story F sb (1 + q) ws now sts wr ∧ (∀ k, F k → w.heap.size ≤ k) ∧ Fr New w wr ∧ sts.length ≤ 151 * i)
  case atStart => exact ⟨0, rfl, by omega, by omega, HST.out⟩
  case round =>
    clear HST
    obtain ⟨i, rfl, rfl, hi4, F, ws, now, sts, hS, hF, hf, hst⟩ := hrel
    by_cases hi : i + 3 < z.length
    · have hd0 : decide ((i : Int) + 3 < (z.length : Int)) = true := by simp; omega
      obtain ⟨ad, rfl, r0⟩ := HZ.out wr hf i (by omega)
      obtain ⟨_, e1, r1⟩ := HZ.out wr hf (i + 1) (by omega)
      cases e1
      obtain ⟨_, e2, r2⟩ := HZ.out wr hf (i + 2) (by omega)
      cases e2
      obtain ⟨_, e3, r3⟩ := HZ.out wr hf (i + 3) (by omega)
      cases e3
      obtain ⟨z0, hz0⟩ : ∃ x, x = z.getD i 0 := ⟨_, rfl⟩
      obtain ⟨z1, hz1⟩ : ∃ x, x = z.getD (i + 1) 0 := ⟨_, rfl⟩
      obtain ⟨z2, hz2⟩ : ∃ x, x = z.getD (i + 2) 0 := ⟨_, rfl⟩
      obtain ⟨z3, hz3⟩ : ∃ x, x = z.getD (i + 3) 0 := ⟨_, rfl⟩
      clear r0 r1 r2 r3
      have HPL : Hid (∀ w1, Fr New wr w1 → Calls Tryz.prog 18 #[.pointer (some ⟨sb, 0, none⟩), .int .i64 z0, .int .i64 z1, .int .i64 z2, .int .i64 z3] w1 fun e w' => e = .returned (.bool true) ∧ Fr New w w' ∧ ∃ F ws now sts, Story F sb (1 + q) ws now sts w' ∧ (∀ k, F k → w.heap.size ≤ k) ∧ Fr New w w' ∧ sts.length ≤ 151 * (i + 4)) := fun w1 hf1 => by
        refine (kplay_any F sb (1 + q) ws now sts z0 z1 z2 z3 w1 (by rw [hz0]; exact HI.out _) (by rw [hz1]; exact HI.out _) (by rw [hz2]; exact HI.out _) (by rw [hz3]; exact HI.out _) (by omega) (hS.new hf1)).mono ?_
        rintro e w' ⟨rfl, F', ws', now', sts', p1, p2, p3, p4⟩
        have hfw : Fr New w w' := (hf.same hf1).trans p2 (fun j hj h => by have := hF j h; omega)
        refine ⟨rfl, hfw, F', ws', now', sts', p1, fun k hk => ?_, hfw, by omega⟩
        rcases p3 k hk with h | h
        · exact hF k h
        · have := (hf.same hf1).size; omega
      have HFW : Hid (Fr New w wr) := hf
      have HRW : Hid (∀ w', Fr New w w' → w'.cell? (ad.add i) = some (.int .i64 z0) ∧ w'.cell? ⟨ad.block, ad.off + (i + 1), none⟩ = some (.int .i64 z1) ∧ w'.cell? ⟨ad.block, ad.off + (i + 1 + 1), none⟩ = some (.int .i64 z2) ∧ w'.cell? ⟨ad.block, ad.off + (i + 2 + 1), none⟩ = some (.int .i64 z3)) := fun w' hf' => by
        rw [hz0, hz1, hz2, hz3]
        refine ⟨?_, ?_, ?_, ?_⟩
        · obtain ⟨_, e, r⟩ := HZ.out w' hf' i (by omega); cases e; exact r
        · obtain ⟨_, e, r⟩ := HZ.out w' hf' (i + 1) (by omega); cases e; rw [add_succ] at r; exact r
        · obtain ⟨_, e, r⟩ := HZ.out w' hf' (i + 2) (by omega); cases e; rw [add_succ] at r; exact r
        · obtain ⟨_, e, r⟩ := HZ.out w' hf' (i + 3) (by omega); cases e; rw [add_succ] at r; exact r
      obtain ⟨r0, r1, r2, r3⟩ := HRW.out wr HFW.out
      clear hz0 hz1 hz2 hz3 hS hF hf hst
      have bl1 : (0 : Int) ≤ (i : Int) + 1 := by omega
      have bu1 : (i : Int) + 1 < (z.length : Int) := by omega
      have bt1 : ((i : Int) + 1).toNat = i + 1 := by omega
      have bw1 : IntKind.i64.wrap ((i : Int) + 1) = (i : Int) + 1 := by rw [IntKind.wrap_i64]; omega
      have bl2 : (0 : Int) ≤ (i : Int) + 2 := by omega
      have bu2 : (i : Int) + 2 < (z.length : Int) := by omega
      have bt2 : ((i : Int) + 2).toNat = i + 2 := by omega
      have bw2 : IntKind.i64.wrap ((i : Int) + 2) = (i : Int) + 2 := by rw [IntKind.wrap_i64]; omega
      have bl3 : (0 : Int) ≤ (i : Int) + 3 := by omega
      have bu3 : (i : Int) + 3 < (z.length : Int) := by omega
      have bt3 : ((i : Int) + 3).toNat = i + 3 := by omega
      have bw3 : IntKind.i64.wrap ((i : Int) + 3) = (i : Int) + 3 := by rw [IntKind.wrap_i64]; omega
      have bl0 : (0 : Int) ≤ (i : Int) := by omega
      have bu0 : (i : Int) < (z.length : Int) := by omega
      go_upto_region 8 with fail
      go_region_held3 (fun w' => w'.cell? (ad.add i) = some (.int .i64 z0) ∧ w'.cell? ⟨ad.block, ad.off + (i + 1), none⟩ = some (.int .i64 z1) ∧ w'.cell? ⟨ad.block, ad.off + (i + 1 + 1), none⟩ = some (.int .i64 z2) ∧ w'.cell? ⟨ad.block, ad.off + (i + 2 + 1), none⟩ = some (.int .i64 z3)) (first | go_keep | exact hkeep2)
        (first
          | (go_at_call 18; refine (HPL.out _ (by first | exact Fr.refl _ _ | exact (Fr.refl _ _).drew)).mono ?_; rintro e w3 ⟨rfl, hf3, hend⟩; have hkeep2 : w3.cell? (ad.add i) = some (.int .i64 z0) ∧ w3.cell? ⟨ad.block, ad.off + (i + 1), none⟩ = some (.int .i64 z1) ∧ w3.cell? ⟨ad.block, ad.off + (i + 1 + 1), none⟩ = some (.int .i64 z2) ∧ w3.cell? ⟨ad.block, ad.off + (i + 2 + 1), none⟩ = some (.int .i64 z3) := HRW.out w3 hf3)
          | fail)
      all_goals
        clear hkeep2
        go_wp2_with fail
        go_roundg (z.length + 8 - (i + 4))
        case measure => omega
        case rel =>
          refine ⟨i + 4, by go_num, rfl, by omega, ?_⟩
          obtain ⟨F', ws', now', sts', p1, p2, p3, p4⟩ := hend
          first
            | exact ⟨F', ws', now', sts', p1, p2, p3, p4⟩
            | exact ⟨F', ws', now', sts', p1.new (Fr.refl New _).drew, p2, p3.drew, p4⟩
    · have hd0 : decide ((i : Int) + 3 < (z.length : Int)) = false := by simp; omega
      obtain ⟨hb, tb, cb, mb, g, vs, vn, vk, un, uk, S, hFt⟩ := hS
      have HGE : Hid (∀ k, Foot sb hb tb cb mb g vs vn vk un uk k → w.heap.size ≤ k) := fun k hk => hF k (hFt k hk)
      have hw := S.hw
      have HN : Hid (∀ w1, Fr New wr w1 → Calls Tryz.prog 19 #[.pointer (some ⟨hb, 0, none⟩), .agg #[vn, .int .i64 (wd now 3), .int .i64 (wd now 4), .int .i64 (wd now 5), .int .i64 (wd now 6)]] w1 fun e w' => e = .returned (.bool true) ∧ Fr New w1 w') := fun w1 h1 => kis_self hb tb cb mb g vs ws now now sts vn un w1 (S.new h1).ph (Like.refl _) hw.gn (S.new h1).tn
      have HIM : Hid (∀ w1, Fr New wr w1 → Calls Tryz.prog 21 #[.pointer (some ⟨hb, 0, none⟩)] w1 fun e w' => e = .returned (.slice (some ⟨w1.heap.size, 0, none⟩) ws.length ws.length) ∧ Row w' w1.heap.size ws ∧ Fr New w1 w') := fun w1 h1 => himage_any hb tb cb mb g vs ws now sts w1 (S.new h1).ph
      have HOP : Hid (∀ gg w1, Row w1 gg ws → Calls Tryz.prog 20 #[.slice (some ⟨gg, 0, none⟩) ws.length ws.length] w1 fun e w' => ∃ hb tb cb mb g vs, e = .returned (.tuple #[.pointer (some ⟨hb, 0, none⟩), .int .i64 0]) ∧ PH hb tb cb mb g vs ws ws [] w' ∧ (w1.heap.size ≤ hb ∧ w1.heap.size ≤ tb ∧ w1.heap.size ≤ cb ∧ w1.heap.size ≤ mb ∧ w1.heap.size ≤ g ∧ ∀ k, vs.ownBlock = some k → w1.heap.size ≤ k) ∧ Fr New w1 w') := fun gg w1 hr => by
        obtain ⟨og1, og2, og3⟩ := open_good hw.gw hw.sum
        have := open_kept gg ws.length ws ws w1 (Row.rowU hr) S.ph.uw og1 og2
        rwa [og3] at this
      have HK : Hid (∀ hb2 tb2 cb2 mb2 g2 vs2 w1, PH hb2 tb2 cb2 mb2 g2 vs2 ws ws [] w1 → Fr New wr w1 → Calls Tryz.prog 19 #[.pointer (some ⟨hb2, 0, none⟩), .agg #[vk, .int .i64 (wd ws 3), .int .i64 (wd ws 4), .int .i64 (wd ws 5), .int .i64 (wd ws 6)]] w1 fun e w' => e = .returned (.bool true) ∧ Fr New w1 w') := fun hb2 tb2 cb2 mb2 g2 vs2 w1 hp h1 => kis_self hb2 tb2 cb2 mb2 g2 vs2 ws ws ws [] vk uk w1 hp (Like.refl _) hw.gw (S.new h1).tk
      have HRB : Hid (∀ w1, Fr New wr w1 → Calls Tryz.prog 22 #[.pointer (some ⟨hb, 0, none⟩)] w1 fun e w' => e = .returned (.tuple #[]) ∧ PH hb tb cb mb g vs ws ws sts w' ∧ ThAt w' vk (things ws) uk ∧ w'.heap[sb]? = some (.cells (stArr hb (1 + q) vn vk now ws) 39 (0, 0)) ∧ Fr New w w') := fun w1 h1 => by
        refine (hrollback_any hb tb cb mb g vs ws now sts w1 (S.new h1).ph).mono ?_
        rintro e w' ⟨rfl, hp, hfr⟩
        obtain ⟨n1, _, n3⟩ := (S.new h1).next hfr hp
        refine ⟨rfl, hp, n3, n1, (hf.same h1).trans hfr (fun j hj e => ?_)⟩
        have := HGE.out mb (.inr (.inr (.inr (.inr (.inl rfl)))))
        omega
      have HB : Hid (∀ w1, PH hb tb cb mb g vs ws ws sts w1 → ThAt w1 vk (things ws) uk → Calls Tryz.prog 19 #[.pointer (some ⟨hb, 0, none⟩), .agg #[vk, .int .i64 (wd ws 3), .int .i64 (wd ws 4), .int .i64 (wd ws 5), .int .i64 (wd ws 6)]] w1 fun e w' => e = .returned (.bool true) ∧ Fr New w1 w') := fun w1 hp ht => kis_self hb tb cb mb g vs ws ws ws sts vk uk w1 hp (Like.refl _) hw.gw ht
      have HSB : Hid (∀ w1, Fr New wr w1 → w1.heap[sb]? = some (.cells (stArr hb (1 + q) vn vk now ws) 39 (0, 0))) := fun w1 h1 => (S.new h1).blk
      obtain ⟨an, cn, hvn⟩ := S.tn.slice
      obtain ⟨ak, ck, hvk⟩ := S.tk.slice
      obtain ⟨mn, hmn⟩ : ∃ m, m = (things now).length := ⟨_, rfl⟩
      obtain ⟨mk, hmk⟩ : ∃ m, m = (things ws).length := ⟨_, rfl⟩
      rw [← hmn] at hvn
      rw [← hmk] at hvk
      subst hvn
      subst hvk
      obtain ⟨L, hL⟩ : ∃ L, L = ws.length := ⟨_, rfl⟩
      obtain ⟨x3, h3⟩ : ∃ x, x = wd now 3 := ⟨_, rfl⟩
      obtain ⟨x4, h4⟩ : ∃ x, x = wd now 4 := ⟨_, rfl⟩
      obtain ⟨x5, h5⟩ : ∃ x, x = wd now 5 := ⟨_, rfl⟩
      obtain ⟨x6, h6⟩ : ∃ x, x = wd now 6 := ⟨_, rfl⟩
      obtain ⟨y3, k3⟩ : ∃ x, x = wd ws 3 := ⟨_, rfl⟩
      obtain ⟨y4, k4⟩ : ∃ x, x = wd ws 4 := ⟨_, rfl⟩
      obtain ⟨y5, k5⟩ : ∃ x, x = wd ws 5 := ⟨_, rfl⟩
      obtain ⟨y6, k6⟩ : ∃ x, x = wd ws 6 := ⟨_, rfl⟩
      unfold stArr at HSB HRB
      rw [← h3, ← h4, ← h5, ← h6] at HN
      rw [← h3, ← h4, ← h5, ← h6, ← k3, ← k4, ← k5, ← k6] at HSB HRB
      rw [← k3, ← k4, ← k5, ← k6] at HK HB
      rw [← hL] at HIM HOP
      have hcs : wr.cell? ⟨sb, 0, none⟩ = some (.pointer (some ⟨hb, 0, none⟩)) ∧ wr.cell? ⟨sb, 2, none⟩ = some (.slice an mn cn) ∧ wr.cell? ⟨sb, 3, none⟩ = some (.int .i64 x3) ∧ wr.cell? ⟨sb, 4, none⟩ = some (.int .i64 x4) ∧ wr.cell? ⟨sb, 5, none⟩ = some (.int .i64 x5) ∧ wr.cell? ⟨sb, 6, none⟩ = some (.int .i64 x6) := by
        have hb' := HSB.out wr (Fr.refl _ _)
        exact ⟨((block_cells hb').1 0).trans rfl, ((block_cells hb').1 2).trans rfl, ((block_cells hb').1 3).trans rfl, ((block_cells hb').1 4).trans rfl, ((block_cells hb').1 5).trans rfl, ((block_cells hb').1 6).trans rfl⟩
      have HFW : Hid (Fr New w wr) := hf
      obtain ⟨c0, c2, c3, c4, c5, c6⟩ := hcs
      clear S hFt hF hw h3 h4 h5 h6 k3 k4 k5 k6 hmn hmk hL hst hf HZ HI
      go_upto_region 11 with fail
      go_region_held3 (fun w' => w'.cell? ⟨sb, 0, none⟩ = some (.pointer (some ⟨hb, 0, none⟩)) ∧ w'.cell? ⟨sb, 2, none⟩ = some (.slice an mn cn) ∧ w'.cell? ⟨sb, 3, none⟩ = some (.int .i64 x3) ∧ w'.cell? ⟨sb, 4, none⟩ = some (.int .i64 x4) ∧ w'.cell? ⟨sb, 5, none⟩ = some (.int .i64 x5) ∧ w'.cell? ⟨sb, 6, none⟩ = some (.int .i64 x6)) (first | go_keep | exact hkeep2)
        (first
          | (go_at_call 19; refine (HN.out _ (by first | exact Fr.refl _ _ | exact (Fr.refl _ _).drew)).mono ?_; rintro e w3 ⟨rfl, hf3⟩; have hf3' : Fr New wr w3 := (by first | exact hf3 | exact hf3.undrew); have hkeep2 : w3.cell? ⟨sb, 0, none⟩ = some (.pointer (some ⟨hb, 0, none⟩)) ∧ w3.cell? ⟨sb, 2, none⟩ = some (.slice an mn cn) ∧ w3.cell? ⟨sb, 3, none⟩ = some (.int .i64 x3) ∧ w3.cell? ⟨sb, 4, none⟩ = some (.int .i64 x4) ∧ w3.cell? ⟨sb, 5, none⟩ = some (.int .i64 x5) ∧ w3.cell? ⟨sb, 6, none⟩ = some (.int .i64 x6) := ⟨hf3'.cell c0 id, hf3'.cell c2 id, hf3'.cell c3 id, hf3'.cell c4 id, hf3'.cell c5 id, hf3'.cell c6 id⟩)
          | fail)
      all_goals
        have g0 := hkeep2.1
        clear hkeep2
        go_wp2_with (first
          | (go_at_call 21; refine (HIM.out _ (by first | exact hf3' | exact hf3'.drew)).mono ?_; rintro e w4 ⟨rfl, hR4, hf4⟩)
          | (go_at_call 20; refine (HOP.out _ w4 hR4).mono ?_; rintro e w5 ⟨hb2, tb2, cb2, mb2, g2, vs2, rfl, hp5, _, hf5⟩; have hf5' : Fr New wr w5 := (by first | exact (hf3'.same hf4).same hf5 | exact (hf3'.drew.same hf4).same hf5); have sb5 := HSB.out w5 hf5'; have s0 : w5.cell? ⟨sb, 0, none⟩ = some (.pointer (some ⟨hb, 0, none⟩)) := ((block_cells sb5).1 0).trans rfl; have s7 : w5.cell? ⟨sb, 7, none⟩ = some (.slice ak mk ck) := ((block_cells sb5).1 7).trans rfl; have s8 : w5.cell? ⟨sb, 8, none⟩ = some (.int .i64 y3) := ((block_cells sb5).1 8).trans rfl; have s9 : w5.cell? ⟨sb, 9, none⟩ = some (.int .i64 y4) := ((block_cells sb5).1 9).trans rfl; have s10 : w5.cell? ⟨sb, 10, none⟩ = some (.int .i64 y5) := ((block_cells sb5).1 10).trans rfl; have s11 : w5.cell? ⟨sb, 11, none⟩ = some (.int .i64 y6) := ((block_cells sb5).1 11).trans rfl)
          | (go_at_call 19; refine (HK.out hb2 tb2 cb2 mb2 g2 vs2 w5 hp5 hf5').mono ?_; rintro e w6 ⟨rfl, hf6⟩; have hf6' : Fr New wr w6 := hf5'.same hf6; have u0 : w6.cell? ⟨sb, 0, none⟩ = some (.pointer (some ⟨hb, 0, none⟩)) := ((block_cells (HSB.out w6 hf6')).1 0).trans rfl)
          | (go_at_call 22; refine (HRB.out w6 hf6').mono ?_; rintro e w7 ⟨rfl, hp7, ht7, sb7, hf7⟩; have v0 : w7.cell? ⟨sb, 0, none⟩ = some (.pointer (some ⟨hb, 0, none⟩)) := ((block_cells sb7).1 0).trans rfl; have v7 : w7.cell? ⟨sb, 7, none⟩ = some (.slice ak mk ck) := ((block_cells sb7).1 7).trans rfl; have v8 : w7.cell? ⟨sb, 8, none⟩ = some (.int .i64 y3) := ((block_cells sb7).1 8).trans rfl; have v9 : w7.cell? ⟨sb, 9, none⟩ = some (.int .i64 y4) := ((block_cells sb7).1 9).trans rfl; have v10 : w7.cell? ⟨sb, 10, none⟩ = some (.int .i64 y5) := ((block_cells sb7).1 10).trans rfl; have v11 : w7.cell? ⟨sb, 11, none⟩ = some (.int .i64 y6) := ((block_cells sb7).1 11).trans rfl)
          | fail)
        go_region_held3 (fun w' => w'.cell? ⟨sb, 0, none⟩ = some (.pointer (some ⟨hb, 0, none⟩)) ∧ w'.cell? ⟨sb, 7, none⟩ = some (.slice ak mk ck) ∧ w'.cell? ⟨sb, 8, none⟩ = some (.int .i64 y3) ∧ w'.cell? ⟨sb, 9, none⟩ = some (.int .i64 y4) ∧ w'.cell? ⟨sb, 10, none⟩ = some (.int .i64 y5) ∧ w'.cell? ⟨sb, 11, none⟩ = some (.int .i64 y6)) (first | go_keep | exact hkeep4)
          (first
            | (go_at_call 19; refine (HB.out _ (by first | exact hp7 | exact hp7.new (Fr.refl _ _).drew) (by first | exact ht7 | exact ht7.new (Fr.refl _ _).drew)).mono ?_; rintro e w8 ⟨rfl, hf8⟩; have hf8' : Fr New w7 w8 := (by first | exact hf8 | exact hf8.undrew); have hkeep4 : w8.cell? ⟨sb, 0, none⟩ = some (.pointer (some ⟨hb, 0, none⟩)) ∧ w8.cell? ⟨sb, 7, none⟩ = some (.slice ak mk ck) ∧ w8.cell? ⟨sb, 8, none⟩ = some (.int .i64 y3) ∧ w8.cell? ⟨sb, 9, none⟩ = some (.int .i64 y4) ∧ w8.cell? ⟨sb, 10, none⟩ = some (.int .i64 y5) ∧ w8.cell? ⟨sb, 11, none⟩ = some (.int .i64 y6) := ⟨hf8'.cell v0 id, hf8'.cell v7 id, hf8'.cell v8 id, hf8'.cell v9 id, hf8'.cell v10 id, hf8'.cell v11 id⟩)
            | fail)
        all_goals
          clear hkeep4
          go_wp2_with fail
          go_ret
          exact ⟨rfl, by first | exact hf7.same hf8' | exact (hf7.same hf8').drew⟩
end Go.Proofs.YtbagcjlimdilpaaGreat
