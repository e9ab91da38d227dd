/- The walk of the law Crash. -/
import Derived.Test.YtbagcjlimdilpaaGreatKtJ22
import Derived.Deep.RegionHeld3
namespace Go.Proofs.YtbagcjlimdilpaaGreat
open Go.RowKit Go.Maps

theorem own_some {w : World} {B : Nat} {v : Value} {zs : List Int} (h : Own B w v zs) (hp : 0 < zs.length) : ∃ g c, v = .slice (some ⟨g, 0, none⟩) zs.length c ∧ RowU w (some ⟨g, 0, none⟩) zs := by
  rcases h.2 with ⟨_, hn⟩ | ⟨g, cap, cur, rfl, _⟩
  · omega
  · exact ⟨g, cap, rfl, rowU_own h⟩
theorem openSt_len (im : List Int) : (openSt im).length ≤ 51 := by
  have := asks_le im
  unfold openSt
  split
  · simp
  · simp [putsS_len]
    omega
set_option maxHeartbeats 2000000 in
set_option maxRecDepth 100000 in
theorem crash_walk (bl : Int) (a0 : Option Addr) (len cap : Nat) (z : List Int) (w : World) (hl : z.length = len) (hm : len ≤ 1048576) (hc : RawAt w a0 z) (hbl : I64 bl) (hz : ∀ i, I64 (z.getD i 0)) (pa pb pc pd : Int) (hpa : I64 pa) (hpc : I64 pc) :
    Calls Tryz.prog 9 #[.int .i64 bl, .slice a0 len cap, .int .i64 pa, .int .i64 pb, .int .i64 pc, .int .i64 pd] w fun e w' => e = .returned (.bool true) ∧ Fr New w w' := by
  subst hl
  have hp32 := pickN_lt bl (n := 32) (by omega)
  have HPB : Hid (∀ w1, Calls Tryz.prog 16 #[.int .i64 bl, .int .i64 32] w1 fun e w' => e = .returned (.int .i64 (pickN bl 32 : Nat)) ∧ w' = w1) := fun w1 => pickN_any bl 32 w1 hbl (by omega) (by omega)
  obtain ⟨q, hq⟩ : ∃ q : Nat, q = pickN bl 32 := ⟨_, rfl⟩
  rw [← hq] at HPB hp32
  have HBG : Hid (Calls Tryz.prog 15 #[.int .i64 (1 + (q : Int))] w fun e w' => ∃ sb F, e = .returned (.tuple #[.pointer (some ⟨sb, 0, none⟩), .bool true]) ∧ Story F sb (1 + q) (imgL (1 + q)) (imgL (1 + q)) [] w' ∧ (∀ k, F k → w.heap.size ≤ k) ∧ Fr New w w') := by
    have := begun_any (1 + q) (by omega) (by omega) w
    rwa [show ((1 + q : Nat) : Int) = 1 + (q : Int) by omega] at this
  have HWK : Hid (∀ w1, Calls Tryz.prog 17 #[] w1 fun e w' => e = .returned (.bool true) ∧ Fr New w1 w') := works_any
  have HZ : Hid (∀ wr, Fr New w wr → RawAt wr a0 z) := fun wr hf => hc.fr hf
  have HI : Hid (∀ i, I64 (z.getD i 0)) := hz
  clear hc hz hq hbl
  go_enter Tryz.func9, Tryz.ntmps9
  go_wp2_with (first
    | (go_at_call 16; refine calls_same (HPB.out _) ?_)
    | (go_at_call 15; refine HBG.out.mono ?_; rintro e w1 ⟨sb, F1, rfl, hS1, hF1, hf1⟩)
    | (go_at_call 17; refine (HWK.out w1).mono ?_; rintro e w2 ⟨rfl, hf2⟩)
    | fail)
  have HST : Hid (∃ F ws now sts, Story F sb (1 + q) ws now sts w2 ∧ (∀ k, F k → w.heap.size ≤ k) ∧ Fr New w w2 ∧ sts.length ≤ 151 * 0) := ⟨F1, _, _, [], hS1.new hf2, hF1, hf1.same hf2, by simp⟩
  clear hS1 hF1 hf1 hf2
  go_loopg [16] (z.length + 8) (fun gh vi wr => ∃ i : Nat, vi = .int .i64 (i : Int) ∧ gh = z.length + 8 - i ∧ i ≤ z.length + 4 ∧ ∃ F ws now sts, Story F sb (1 + q) ws now sts wr ∧ (∀ k, F k → w.heap.size ≤ k) ∧ Fr New w wr ∧ sts.length ≤ 151 * i)
  case atStart => exact ⟨0, rfl, by omega, by omega, HST.out⟩
  case round =>
    clear HST
    obtain ⟨i, rfl, rfl, hi4, F, ws, now, sts, hS, hF, hf, hst⟩ := hrel
    by_cases hi : i + 3 < z.length
    · have hd0 : decide ((i : Int) + 3 < (z.length : Int)) = true := by simp; omega
      obtain ⟨ad, rfl, r0⟩ := HZ.out wr hf i (by omega)
      obtain ⟨_, e1, r1⟩ := HZ.out wr hf (i + 1) (by omega)
      cases e1
      obtain ⟨_, e2, r2⟩ := HZ.out wr hf (i + 2) (by omega)
      cases e2
      obtain ⟨_, e3, r3⟩ := HZ.out wr hf (i + 3) (by omega)
      cases e3
      obtain ⟨z0, hz0⟩ : ∃ x, x = z.getD i 0 := ⟨_, rfl⟩
      obtain ⟨z1, hz1⟩ : ∃ x, x = z.getD (i + 1) 0 := ⟨_, rfl⟩
      obtain ⟨z2, hz2⟩ : ∃ x, x = z.getD (i + 2) 0 := ⟨_, rfl⟩
      obtain ⟨z3, hz3⟩ : ∃ x, x = z.getD (i + 3) 0 := ⟨_, rfl⟩
      clear r0 r1 r2 r3
      have HPL : Hid (∀ w1, Fr New wr w1 → Calls Tryz.prog 18 #[.pointer (some ⟨sb, 0, none⟩), .int .i64 z0, .int .i64 z1, .int .i64 z2, .int .i64 z3] w1 fun e w' => e = .returned (.bool true) ∧ Fr New w w' ∧ ∃ F ws now sts, Story F sb (1 + q) ws now sts w' ∧ (∀ k, F k → w.heap.size ≤ k) ∧ Fr New w w' ∧ sts.length ≤ 151 * (i + 4)) := fun w1 hf1 => by
        refine (kplay_any F sb (1 + q) ws now sts z0 z1 z2 z3 w1 (by rw [hz0]; exact HI.out _) (by rw [hz1]; exact HI.out _) (by rw [hz2]; exact HI.out _) (by rw [hz3]; exact HI.out _) (by omega) (hS.new hf1)).mono ?_
        rintro e w' ⟨rfl, F', ws', now', sts', p1, p2, p3, p4⟩
        have hfw : Fr New w w' := (hf.same hf1).trans p2 (fun j hj h => by have := hF j h; omega)
        refine ⟨rfl, hfw, F', ws', now', sts', p1, fun k hk => ?_, hfw, by omega⟩
        rcases p3 k hk with h | h
        · exact hF k h
        · have := (hf.same hf1).size; omega
      have HFW : Hid (Fr New w wr) := hf
      have HRW : Hid (∀ w', Fr New w w' → w'.cell? (ad.add i) = some (.int .i64 z0) ∧ w'.cell? ⟨ad.block, ad.off + (i + 1), none⟩ = some (.int .i64 z1) ∧ w'.cell? ⟨ad.block, ad.off + (i + 1 + 1), none⟩ = some (.int .i64 z2) ∧ w'.cell? ⟨ad.block, ad.off + (i + 2 + 1), none⟩ = some (.int .i64 z3)) := fun w' hf' => by
        rw [hz0, hz1, hz2, hz3]
        refine ⟨?_, ?_, ?_, ?_⟩
        · obtain ⟨_, e, r⟩ := HZ.out w' hf' i (by omega); cases e; exact r
        · obtain ⟨_, e, r⟩ := HZ.out w' hf' (i + 1) (by omega); cases e; rw [add_succ] at r; exact r
        · obtain ⟨_, e, r⟩ := HZ.out w' hf' (i + 2) (by omega); cases e; rw [add_succ] at r; exact r
        · obtain ⟨_, e, r⟩ := HZ.out w' hf' (i + 3) (by omega); cases e; rw [add_succ] at r; exact r
      obtain ⟨r0, r1, r2, r3⟩ := HRW.out wr HFW.out
      clear hz0 hz1 hz2 hz3 hS hF hf hst
      have bl1 : (0 : Int) ≤ (i : Int) + 1 := by omega
      have bu1 : (i : Int) + 1 < (z.length : Int) := by omega
      have bt1 : ((i : Int) + 1).toNat = i + 1 := by omega
      have bw1 : IntKind.i64.wrap ((i : Int) + 1) = (i : Int) + 1 := by rw [IntKind.wrap_i64]; omega
      have bl2 : (0 : Int) ≤ (i : Int) + 2 := by omega
      have bu2 : (i : Int) + 2 < (z.length : Int) := by omega
      have bt2 : ((i : Int) + 2).toNat = i + 2 := by omega
      have bw2 : IntKind.i64.wrap ((i : Int) + 2) = (i : Int) + 2 := by rw [IntKind.wrap_i64]; omega
      have bl3 : (0 : Int) ≤ (i : Int) + 3 := by omega
      have bu3 : (i : Int) + 3 < (z.length : Int) := by omega
      have bt3 : ((i : Int) + 3).toNat = i + 3 := by omega
      have bw3 : IntKind.i64.wrap ((i : Int) + 3) = (i : Int) + 3 := by rw [IntKind.wrap_i64]; omega
      have bl0 : (0 : Int) ≤ (i : Int) := by omega
      have bu0 : (i : Int) < (z.length : Int) := by omega
      go_upto_region 8 with fail
      go_region_held3 (fun w' => w'.cell? (ad.add i) = some (.int .i64 z0) ∧ w'.cell? ⟨ad.block, ad.off + (i + 1), none⟩ = some (.int .i64 z1) ∧ w'.cell? ⟨ad.block, ad.off + (i + 1 + 1), none⟩ = some (.int .i64 z2) ∧ w'.cell? ⟨ad.block, ad.off + (i + 2 + 1), none⟩ = some (.int .i64 z3)) (first | go_keep | exact hkeep2)
        (first
          | (go_at_call 18; refine (HPL.out _ (by first | exact Fr.refl _ _ | exact (Fr.refl _ _).drew)).mono ?_; rintro e w3 ⟨rfl, hf3, hend⟩; have hkeep2 : w3.cell? (ad.add i) = some (.int .i64 z0) ∧ w3.cell? ⟨ad.block, ad.off + (i + 1), none⟩ = some (.int .i64 z1) ∧ w3.cell? ⟨ad.block, ad.off + (i + 1 + 1), none⟩ = some (.int .i64 z2) ∧ w3.cell? ⟨ad.block, ad.off + (i + 2 + 1), none⟩ = some (.int .i64 z3) := HRW.out w3 hf3)
          | fail)
      all_goals
        clear hkeep2
        go_wp2_with fail
        go_roundg (z.length + 8 - (i + 4))
        case measure => omega
        case rel =>
          refine ⟨i + 4, by go_num, rfl, by omega, ?_⟩
          obtain ⟨F', ws', now', sts', p1, p2, p3, p4⟩ := hend
          first
            | exact ⟨F', ws', now', sts', p1, p2, p3, p4⟩
            | exact ⟨F', ws', now', sts', p1.new (Fr.refl New _).drew, p2, p3.drew, p4⟩
    · have hd0 : decide ((i : Int) + 3 < (z.length : Int)) = false := by simp; omega
      obtain ⟨hb, tb, cb, mb, g, vs, vn, vk, un, uk, S, hFt⟩ := hS
      have HGE : Hid (∀ k, Foot sb hb tb cb mb g vs vn vk un uk k → w.heap.size ≤ k) := fun k hk => hF k (hFt k hk)
      have hw := S.hw
      have hLs := S.lens
      have HST1 : Hid (Calls Tryz.prog 25 #[.pointer (some ⟨hb, 0, none⟩)] wr fun e w' => e = .returned vs ∧ Sty sb (1 + q) hb tb cb mb g (.slice none 0 0) vn vk un uk ws now [] w' ∧ Fr (fun k => k = tb) wr w') := (hstores_sty S).mono (by rintro e w' ⟨rfl, h1, h2, _⟩; exact ⟨rfl, h1, h2⟩)
      have HCP : Hid (∀ w1, ThAt w1 vk (things ws) uk → Calls Tryz.prog 29 #[.agg #[vk, .int .i64 (wd ws 3), .int .i64 (wd ws 4), .int .i64 (wd ws 5), .int .i64 (wd ws 6)]] w1 fun e w' => ∃ v' us', e = .returned (.agg #[v', .int .i64 (wd ws 3), .int .i64 (wd ws 4), .int .i64 (wd ws 5), .int .i64 (wd ws 6)]) ∧ ThAt w' v' (things ws) us' ∧ (∀ k, ThB v' us' k → w1.heap.size ≤ k) ∧ Fr New w1 w') := fun w1 ht => kcopied_any vk (things ws) uk _ _ _ _ w1 ht
      have HHW : Hid (HW ws now) := hw
      have HUN : Hid ((∀ z ∈ ws, U z) ∧ ∀ z ∈ now, U z) := ⟨S.ph.uw, S.ph.unow⟩
      have HC0 := S.c0
      have hsw : sb < wr.heap.size := lt_of_block S.blk
      have HWL : Hid (114 ≤ ws.length ∧ ws.length ≤ 362) := by show _ ∧ _; omega
      have HTB : Hid (w.heap.size ≤ tb) := HGE.out tb (.inr (.inr (.inl rfl)))
      have HFW : Hid (Fr New w wr) := hf
      have HNTH : Hid (ThAt wr vk (things ws) uk) := S.tk
      obtain ⟨ak, ck, hvk⟩ := S.tk.slice
      obtain ⟨mk, hmk⟩ : ∃ m, m = (things ws).length := ⟨_, rfl⟩
      rw [← hmk] at hvk
      obtain ⟨an, cn, hvn⟩ := S.tn.slice
      have HMK : Hid (mk = (things ws).length) := hmk
      obtain ⟨y3, k3⟩ : ∃ x, x = wd ws 3 := ⟨_, rfl⟩
      obtain ⟨y4, k4⟩ : ∃ x, x = wd ws 4 := ⟨_, rfl⟩
      obtain ⟨y5, k5⟩ : ∃ x, x = wd ws 5 := ⟨_, rfl⟩
      obtain ⟨y6, k6⟩ : ∃ x, x = wd ws 6 := ⟨_, rfl⟩
      have HY : Hid (y3 = wd ws 3 ∧ y4 = wd ws 4 ∧ y5 = wd ws 5 ∧ y6 = wd ws 6) := ⟨k3, k4, k5, k6⟩
      rw [← k3, ← k4, ← k5, ← k6] at HCP
      rw [hvk] at HCP
      have HIM : Hid (∀ w1, Sty sb (1 + q) hb tb cb mb g (.slice none 0 0) vn vk un uk ws now [] w1 → Calls Tryz.prog 21 #[.pointer (some ⟨hb, 0, none⟩)] w1 fun e w' => e = .returned (.slice (some ⟨w1.heap.size, 0, none⟩) ws.length ws.length) ∧ Row w' w1.heap.size ws ∧ Fr New w1 w') := fun w1 h1 => himage_any hb tb cb mb g _ ws now [] w1 h1.ph
      have HKS : Hid (∀ w1, Sty sb (1 + q) hb tb cb mb g (.slice none 0 0) vn vk un uk ws now [] w1 → w1.cell? ⟨sb, 7, none⟩ = some (.slice ak mk ck) ∧ w1.cell? ⟨sb, 8, none⟩ = some (.int .i64 y3) ∧ w1.cell? ⟨sb, 9, none⟩ = some (.int .i64 y4) ∧ w1.cell? ⟨sb, 10, none⟩ = some (.int .i64 y5) ∧ w1.cell? ⟨sb, 11, none⟩ = some (.int .i64 y6) ∧ ThAt w1 (.slice ak mk ck) (things ws) uk) := fun w1 h1 => by
        have hb' := h1.blk
        have ht := h1.tk
        rw [hvk] at hb' ht
        rw [k3, k4, k5, k6]
        exact ⟨((block_cells hb').1 7).trans rfl, ((block_cells hb').1 8).trans rfl, ((block_cells hb').1 9).trans rfl, ((block_cells hb').1 10).trans rfl, ((block_cells hb').1 11).trans rfl, ht⟩
      have HCM : Hid (∀ w4 w1 vB usB gI gB, Sty sb (1 + q) hb tb cb mb g (.slice none 0 0) vn vk un uk ws now [] w4 → w4.heap.size ≤ gB → (∀ k, Foot sb hb tb cb mb g (.slice none 0 0) vn vk un uk k → k ≠ gI) → Fr New w4 w1 → Row w1 gI ws → w1.heap[gB]? = some (.cells #[vB, .int .i64 y3, .int .i64 y4, .int .i64 y5, .int .i64 y6] 37 (0, 0)) → ThAt w1 vB (things ws) usB → (∀ k, ThB vB usB k → w4.heap.size ≤ k) → Calls Tryz.prog 30 #[.pointer (some ⟨sb, 0, none⟩)] w1 fun e w' => e = .returned (.bool true) ∧ ∃ hb6 tb6 cb6 mb6 g6 vs6 vn6 vk6 un6 uk6 ws6 now6 sts6, Sty sb (1 + q) hb6 tb6 cb6 mb6 g6 vs6 vn6 vk6 un6 uk6 ws6 now6 sts6 w' ∧ CommitR ws now [] ws6 now6 sts6 ∧ Row w' gI ws ∧ w'.heap[gB]? = some (.cells #[vB, .int .i64 y3, .int .i64 y4, .int .i64 y5, .int .i64 y6] 37 (0, 0)) ∧ ThAt w' vB (things ws) usB ∧ Fr (Foot sb hb tb cb mb g (.slice none 0 0) vn vk un uk) w1 w' ∧ (Foot sb hb tb cb mb g (.slice none 0 0) vn vk un uk tb6 ∨ w1.heap.size ≤ tb6)) := fun w4 w1 vB usB gI gB S4 hgB hgI hf hR hB hT hn => by
        refine (kcommit_any (Foot sb hb tb cb mb g (.slice none 0 0) vn vk un uk) sb (1 + q) ws now [] w1 (by simp) ⟨hb, tb, cb, mb, g, _, vn, vk, un, uk, S4.new hf, fun k hk => hk⟩).mono ?_
        rintro e w' ⟨rfl, F6, ws6, now6, sts6, q1, q2, q3, q4⟩
        obtain ⟨hb6, tb6, cb6, mb6, g6, vs6, vn6, vk6, un6, uk6, S6, hF6⟩ := q1
        refine ⟨rfl, hb6, tb6, cb6, mb6, g6, vs6, vn6, vk6, un6, uk6, ws6, now6, sts6, S6, q4, q2.heap hR (fun h => hgI _ h rfl), q2.heap hB (fun h => by have := S4.lt h; omega), hT.fr q2 (fun k hk h => by have := S4.lt h; have := hn k hk; omega), q2, q3 tb6 (hF6 tb6 (.inr (.inr (.inl rfl))))⟩
      subst hvk
      clear hmk k3 k4 k5 k6 hvn hw hLs S hFt hF hst hf
      go_upto_region 18 with (first
        | (go_at_call_of 25 (Value.pointer (some ⟨hb, 0, none⟩)); refine HST1.out.mono ?_; rintro e w3 ⟨rfl, S3, hf3⟩; have c30 := S3.c0; have hsb3 : sb < w3.heap.size := lt_of_block S3.blk)
        | (go_at_call_of 21 (Value.pointer (some ⟨hb, 0, none⟩)); refine (HIM.out w3 S3).mono ?_; rintro e w4 ⟨rfl, hR4, hf4⟩; have S4 := S3.new hf4; obtain ⟨e7, e8, e9, e10, e11, hT4⟩ := HKS.out w4 S4; have hsb4 : sb < w4.heap.size := lt_of_block S4.blk)
        | (go_at_call 29; refine (HCP.out w4 hT4).mono ?_; rintro e w5 ⟨vB, usB, rfl, hT5, hn5, hf5⟩; obtain ⟨aB, cB, hvB⟩ := hT5.slice; rw [← HMK.out] at hvB; subst hvB; have hsb5 : sb < w5.heap.size := Nat.lt_of_lt_of_le hsb4 hf5.size)
        | (go_at_call 30; refine (HCM.out w4 _ _ usB w3.heap.size w5.heap.size S4 hf5.size (fun k hk e => by have := S3.lt hk; omega) (hf5.alloc _) ((hf5.alloc _).heap hR4 id) (Go.Deep.blk_alloc_new w5 _) (hT5.new ((Fr.refl New w5).alloc _)) hn5).mono ?_; rintro e w6 ⟨rfl, hb6, tb6, cb6, mb6, g6, vs6, vn6, vk6, un6, uk6, ws6, now6, sts6, S6, hcr, hR6, hB6, hT6, hq6, htb6⟩; have c60 := S6.c0; have hsb6 : sb < w6.heap.size := lt_of_block S6.blk)
        | (go_at_call_of 25 (Value.pointer (some ⟨hb6, 0, none⟩)); refine (hstores_sty S6).mono ?_; rintro e w7 ⟨rfl, S7, hf7, hO7⟩; have hR7 := hf7.heap hR6 (fun e => type_ne hR6 S6.ph.tg.t.td (by decide) e); have hB7 := hf7.heap hB6 (fun e => type_ne hB6 S6.ph.tg.t.td (by decide) e); have hT7 := hT6.fr hf7 (fun k hk e => by subst e; exact hT6.no S6.ph.tg.t.td (by decide) (by decide) hk); obtain ⟨sa, sc, hvs⟩ := own_slice hO7; subst hvs)
        | fail)
      have HF7 : Hid (Fr New w w7) := by
        have f3 : Fr New w w3 := HFW.out.trans hf3 (fun j hj e => by have := HTB.out; omega)
        have f5 : Fr New w (w5.alloc (.cells #[.slice aB mk cB, .int .i64 y3, .int .i64 y4, .int .i64 y5, .int .i64 y6] 37)) := ((f3.same hf4).same hf5).alloc _
        have hfoot : ∀ k, Foot sb hb tb cb mb g (.slice none 0 0) vn (.slice ak mk ck) un uk k → w.heap.size ≤ k := fun k hk => by
          rcases hk with hk | hk | hk | hk | hk | hk | hk | hk
          · exact HGE.out k (.inl hk)
          · exact HGE.out k (.inr (.inl hk))
          · exact HGE.out k (.inr (.inr (.inl hk)))
          · exact HGE.out k (.inr (.inr (.inr (.inl hk))))
          · exact HGE.out k (.inr (.inr (.inr (.inr (.inl hk)))))
          · exact HGE.out k (.inr (.inr (.inr (.inr (.inr (.inl hk))))))
          · cases hk
          · exact HGE.out k (.inr (.inr (.inr (.inr (.inr (.inr (.inr hk)))))))
        have f6 : Fr New w w6 := f5.trans hq6 (fun j hj h => by have := hfoot j h; omega)
        refine f6.trans hf7 (fun j hj e => ?_)
        rcases htb6 with h | h
        · have := hfoot _ h; omega
        · have := f5.size; omega
      have HSTO : Hid (Stopped ws now ws6 sts6) := stopped HHW.out hcr
      have HSU : Hid (∀ i, U (stq sts6 i).v) := stopped_U HHW.out HUN.out.2 hcr
      have hfew : sts6.length ≤ 151 := HSTO.out.few
      obtain ⟨gI, hgI⟩ : ∃ gI, gI = w3.heap.size := ⟨_, rfl⟩
      obtain ⟨gB, hgB⟩ : ∃ gB, gB = w5.heap.size := ⟨_, rfl⟩
      rw [← hgI] at hR7
      rw [← hgB] at hB7
      rw [← hgI, ← hgB]
      obtain ⟨a6, c6, hvk6⟩ := S7.tk.slice
      obtain ⟨m6, hm6⟩ : ∃ m, m = (things ws6).length := ⟨_, rfl⟩
      rw [← hm6] at hvk6
      subst hvk6
      obtain ⟨z3, j3⟩ : ∃ x, x = wd ws6 3 := ⟨_, rfl⟩
      obtain ⟨z4, j4⟩ : ∃ x, x = wd ws6 4 := ⟨_, rfl⟩
      obtain ⟨z5, j5⟩ : ∃ x, x = wd ws6 5 := ⟨_, rfl⟩
      obtain ⟨z6, j6⟩ : ∃ x, x = wd ws6 6 := ⟨_, rfl⟩
      have HCE : Hid (∀ w1, Fr New w7 w1 → w1.cell? ⟨sb, 0, none⟩ = some (.pointer (some ⟨hb6, 0, none⟩)) ∧ w1.cell? ⟨sb, 7, none⟩ = some (.slice a6 m6 c6) ∧ w1.cell? ⟨sb, 8, none⟩ = some (.int .i64 z3) ∧ w1.cell? ⟨sb, 9, none⟩ = some (.int .i64 z4) ∧ w1.cell? ⟨sb, 10, none⟩ = some (.int .i64 z5) ∧ w1.cell? ⟨sb, 11, none⟩ = some (.int .i64 z6) ∧ w1.cell? ⟨gB, 0, none⟩ = some (.slice aB mk cB) ∧ w1.cell? ⟨gB, 1, none⟩ = some (.int .i64 y3) ∧ w1.cell? ⟨gB, 2, none⟩ = some (.int .i64 y4) ∧ w1.cell? ⟨gB, 3, none⟩ = some (.int .i64 y5) ∧ w1.cell? ⟨gB, 4, none⟩ = some (.int .i64 y6) ∧ sb < w1.heap.size ∧ gB < w1.heap.size) := fun w1 h1 => by
        have hb' := (S7.new h1).blk
        have hB' := h1.heap hB7 id
        rw [j3, j4, j5, j6]
        exact ⟨((block_cells hb').1 0).trans rfl, ((block_cells hb').1 7).trans rfl, ((block_cells hb').1 8).trans rfl, ((block_cells hb').1 9).trans rfl, ((block_cells hb').1 10).trans rfl, ((block_cells hb').1 11).trans rfl, ((block_cells hB').1 0).trans rfl, ((block_cells hB').1 1).trans rfl, ((block_cells hB').1 2).trans rfl, ((block_cells hB').1 3).trans rfl, ((block_cells hB').1 4).trans rfl, lt_of_block hb', lt_of_block hB'⟩
      have HN1 : Hid (pickN pa (sts6.length + 1) ≤ sts6.length) := by have := pickN_lt pa (n := sts6.length + 1) (by omega); show _ ≤ _; omega
      have HPK1 : Hid (∀ w1, Calls Tryz.prog 16 #[.int .i64 pa, .int .i64 ((sts6.length : Int) + 1)] w1 fun e w' => e = .returned (.int .i64 (pickN pa (sts6.length + 1) : Nat)) ∧ w' = w1) := fun w1 => by
        have := pickN_any pa (sts6.length + 1) w1 hpa (by omega) (by omega)
        rwa [show ((sts6.length + 1 : Nat) : Int) = (sts6.length : Int) + 1 by omega] at this
      obtain ⟨n1, hn1⟩ : ∃ n1, n1 = pickN pa (sts6.length + 1) := ⟨_, rfl⟩
      rw [← hn1] at HN1 HPK1
      obtain ⟨im, him⟩ : ∃ im, im = leftW ws sts6 (lastF sts6 n1) (fun i => decide (bits .and .i64 (pb / 2 ^ (i % 60)) 1 = 1)) n1 := ⟨_, rfl⟩
      have himl : im.length = ws.length := by rw [him]; exact leftW_len ..
      have HUI : Hid (∀ z ∈ im, U z) := by rw [him]; exact left_U HUN.out.1 HSU.out n1
      have hdl : (openSt im).length ≤ 51 := openSt_len im
      have HM1 : Hid (pickN pc ((openSt im).length + 1) ≤ (openSt im).length) := by have := pickN_lt pc (n := (openSt im).length + 1) (by omega); show _ ≤ _; omega
      have HPK2 : Hid (∀ w1, Calls Tryz.prog 16 #[.int .i64 pc, .int .i64 (((openSt im).length : Int) + 1)] w1 fun e w' => e = .returned (.int .i64 (pickN pc ((openSt im).length + 1) : Nat)) ∧ w' = w1) := fun w1 => by
        have := pickN_any pc ((openSt im).length + 1) w1 hpc (by omega) (by omega)
        rwa [show (((openSt im).length + 1 : Nat) : Int) = ((openSt im).length : Int) + 1 by omega] at this
      obtain ⟨m1, hm1⟩ : ∃ m1, m1 = pickN pc ((openSt im).length + 1) := ⟨_, rfl⟩
      rw [← hm1] at HM1 HPK2
      obtain ⟨a, b, oA, oB, hcase⟩ := HSTO.out.one n1 (fun i => decide (bits .and .i64 (pb / 2 ^ (i % 60)) 1 = 1)) m1 (fun i => decide (bits .and .i64 (pd / 2 ^ (i % 60)) 1 = 1)) HN1.out (by rw [← him]; exact HM1.out)
      rw [← him] at oA oB
      obtain ⟨im2, him2⟩ : ∃ im2, im2 = leftW im (openSt im) (lastF (openSt im) m1) (fun i => decide (bits .and .i64 (pd / 2 ^ (i % 60)) 1 = 1)) m1 := ⟨_, rfl⟩
      rw [← him2] at oB
      have him2l : im2.length = ws.length := by rw [him2, leftW_len]; exact himl
      have HUI2 : Hid (∀ z ∈ im2, U z) := by rw [him2]; exact left_U HUI.out (open_stq_U HUI.out) m1
      have HLF1 : Hid (∀ w1, Fr New w7 w1 → Calls Tryz.prog 31 #[.slice (some ⟨gI, 0, none⟩) ws.length ws.length, .slice sa sts6.length sc, .int .i64 (n1 : Int), .int .i64 pb] w1 fun e w' => ∃ gm cm, e = .returned (.slice (some ⟨gm, 0, none⟩) ws.length cm) ∧ RowU w' (some ⟨gm, 0, none⟩) im ∧ Fr New w1 w') := fun w1 h1 => by
        refine (kleft_any gI ws.length ws _ sts6 0 n1 pb w1 (Row.rowU (h1.heap hR7 id)) (by have := HWL.out; omega) HWL.out.2 (h1.owns hO7 (fun _ _ h => h)) HN1.out (by omega)).mono ?_
        rintro e w' ⟨v, rfl, hO, hf⟩
        rw [← him] at hO
        obtain ⟨gm, cm, rfl, hr⟩ := own_some hO (by rw [himl]; have := HWL.out; omega)
        rw [himl]
        exact ⟨gm, cm, rfl, hr, hf⟩
      have HOP1 : Hid (∀ gm cm w1, RowU w1 (some ⟨gm, 0, none⟩) im → Calls Tryz.prog 20 #[.slice (some ⟨gm, 0, none⟩) ws.length cm] w1 fun e w' => ∃ hb tb cb mb g vs, e = .returned (.tuple #[.pointer (some ⟨hb, 0, none⟩), .int .i64 0]) ∧ PH hb tb cb mb g vs a a (openSt im) w' ∧ w1.heap.size ≤ tb ∧ Fr New w1 w') := fun gm cm w1 hr => by
        have := open_kept gm cm im a w1 hr HUI.out oA.ok oA.open'
        rw [himl] at this
        refine this.mono ?_
        rintro e w' ⟨hb, tb, cb, mb, g, vs, rfl, hp, hq, hf⟩
        exact ⟨hb, tb, cb, mb, g, vs, rfl, hp, hq.2.1, hf⟩
      have HKI : Hid (∀ hb2 tb2 cb2 mb2 g2 vs2 x st2 w1, PH hb2 tb2 cb2 mb2 g2 vs2 x x st2 w1 → Fr New w7 w1 → Calls Tryz.prog 19 #[.pointer (some ⟨hb2, 0, none⟩), .agg #[.slice a6 m6 c6, .int .i64 z3, .int .i64 z4, .int .i64 z5, .int .i64 z6]] w1 fun e w' => ∃ b, e = .returned (.bool b) ∧ (Like x ws6 → b = true) ∧ Fr New w1 w') := fun hb2 tb2 cb2 mb2 g2 vs2 x st2 w1 hp h1 => by
        rw [j3, j4, j5, j6]
        refine (kis_any hb2 tb2 cb2 mb2 g2 vs2 x x st2 _ (things ws6) uk6 _ _ _ _ w1 hp (S7.new h1).tk).mono ?_
        rintro e w' ⟨b, rfl, hb', hf⟩
        obtain ⟨q1, q2⟩ := is_self S7.hw.gw
        exact ⟨b, rfl, fun hlk => hb'.2 ⟨(things_like hlk).symm, fun k hk => by rw [hlk.roots k hk]; exact q2 k hk⟩, hf⟩
      have HWI : Hid (∀ hb2 tb2 cb2 mb2 g2 vs2 x st2 w1, PH hb2 tb2 cb2 mb2 g2 vs2 x x st2 w1 → Fr New w7 w1 → Calls Tryz.prog 19 #[.pointer (some ⟨hb2, 0, none⟩), .agg #[.slice aB mk cB, .int .i64 y3, .int .i64 y4, .int .i64 y5, .int .i64 y6]] w1 fun e w' => ∃ b, e = .returned (.bool b) ∧ (Like x ws → b = true) ∧ Fr New w1 w') := fun hb2 tb2 cb2 mb2 g2 vs2 x st2 w1 hp h1 => by
        obtain ⟨k3, k4, k5, k6⟩ := HY.out
        rw [k3, k4, k5, k6]
        refine (kis_any hb2 tb2 cb2 mb2 g2 vs2 x x st2 _ (things ws) usB _ _ _ _ w1 hp (hT7.new h1)).mono ?_
        rintro e w' ⟨b, rfl, hb', hf⟩
        obtain ⟨q1, q2⟩ := is_self HHW.out.gw
        exact ⟨b, rfl, fun hlk => hb'.2 ⟨(things_like hlk).symm, fun k hk => by rw [hlk.roots k hk]; exact q2 k hk⟩, hf⟩
      have HLF3 : Hid (∀ w1, Fr New w7 w1 → Calls Tryz.prog 31 #[.slice (some ⟨gI, 0, none⟩) ws.length ws.length, .slice sa sts6.length sc, .int .i64 (sts6.length : Int), .int .i64 (-1)] w1 fun e w' => ∃ gm cm, e = .returned (.slice (some ⟨gm, 0, none⟩) ws.length cm) ∧ RowU w' (some ⟨gm, 0, none⟩) ws6 ∧ Fr New w1 w') := fun w1 h1 => by
        refine (kleft_any gI ws.length ws _ sts6 0 sts6.length (-1) w1 (Row.rowU (h1.heap hR7 id)) (by have := HWL.out; omega) HWL.out.2 (h1.owns hO7 (fun _ _ h => h)) (Nat.le_refl _) (by omega)).mono ?_
        rintro e w' ⟨v, rfl, hO, hf⟩
        rw [show (fun i => decide (bits .and .i64 (-1 / 2 ^ (i % 60)) 1 = 1)) = (fun _ : Nat => true) from funext bits_all, HSTO.out.all] at hO
        have h6l : ws6.length = ws.length := by rw [← HSTO.out.all]; exact leftW_len ..
        obtain ⟨gm, cm, rfl, hr⟩ := own_some hO (by rw [h6l]; have := HWL.out; omega)
        rw [h6l]
        exact ⟨gm, cm, rfl, hr, hf⟩
      have H6L : Hid (ws6.length = ws.length) := by show _ = _; rw [← HSTO.out.all]; exact leftW_len ..
      have HIM7 : Hid (∀ w1, Fr New w7 w1 → Calls Tryz.prog 21 #[.pointer (some ⟨hb6, 0, none⟩)] w1 fun e w' => e = .returned (.slice (some ⟨w1.heap.size, 0, none⟩) ws.length ws.length) ∧ Row w' w1.heap.size ws6 ∧ Fr New w1 w') := fun w1 h1 => by
        have := himage_any hb6 tb6 cb6 mb6 g6 _ ws6 now6 [] w1 (S7.new h1).ph
        rwa [H6L.out] at this
      have HSM : Hid (∀ ga ca gb w1, RowU w1 (some ⟨ga, 0, none⟩) ws6 → RowU w1 (some ⟨gb, 0, none⟩) ws6 → Calls Tryz.prog 28 #[.slice (some ⟨ga, 0, none⟩) ws.length ca, .slice (some ⟨gb, 0, none⟩) ws.length ws.length] w1 fun e w' => e = .returned (.bool true) ∧ Fr New w1 w') := fun ga ca gb w1 h1 h2 => by
        have := ksame_any (some ⟨ga, 0, none⟩) (some ⟨gb, 0, none⟩) ca ws.length ws6 ws6 w1 (by rw [H6L.out]; have := HWL.out; unfold maxLen; omega) h1 h2
        rw [H6L.out] at this
        refine this.mono ?_
        rintro e w' ⟨rfl, n, rfl⟩
        exact ⟨by simp, (Fr.refl New w1).drewN n⟩
      have HST2 : Hid (∀ hb2 tb2 cb2 mb2 g2 vs2 w1, PH hb2 tb2 cb2 mb2 g2 vs2 a a (openSt im) w1 → Calls Tryz.prog 25 #[.pointer (some ⟨hb2, 0, none⟩)] w1 fun e w' => ∃ sd sdc, e = .returned (.slice sd (openSt im).length sdc) ∧ w'.ownsRow 0 122 3 (.slice sd (openSt im).length sdc) (openSt im).length (stsCells (openSt im)) ∧ Fr (fun k => k = tb2) w1 w') := fun hb2 tb2 cb2 mb2 g2 vs2 w1 hp => by
        refine (hstores_any hb2 tb2 cb2 mb2 g2 vs2 a a (openSt im) w1 hp).mono ?_
        rintro e w' ⟨rfl, _, hf, ho, _⟩
        obtain ⟨sd, sdc, e⟩ := own_slice ho
        rw [e] at ho ⊢
        exact ⟨sd, sdc, rfl, ho, hf⟩
      have HLF2 : Hid (∀ gm cm sd sdc w1, RowU w1 (some ⟨gm, 0, none⟩) im → w1.ownsRow 0 122 3 (.slice sd (openSt im).length sdc) (openSt im).length (stsCells (openSt im)) → Calls Tryz.prog 31 #[.slice (some ⟨gm, 0, none⟩) ws.length cm, .slice sd (openSt im).length sdc, .int .i64 (m1 : Int), .int .i64 pd] w1 fun e w' => ∃ gm2 cm2, e = .returned (.slice (some ⟨gm2, 0, none⟩) ws.length cm2) ∧ RowU w' (some ⟨gm2, 0, none⟩) im2 ∧ Fr New w1 w') := fun gm cm sd sdc w1 hr ho => by
        have h := kleft_any gm cm im _ (openSt im) 0 m1 pd w1 hr (by rw [himl]; have := HWL.out; omega) (by rw [himl]; exact HWL.out.2) ho HM1.out (by omega)
        rw [himl] at h
        refine h.mono ?_
        rintro e w' ⟨v, rfl, hO, hf⟩
        rw [← him2] at hO
        obtain ⟨gm2, cm2, rfl, hr2⟩ := own_some hO (by rw [him2l]; have := HWL.out; omega)
        rw [him2l]
        exact ⟨gm2, cm2, rfl, hr2, hf⟩
      have HOP2 : Hid (∀ gm cm w1, RowU w1 (some ⟨gm, 0, none⟩) im2 → Calls Tryz.prog 20 #[.slice (some ⟨gm, 0, none⟩) ws.length cm] w1 fun e w' => ∃ hb tb cb mb g vs st, e = .returned (.tuple #[.pointer (some ⟨hb, 0, none⟩), .int .i64 0]) ∧ PH hb tb cb mb g vs b b st w' ∧ Fr New w1 w') := fun gm cm w1 hr => by
        have := open_kept gm cm im2 b w1 hr HUI2.out oB.ok oB.open'
        rw [him2l] at this
        refine this.mono ?_
        rintro e w' ⟨hb, tb, cb, mb, g, vs, rfl, hp, hq, hf⟩
        exact ⟨hb, tb, cb, mb, g, vs, _, rfl, hp, hf⟩
      have HRW : Hid (∀ gm tb2 (w8 w11 w12 : World), RowU w8 (some ⟨gm, 0, none⟩) im → w8.heap.size ≤ tb2 → Fr New w8 w11 → Fr (fun k => k = tb2) w11 w12 → Fr New w7 w8 → RowU w12 (some ⟨gm, 0, none⟩) im ∧ Fr New w7 w12) := fun gm tb2 w8 w11 w12 hr ht f1 f2 f0 => by
        have hlt : gm < w8.heap.size := by
          obtain ⟨x, e, hc⟩ := hr 0 (by rw [himl]; have := HWL.out; omega)
          cases e
          have := World.block_lt_of_cell? w8 _ hc
          rwa [add_plain] at this
        refine ⟨rowU_fr f2 (rowU_fr f1 hr (fun _ _ h => h)) (fun x hx e => by cases hx; simp only at e; omega), (f0.same f1).trans f2 (fun j hj e => ?_)⟩
        have := f0.size
        omega
      obtain ⟨D, hD⟩ : ∃ D, D = (openSt im).length := ⟨_, rfl⟩
      rw [← hD] at HPK2 HST2 HLF2 hdl
      obtain ⟨L, hLd⟩ : ∃ L, L = ws.length := ⟨_, rfl⟩
      rw [← hLd] at HLF1 HOP1 HLF3 HIM7 HSM HLF2 HOP2
      rw [← hLd]
      have hN1 := HN1.out
      clear him hn1 hm1 him2 j3 j4 j5 j6 hm6 hgI hgB himl him2l hD hLd oA oB hcr S3 S4 S6 S7 hR4 hR6 hB6 hT4 hT5 hT6 hR7 hB7 hT7 hO7 hf3 hf4 hf5 hf7 hq6 hn5 htb6 hsb3 hsb4 hsb5 hsb6 c30 c60 e7 e8 e9 e10 e11
      rcases hcase with ⟨hA, hB⟩ | ⟨hA, hB⟩
      · go_wp2_with (first
          | (go_at_call_of 16 (Value.int .i64 pa); refine calls_same (HPK1.out _) ?_)
          | (go_at_call_of 16 (Value.int .i64 pc); refine calls_same (HPK2.out _) ?_)
          | (go_at_call_of 31 (Value.int .i64 pb); refine (HLF1.out w7 (Fr.refl _ _)).mono ?_; rintro e w8 ⟨gm, cm, rfl, hr8, hf8⟩)
          | (go_at_call_of 20 (Value.slice (some ⟨gm, 0, none⟩) L cm); refine (HOP1.out gm cm w8 hr8).mono ?_; rintro e w9 ⟨hb2, tb2, cb2, mb2, g2, vs2, rfl, hp9, ht9, hf9⟩; have hf9' : Fr New w7 w9 := hf8.same hf9; obtain ⟨u0, u1, u2, u3, u4, u5, u6, u7, u8, u9, u10, u11, u12⟩ := HCE.out w9 hf9')
          | (go_at_call_of 19 (Value.pointer (some ⟨hb2, 0, none⟩)); go_at_call_of 19 ((.agg #[.slice a6 m6 c6, .int .i64 z3, .int .i64 z4, .int .i64 z5, .int .i64 z6] : Value)); refine (HKI.out hb2 tb2 cb2 mb2 g2 vs2 a _ w9 hp9 hf9').mono ?_; rintro e w10 ⟨bA, rfl, hbA, hf10⟩; have hp10 := hp9.new hf10; have hf10' := hf9'.same hf10; obtain ⟨v0, v1, v2, v3, v4, v5, v6, v7, v8, v9, v10, v11, v12⟩ := HCE.out w10 hf10'; rcases bA with _ | _)
          | (go_at_call_of 19 (Value.pointer (some ⟨hb2, 0, none⟩)); go_at_call_of 19 ((.agg #[.slice aB mk cB, .int .i64 y3, .int .i64 y4, .int .i64 y5, .int .i64 y6] : Value)); refine (HWI.out hb2 tb2 cb2 mb2 g2 vs2 a _ w10 hp10 hf10').mono ?_; rintro e w11 ⟨bW, rfl, hbW, hf11⟩; have hp11 := hp10.new hf11; have hf11' := hf10'.same hf11; have hf911 : Fr New w8 w11 := (hf9.same hf10).same hf11; obtain rfl := hbW hA)
          | (go_at_call_of 25 (Value.pointer (some ⟨hb2, 0, none⟩)); refine (HST2.out hb2 tb2 cb2 mb2 g2 vs2 w11 hp11).mono ?_; rintro e w12 ⟨sd, sdc, rfl, hO12, hf12⟩; obtain ⟨hr12, hf12'⟩ := HRW.out gm tb2 w8 w11 w12 hr8 ht9 hf911 hf12 hf8)
          | (go_at_call_of 31 (Value.int .i64 pd); refine (HLF2.out gm cm sd sdc w12 hr12 hO12).mono ?_; rintro e w13 ⟨gm2, cm2, rfl, hr13, hf13⟩)
          | (go_at_call_of 20 (Value.slice (some ⟨gm2, 0, none⟩) L cm2); refine (HOP2.out gm2 cm2 w13 hr13).mono ?_; rintro e w14 ⟨hb3, tb3, cb3, mb3, g3, vs3, st3, rfl, hp14, hf14⟩; have hf14' : Fr New w7 w14 := (hf12'.same hf13).same hf14; obtain ⟨x0, x1, x2, x3, x4, x5, x6, x7, x8, x9, x10, x11, x12⟩ := HCE.out w14 hf14')
          | (go_at_call_of 19 (Value.pointer (some ⟨hb3, 0, none⟩)); go_at_call_of 19 ((.agg #[.slice a6 m6 c6, .int .i64 z3, .int .i64 z4, .int .i64 z5, .int .i64 z6] : Value)); refine (HKI.out hb3 tb3 cb3 mb3 g3 vs3 b _ w14 hp14 hf14').mono ?_; rintro e w15 ⟨bA2, rfl, hbA2, hf15⟩; have hp15 := hp14.new hf15; have hf15' := hf14'.same hf15; obtain ⟨t0, t1, t2, t3, t4, t5, t6, t7, t8, t9, t10, t11, t12⟩ := HCE.out w15 hf15'; rcases bA2 with _ | _)
          | (go_at_call_of 19 (Value.pointer (some ⟨hb3, 0, none⟩)); go_at_call_of 19 ((.agg #[.slice aB mk cB, .int .i64 y3, .int .i64 y4, .int .i64 y5, .int .i64 y6] : Value)); (first | refine (HWI.out hb3 tb3 cb3 mb3 g3 vs3 b _ w15 hp15 hf15').mono ?_ | refine (HWI.out hb3 tb3 cb3 mb3 g3 vs3 b _ w14 hp14 hf14').mono ?_); rintro e w16 ⟨bW2, rfl, hbW2, hf16⟩; have hf16' : Fr New w7 w16 := (by first | exact hf15'.same hf16 | exact hf14'.same hf16); obtain rfl := hbW2 hB)
          | (go_at_call_of 31 (Value.int .i64 (sts6.length : Int)); refine (HLF3.out _ (by first | exact hf16' | exact hf15')).mono ?_; rintro e w17 ⟨gm3, cm3, rfl, hr17, hf17⟩; have hf17' : Fr New w7 w17 := (by first | exact hf16'.same hf17 | exact hf15'.same hf17); obtain ⟨o0, o1, o2, o3, o4, o5, o6, o7, o8, o9, o10, o11, o12⟩ := HCE.out w17 hf17')
          | (go_at_call_of 21 (Value.pointer (some ⟨hb6, 0, none⟩)); refine (HIM7.out w17 hf17').mono ?_; rintro e w18 ⟨rfl, hR18, hf18⟩)
          | (go_at_call 28; refine (HSM.out gm3 cm3 w17.heap.size w18 (rowU_fr hf18 hr17 (fun _ _ h => h)) (Row.rowU hR18)).mono ?_; rintro e w19 ⟨rfl, hf19⟩)
          | fail)
        all_goals
          go_ret
          exact ⟨rfl, HF7.out.same ((hf17'.same hf18).same hf19)⟩
      · go_wp2_with (first
          | (go_at_call_of 16 (Value.int .i64 pa); refine calls_same (HPK1.out _) ?_)
          | (go_at_call_of 16 (Value.int .i64 pc); refine calls_same (HPK2.out _) ?_)
          | (go_at_call_of 31 (Value.int .i64 pb); refine (HLF1.out w7 (Fr.refl _ _)).mono ?_; rintro e w8 ⟨gm, cm, rfl, hr8, hf8⟩)
          | (go_at_call_of 20 (Value.slice (some ⟨gm, 0, none⟩) L cm); refine (HOP1.out gm cm w8 hr8).mono ?_; rintro e w9 ⟨hb2, tb2, cb2, mb2, g2, vs2, rfl, hp9, ht9, hf9⟩; have hf9' : Fr New w7 w9 := hf8.same hf9; obtain ⟨u0, u1, u2, u3, u4, u5, u6, u7, u8, u9, u10, u11, u12⟩ := HCE.out w9 hf9')
          | (go_at_call_of 19 (Value.pointer (some ⟨hb2, 0, none⟩)); go_at_call_of 19 ((.agg #[.slice a6 m6 c6, .int .i64 z3, .int .i64 z4, .int .i64 z5, .int .i64 z6] : Value)); refine (HKI.out hb2 tb2 cb2 mb2 g2 vs2 a _ w9 hp9 hf9').mono ?_; rintro e w10 ⟨bA, rfl, hbA, hf10⟩; have hp10 := hp9.new hf10; have hf10' := hf9'.same hf10; obtain ⟨v0, v1, v2, v3, v4, v5, v6, v7, v8, v9, v10, v11, v12⟩ := HCE.out w10 hf10'; obtain rfl := hbA hA)
          | (go_at_call_of 19 (Value.pointer (some ⟨hb2, 0, none⟩)); go_at_call_of 19 ((.agg #[.slice aB mk cB, .int .i64 y3, .int .i64 y4, .int .i64 y5, .int .i64 y6] : Value)); refine (HWI.out hb2 tb2 cb2 mb2 g2 vs2 a _ w10 hp10 hf10').mono ?_; rintro e w11 ⟨bW, rfl, hbW, hf11⟩; have hp11 := hp10.new hf11; have hf11' := hf10'.same hf11; have hf911 : Fr New w8 w11 := (hf9.same hf10).same hf11; rcases bW with _ | _)
          | (go_at_call_of 25 (Value.pointer (some ⟨hb2, 0, none⟩)); refine (HST2.out hb2 tb2 cb2 mb2 g2 vs2 w11 hp11).mono ?_; rintro e w12 ⟨sd, sdc, rfl, hO12, hf12⟩; obtain ⟨hr12, hf12'⟩ := HRW.out gm tb2 w8 w11 w12 hr8 ht9 hf911 hf12 hf8)
          | (go_at_call_of 31 (Value.int .i64 pd); refine (HLF2.out gm cm sd sdc w12 hr12 hO12).mono ?_; rintro e w13 ⟨gm2, cm2, rfl, hr13, hf13⟩)
          | (go_at_call_of 20 (Value.slice (some ⟨gm2, 0, none⟩) L cm2); refine (HOP2.out gm2 cm2 w13 hr13).mono ?_; rintro e w14 ⟨hb3, tb3, cb3, mb3, g3, vs3, st3, rfl, hp14, hf14⟩; have hf14' : Fr New w7 w14 := (hf12'.same hf13).same hf14; obtain ⟨x0, x1, x2, x3, x4, x5, x6, x7, x8, x9, x10, x11, x12⟩ := HCE.out w14 hf14')
          | (go_at_call_of 19 (Value.pointer (some ⟨hb3, 0, none⟩)); go_at_call_of 19 ((.agg #[.slice a6 m6 c6, .int .i64 z3, .int .i64 z4, .int .i64 z5, .int .i64 z6] : Value)); refine (HKI.out hb3 tb3 cb3 mb3 g3 vs3 b _ w14 hp14 hf14').mono ?_; rintro e w15 ⟨bA2, rfl, hbA2, hf15⟩; have hp15 := hp14.new hf15; have hf15' := hf14'.same hf15; obtain ⟨t0, t1, t2, t3, t4, t5, t6, t7, t8, t9, t10, t11, t12⟩ := HCE.out w15 hf15'; obtain rfl := hbA2 hB)
          | (go_at_call_of 19 (Value.pointer (some ⟨hb3, 0, none⟩)); go_at_call_of 19 ((.agg #[.slice aB mk cB, .int .i64 y3, .int .i64 y4, .int .i64 y5, .int .i64 y6] : Value)); (first | refine (HWI.out hb3 tb3 cb3 mb3 g3 vs3 b _ w15 hp15 hf15').mono ?_ | refine (HWI.out hb3 tb3 cb3 mb3 g3 vs3 b _ w14 hp14 hf14').mono ?_); rintro e w16 ⟨bW2, rfl, hbW2, hf16⟩; have hf16' : Fr New w7 w16 := (by first | exact hf15'.same hf16 | exact hf14'.same hf16); skip)
          | (go_at_call_of 31 (Value.int .i64 (sts6.length : Int)); refine (HLF3.out _ (by first | exact hf16' | exact hf15')).mono ?_; rintro e w17 ⟨gm3, cm3, rfl, hr17, hf17⟩; have hf17' : Fr New w7 w17 := (by first | exact hf16'.same hf17 | exact hf15'.same hf17); obtain ⟨o0, o1, o2, o3, o4, o5, o6, o7, o8, o9, o10, o11, o12⟩ := HCE.out w17 hf17')
          | (go_at_call_of 21 (Value.pointer (some ⟨hb6, 0, none⟩)); refine (HIM7.out w17 hf17').mono ?_; rintro e w18 ⟨rfl, hR18, hf18⟩)
          | (go_at_call 28; refine (HSM.out gm3 cm3 w17.heap.size w18 (rowU_fr hf18 hr17 (fun _ _ h => h)) (Row.rowU hR18)).mono ?_; rintro e w19 ⟨rfl, hf19⟩)
          | fail)
        all_goals
          go_ret
          exact ⟨rfl, HF7.out.same ((hf17'.same hf18).same hf19)⟩
end Go.Proofs.YtbagcjlimdilpaaGreat
