/- The walk of the law Repaired. -/
import Derived.Test.YtbagcjlimdilpaaGreatKtKqW
import Derived.Test.YtbagcjlimdilpaaGreatKtKqY
import Derived.Test.YtbagcjlimdilpaaGreatKtJ5
import Derived.Test.YtbagcjlimdilpaaGreatKtJ23
import Derived.Deep.RegionHeld3
namespace Go.Proofs.YtbagcjlimdilpaaGreat
open Go.RowKit Go.Maps

/-- what Repair makes are words -/
theorem zeroed_V {a b : List Int} {Z : Nat → Prop} (h : Zeroed a b Z) (hu : ∀ z ∈ a, U z) : ∀ z ∈ b, U z := fun z hz => by
  obtain ⟨i, hi, rfl⟩ := List.getElem_of_mem hz
  have e : b[i] = wd b i := by simp [wd, List.getD, hi]
  rw [e]
  by_cases hZ : Z i
  · rw [h.yes i hZ]; unfold U; omega
  · rw [h.no i hZ]
    have hia : i < a.length := by rw [← h.len]; exact hi
    have e2 : wd a i = a[i] := by simp [wd, List.getD, hia]
    rw [e2]
    exact hu _ (List.getElem_mem hia)
theorem done_V {ws : List Int} (hu : ∀ z ∈ ws, U z) : ∀ k, ∀ z ∈ doneS ws k, U z
  | 0 => hu
  | k + 1 => by
    unfold doneS
    refine set_U (done_V hu k) ?_
    by_cases h : 11 + 2 * k < ws.length
    · have e : wd ws (11 + 2 * k) = ws[11 + 2 * k] := by simp [wd, List.getD, h]
      rw [e]
      exact hu _ (List.getElem_mem h)
    · rw [wd_out (by omega)]; unfold U; omega
theorem repair_V {ws r : List Int} (h : RepairIs ws r 0) (hu : ∀ z ∈ ws, U z) : ∀ z ∈ r, U z := by
  rcases h with ⟨_, h, _⟩ | ⟨_, ⟨_, h, _⟩ | ⟨_, _, w2, w3, z2, z3, rfl⟩⟩
  · cases h
  · cases h
  · refine set_U (zeroed_V z3 (zeroed_V z2 ?_)) (sumL_U _)
    unfold loggedS
    refine set_U ?_ (by unfold U; omega)
    split
    · exact done_V hu _
    · exact hu
/-- the marks of what is reached -/
structure Parted (ws : List Int) (out : List Bool) : Prop where
  len : out.length = (objs ws).length
  marks : ∀ i : Nat, out[i]? = some true ↔ Reach ws (objs ws) i
theorem is_root (ws : List Int) : ∀ k, k < 4 → root4 (wd ws 3) (wd ws 4) (wd ws 5) (wd ws 6) k = wd ws (3 + k) := fun k hk =>
  match k, hk with
  | 0, _ => rfl
  | 1, _ => rfl
  | 2, _ => rfl
  | 3, _ => rfl
/-- repaired words have the shape of what was reached -/
theorem mended_is {a r ws : List Int} {out : List Bool} (m : Mended a r) (h : Like a ws) (g : Good ws) (p : Parted ws out) : IsIt r (sel (things ws) out) (wd ws 3) (wd ws 4) (wd ws 5) (wd ws 6) := by
  refine ⟨?_, fun k hk => ?_⟩
  · rw [mended_things m (by rw [h.ob]; exact p.len) (fun i => (p.marks i).trans (reach_like h i).symm), things_like h]
  · rw [m.roots k hk, h.roots k hk]
    exact (is_self g).2 k hk
set_option maxHeartbeats 2000000 in
set_option maxRecDepth 100000 in
theorem repaired_walk (bl : Int) (a0 : Option Addr) (len cap : Nat) (z : List Int) (w : World) (hl : z.length = len) (hm : len ≤ 1048576) (hc : RawAt w a0 z) (hbl : I64 bl) (hz : ∀ i, I64 (z.getD i 0)) (pa pb : Int) (hpa : I64 pa) :
    Calls Tryz.prog 10 #[.int .i64 bl, .slice a0 len cap, .int .i64 pa, .int .i64 pb] w fun e w' => e = .returned (.bool true) ∧ Fr New w w' := by
  subst hl
  have hp32 := pickN_lt bl (n := 32) (by omega)
  have HPB : Hid (∀ w1, Calls Tryz.prog 16 #[.int .i64 bl, .int .i64 32] w1 fun e w' => e = .returned (.int .i64 (pickN bl 32 : Nat)) ∧ w' = w1) := fun w1 => pickN_any bl 32 w1 hbl (by omega) (by omega)
  obtain ⟨q, hq⟩ : ∃ q : Nat, q = pickN bl 32 := ⟨_, rfl⟩
  rw [← hq] at HPB hp32
  have HBG : Hid (Calls Tryz.prog 15 #[.int .i64 (1 + (q : Int))] w fun e w' => ∃ sb F, e = .returned (.tuple #[.pointer (some ⟨sb, 0, none⟩), .bool true]) ∧ Story F sb (1 + q) (imgL (1 + q)) (imgL (1 + q)) [] w' ∧ (∀ k, F k → w.heap.size ≤ k) ∧ Fr New w w') := by
    have := begun_any (1 + q) (by omega) (by omega) w
    rwa [show ((1 + q : Nat) : Int) = 1 + (q : Int) by omega] at this
  have HWK : Hid (∀ w1, Calls Tryz.prog 17 #[] w1 fun e w' => e = .returned (.bool true) ∧ Fr New w1 w') := works_any
  have HZ : Hid (∀ wr, Fr New w wr → RawAt wr a0 z) := fun wr hf => hc.fr hf
  have HI : Hid (∀ i, I64 (z.getD i 0)) := hz
  clear hc hz hq hbl
  go_enter Tryz.func10, Tryz.ntmps10
  go_wp2_with (first
    | (go_at_call 16; refine calls_same (HPB.out _) ?_)
    | (go_at_call 15; refine HBG.out.mono ?_; rintro e w1 ⟨sb, F1, rfl, hS1, hF1, hf1⟩)
    | (go_at_call 17; refine (HWK.out w1).mono ?_; rintro e w2 ⟨rfl, hf2⟩)
    | fail)
  have HST : Hid (∃ F ws now sts, Story F sb (1 + q) ws now sts w2 ∧ (∀ k, F k → w.heap.size ≤ k) ∧ Fr New w w2 ∧ sts.length ≤ 151 * 0) := ⟨F1, _, _, [], hS1.new hf2, hF1, hf1.same hf2, by simp⟩
  clear hS1 hF1 hf1 hf2
  go_loopg [12] (z.length + 8) (fun gh vi wr => ∃ i : Nat, vi = .int .i64 (i : Int) ∧ gh = z.length + 8 - i ∧ i ≤ z.length + 4 ∧ ∃ F ws now sts, Story F sb (1 + q) ws now sts wr ∧ (∀ k, F k → w.heap.size ≤ k) ∧ Fr New w wr ∧ sts.length ≤ 151 * i)
  case atStart => exact ⟨0, rfl, by omega, by omega, HST.out⟩
  case round =>
    clear HST
    obtain ⟨i, rfl, rfl, hi4, F, ws, now, sts, hS, hF, hf, hst⟩ := hrel
    by_cases hi : i + 3 < z.length
    · have hd0 : decide ((i : Int) + 3 < (z.length : Int)) = true := by simp; omega
      obtain ⟨ad, rfl, r0⟩ := HZ.out wr hf i (by omega)
      obtain ⟨_, e1, r1⟩ := HZ.out wr hf (i + 1) (by omega)
      cases e1
      obtain ⟨_, e2, r2⟩ := HZ.out wr hf (i + 2) (by omega)
      cases e2
      obtain ⟨_, e3, r3⟩ := HZ.out wr hf (i + 3) (by omega)
      cases e3
      obtain ⟨z0, hz0⟩ : ∃ x, x = z.getD i 0 := ⟨_, rfl⟩
      obtain ⟨z1, hz1⟩ : ∃ x, x = z.getD (i + 1) 0 := ⟨_, rfl⟩
      obtain ⟨z2, hz2⟩ : ∃ x, x = z.getD (i + 2) 0 := ⟨_, rfl⟩
      obtain ⟨z3, hz3⟩ : ∃ x, x = z.getD (i + 3) 0 := ⟨_, rfl⟩
      clear r0 r1 r2 r3
      have HPL : Hid (∀ w1, Fr New wr w1 → Calls Tryz.prog 18 #[.pointer (some ⟨sb, 0, none⟩), .int .i64 z0, .int .i64 z1, .int .i64 z2, .int .i64 z3] w1 fun e w' => e = .returned (.bool true) ∧ Fr New w w' ∧ ∃ F ws now sts, Story F sb (1 + q) ws now sts w' ∧ (∀ k, F k → w.heap.size ≤ k) ∧ Fr New w w' ∧ sts.length ≤ 151 * (i + 4)) := fun w1 hf1 => by
        refine (kplay_any F sb (1 + q) ws now sts z0 z1 z2 z3 w1 (by rw [hz0]; exact HI.out _) (by rw [hz1]; exact HI.out _) (by rw [hz2]; exact HI.out _) (by rw [hz3]; exact HI.out _) (by omega) (hS.new hf1)).mono ?_
        rintro e w' ⟨rfl, F', ws', now', sts', p1, p2, p3, p4⟩
        have hfw : Fr New w w' := (hf.same hf1).trans p2 (fun j hj h => by have := hF j h; omega)
        refine ⟨rfl, hfw, F', ws', now', sts', p1, fun k hk => ?_, hfw, by omega⟩
        rcases p3 k hk with h | h
        · exact hF k h
        · have := (hf.same hf1).size; omega
      have HFW : Hid (Fr New w wr) := hf
      have HRW : Hid (∀ w', Fr New w w' → w'.cell? (ad.add i) = some (.int .i64 z0) ∧ w'.cell? ⟨ad.block, ad.off + (i + 1), none⟩ = some (.int .i64 z1) ∧ w'.cell? ⟨ad.block, ad.off + (i + 1 + 1), none⟩ = some (.int .i64 z2) ∧ w'.cell? ⟨ad.block, ad.off + (i + 2 + 1), none⟩ = some (.int .i64 z3)) := fun w' hf' => by
        rw [hz0, hz1, hz2, hz3]
        refine ⟨?_, ?_, ?_, ?_⟩
        · obtain ⟨_, e, r⟩ := HZ.out w' hf' i (by omega); cases e; exact r
        · obtain ⟨_, e, r⟩ := HZ.out w' hf' (i + 1) (by omega); cases e; rw [add_succ] at r; exact r
        · obtain ⟨_, e, r⟩ := HZ.out w' hf' (i + 2) (by omega); cases e; rw [add_succ] at r; exact r
        · obtain ⟨_, e, r⟩ := HZ.out w' hf' (i + 3) (by omega); cases e; rw [add_succ] at r; exact r
      obtain ⟨r0, r1, r2, r3⟩ := HRW.out wr HFW.out
      clear hz0 hz1 hz2 hz3 hS hF hf hst
      have bl1 : (0 : Int) ≤ (i : Int) + 1 := by omega
      have bu1 : (i : Int) + 1 < (z.length : Int) := by omega
      have bt1 : ((i : Int) + 1).toNat = i + 1 := by omega
      have bw1 : IntKind.i64.wrap ((i : Int) + 1) = (i : Int) + 1 := by rw [IntKind.wrap_i64]; omega
      have bl2 : (0 : Int) ≤ (i : Int) + 2 := by omega
      have bu2 : (i : Int) + 2 < (z.length : Int) := by omega
      have bt2 : ((i : Int) + 2).toNat = i + 2 := by omega
      have bw2 : IntKind.i64.wrap ((i : Int) + 2) = (i : Int) + 2 := by rw [IntKind.wrap_i64]; omega
      have bl3 : (0 : Int) ≤ (i : Int) + 3 := by omega
      have bu3 : (i : Int) + 3 < (z.length : Int) := by omega
      have bt3 : ((i : Int) + 3).toNat = i + 3 := by omega
      have bw3 : IntKind.i64.wrap ((i : Int) + 3) = (i : Int) + 3 := by rw [IntKind.wrap_i64]; omega
      have bl0 : (0 : Int) ≤ (i : Int) := by omega
      have bu0 : (i : Int) < (z.length : Int) := by omega
      go_upto_region 8 with fail
      go_region_held3 (fun w' => w'.cell? (ad.add i) = some (.int .i64 z0) ∧ w'.cell? ⟨ad.block, ad.off + (i + 1), none⟩ = some (.int .i64 z1) ∧ w'.cell? ⟨ad.block, ad.off + (i + 1 + 1), none⟩ = some (.int .i64 z2) ∧ w'.cell? ⟨ad.block, ad.off + (i + 2 + 1), none⟩ = some (.int .i64 z3)) (first | go_keep | exact hkeep2)
        (first
          | (go_at_call 18; refine (HPL.out _ (by first | exact Fr.refl _ _ | exact (Fr.refl _ _).drew)).mono ?_; rintro e w3 ⟨rfl, hf3, hend⟩; have hkeep2 : w3.cell? (ad.add i) = some (.int .i64 z0) ∧ w3.cell? ⟨ad.block, ad.off + (i + 1), none⟩ = some (.int .i64 z1) ∧ w3.cell? ⟨ad.block, ad.off + (i + 1 + 1), none⟩ = some (.int .i64 z2) ∧ w3.cell? ⟨ad.block, ad.off + (i + 2 + 1), none⟩ = some (.int .i64 z3) := HRW.out w3 hf3)
          | fail)
      all_goals
        clear hkeep2
        go_wp2_with fail
        go_roundg (z.length + 8 - (i + 4))
        case measure => omega
        case rel =>
          refine ⟨i + 4, by go_num, rfl, by omega, ?_⟩
          obtain ⟨F', ws', now', sts', p1, p2, p3, p4⟩ := hend
          first
            | exact ⟨F', ws', now', sts', p1, p2, p3, p4⟩
            | exact ⟨F', ws', now', sts', p1.new (Fr.refl New _).drew, p2, p3.drew, p4⟩
    · have hd0 : decide ((i : Int) + 3 < (z.length : Int)) = false := by simp; omega
      obtain ⟨hb, tb, cb, mb, g, vs, vn, vk, un, uk, S, hFt⟩ := hS
      have HGE : Hid (∀ k, Foot sb hb tb cb mb g vs vn vk un uk k → w.heap.size ≤ k) := fun k hk => hF k (hFt k hk)
      have hw := S.hw
      have hLs := S.lens
      have HST1 : Hid (Calls Tryz.prog 25 #[.pointer (some ⟨hb, 0, none⟩)] wr fun e w' => e = .returned vs ∧ Sty sb (1 + q) hb tb cb mb g (.slice none 0 0) vn vk un uk ws now [] w' ∧ Fr (fun k => k = tb) wr w') := (hstores_sty S).mono (by rintro e w' ⟨rfl, h1, h2, _⟩; exact ⟨rfl, h1, h2⟩)
      have HCP : Hid (∀ w1, ThAt w1 vk (things ws) uk → Calls Tryz.prog 29 #[.agg #[vk, .int .i64 (wd ws 3), .int .i64 (wd ws 4), .int .i64 (wd ws 5), .int .i64 (wd ws 6)]] w1 fun e w' => ∃ v' us', e = .returned (.agg #[v', .int .i64 (wd ws 3), .int .i64 (wd ws 4), .int .i64 (wd ws 5), .int .i64 (wd ws 6)]) ∧ ThAt w' v' (things ws) us' ∧ (∀ k, ThB v' us' k → w1.heap.size ≤ k) ∧ Fr New w1 w') := fun w1 ht => kcopied_any vk (things ws) uk _ _ _ _ w1 ht
      have HHW : Hid (HW ws now) := hw
      have HUN : Hid ((∀ z ∈ ws, U z) ∧ ∀ z ∈ now, U z) := ⟨S.ph.uw, S.ph.unow⟩
      have HC0 := S.c0
      have hsw : sb < wr.heap.size := lt_of_block S.blk
      have HWL : Hid (114 ≤ ws.length ∧ ws.length ≤ 362) := by show _ ∧ _; omega
      have HTB : Hid (w.heap.size ≤ tb) := HGE.out tb (.inr (.inr (.inl rfl)))
      have HFW : Hid (Fr New w wr) := hf
      have HNTH : Hid (ThAt wr vk (things ws) uk) := S.tk
      obtain ⟨ak, ck, hvk⟩ := S.tk.slice
      obtain ⟨mk, hmk⟩ : ∃ m, m = (things ws).length := ⟨_, rfl⟩
      rw [← hmk] at hvk
      obtain ⟨an, cn, hvn⟩ := S.tn.slice
      have HMK : Hid (mk = (things ws).length) := hmk
      obtain ⟨y3, k3⟩ : ∃ x, x = wd ws 3 := ⟨_, rfl⟩
      obtain ⟨y4, k4⟩ : ∃ x, x = wd ws 4 := ⟨_, rfl⟩
      obtain ⟨y5, k5⟩ : ∃ x, x = wd ws 5 := ⟨_, rfl⟩
      obtain ⟨y6, k6⟩ : ∃ x, x = wd ws 6 := ⟨_, rfl⟩
      have HY : Hid (y3 = wd ws 3 ∧ y4 = wd ws 4 ∧ y5 = wd ws 5 ∧ y6 = wd ws 6) := ⟨k3, k4, k5, k6⟩
      rw [← k3, ← k4, ← k5, ← k6] at HCP
      rw [hvk] at HCP
      have HIM : Hid (∀ w1, Sty sb (1 + q) hb tb cb mb g (.slice none 0 0) vn vk un uk ws now [] w1 → Calls Tryz.prog 21 #[.pointer (some ⟨hb, 0, none⟩)] w1 fun e w' => e = .returned (.slice (some ⟨w1.heap.size, 0, none⟩) ws.length ws.length) ∧ Row w' w1.heap.size ws ∧ Fr New w1 w') := fun w1 h1 => himage_any hb tb cb mb g _ ws now [] w1 h1.ph
      have HKS : Hid (∀ w1, Sty sb (1 + q) hb tb cb mb g (.slice none 0 0) vn vk un uk ws now [] w1 → w1.cell? ⟨sb, 7, none⟩ = some (.slice ak mk ck) ∧ w1.cell? ⟨sb, 8, none⟩ = some (.int .i64 y3) ∧ w1.cell? ⟨sb, 9, none⟩ = some (.int .i64 y4) ∧ w1.cell? ⟨sb, 10, none⟩ = some (.int .i64 y5) ∧ w1.cell? ⟨sb, 11, none⟩ = some (.int .i64 y6) ∧ ThAt w1 (.slice ak mk ck) (things ws) uk) := fun w1 h1 => by
        have hb' := h1.blk
        have ht := h1.tk
        rw [hvk] at hb' ht
        rw [k3, k4, k5, k6]
        exact ⟨((block_cells hb').1 7).trans rfl, ((block_cells hb').1 8).trans rfl, ((block_cells hb').1 9).trans rfl, ((block_cells hb').1 10).trans rfl, ((block_cells hb').1 11).trans rfl, ht⟩
      have HCM : Hid (∀ w4 w1 vB usB gI gB, Sty sb (1 + q) hb tb cb mb g (.slice none 0 0) vn vk un uk ws now [] w4 → w4.heap.size ≤ gB → (∀ k, Foot sb hb tb cb mb g (.slice none 0 0) vn vk un uk k → k ≠ gI) → Fr New w4 w1 → Row w1 gI ws → w1.heap[gB]? = some (.cells #[vB, .int .i64 y3, .int .i64 y4, .int .i64 y5, .int .i64 y6] 37 (0, 0)) → ThAt w1 vB (things ws) usB → (∀ k, ThB vB usB k → w4.heap.size ≤ k) → Calls Tryz.prog 30 #[.pointer (some ⟨sb, 0, none⟩)] w1 fun e w' => e = .returned (.bool true) ∧ ∃ hb6 tb6 cb6 mb6 g6 vs6 vn6 vk6 un6 uk6 ws6 now6 sts6, Sty sb (1 + q) hb6 tb6 cb6 mb6 g6 vs6 vn6 vk6 un6 uk6 ws6 now6 sts6 w' ∧ CommitR ws now [] ws6 now6 sts6 ∧ Row w' gI ws ∧ w'.heap[gB]? = some (.cells #[vB, .int .i64 y3, .int .i64 y4, .int .i64 y5, .int .i64 y6] 37 (0, 0)) ∧ ThAt w' vB (things ws) usB ∧ Fr (Foot sb hb tb cb mb g (.slice none 0 0) vn vk un uk) w1 w' ∧ (Foot sb hb tb cb mb g (.slice none 0 0) vn vk un uk tb6 ∨ w1.heap.size ≤ tb6)) := fun w4 w1 vB usB gI gB S4 hgB hgI hf hR hB hT hn => by
        refine (kcommit_any (Foot sb hb tb cb mb g (.slice none 0 0) vn vk un uk) sb (1 + q) ws now [] w1 (by simp) ⟨hb, tb, cb, mb, g, _, vn, vk, un, uk, S4.new hf, fun k hk => hk⟩).mono ?_
        rintro e w' ⟨rfl, F6, ws6, now6, sts6, q1, q2, q3, q4⟩
        obtain ⟨hb6, tb6, cb6, mb6, g6, vs6, vn6, vk6, un6, uk6, S6, hF6⟩ := q1
        refine ⟨rfl, hb6, tb6, cb6, mb6, g6, vs6, vn6, vk6, un6, uk6, ws6, now6, sts6, S6, q4, q2.heap hR (fun h => hgI _ h rfl), q2.heap hB (fun h => by have := S4.lt h; omega), hT.fr q2 (fun k hk h => by have := S4.lt h; have := hn k hk; omega), q2, q3 tb6 (hF6 tb6 (.inr (.inr (.inl rfl))))⟩
      subst hvk
      clear hmk k3 k4 k5 k6 hvn hw hLs S hFt hF hst hf
      go_upto_region 18 with (first
        | (go_at_call_of 25 (Value.pointer (some ⟨hb, 0, none⟩)); refine HST1.out.mono ?_; rintro e w3 ⟨rfl, S3, hf3⟩; have c30 := S3.c0; have hsb3 : sb < w3.heap.size := lt_of_block S3.blk)
        | (go_at_call_of 21 (Value.pointer (some ⟨hb, 0, none⟩)); refine (HIM.out w3 S3).mono ?_; rintro e w4 ⟨rfl, hR4, hf4⟩; have S4 := S3.new hf4; obtain ⟨e7, e8, e9, e10, e11, hT4⟩ := HKS.out w4 S4; have hsb4 : sb < w4.heap.size := lt_of_block S4.blk)
        | (go_at_call 29; refine (HCP.out w4 hT4).mono ?_; rintro e w5 ⟨vB, usB, rfl, hT5, hn5, hf5⟩; obtain ⟨aB, cB, hvB⟩ := hT5.slice; rw [← HMK.out] at hvB; subst hvB; have hsb5 : sb < w5.heap.size := Nat.lt_of_lt_of_le hsb4 hf5.size)
        | (go_at_call 30; refine (HCM.out w4 _ _ usB w3.heap.size w5.heap.size S4 hf5.size (fun k hk e => by have := S3.lt hk; omega) (hf5.alloc _) ((hf5.alloc _).heap hR4 id) (Go.Deep.blk_alloc_new w5 _) (hT5.new ((Fr.refl New w5).alloc _)) hn5).mono ?_; rintro e w6 ⟨rfl, hb6, tb6, cb6, mb6, g6, vs6, vn6, vk6, un6, uk6, ws6, now6, sts6, S6, hcr, hR6, hB6, hT6, hq6, htb6⟩; have c60 := S6.c0; have hsb6 : sb < w6.heap.size := lt_of_block S6.blk)
        | (go_at_call_of 25 (Value.pointer (some ⟨hb6, 0, none⟩)); refine (hstores_sty S6).mono ?_; rintro e w7 ⟨rfl, S7, hf7, hO7⟩; have hR7 := hf7.heap hR6 (fun e => type_ne hR6 S6.ph.tg.t.td (by decide) e); have hB7 := hf7.heap hB6 (fun e => type_ne hB6 S6.ph.tg.t.td (by decide) e); have hT7 := hT6.fr hf7 (fun k hk e => by subst e; exact hT6.no S6.ph.tg.t.td (by decide) (by decide) hk); obtain ⟨sa, sc, hvs⟩ := own_slice hO7; subst hvs)
        | fail)
      have HF7 : Hid (Fr New w w7) := by
        have f3 : Fr New w w3 := HFW.out.trans hf3 (fun j hj e => by have := HTB.out; omega)
        have f5 : Fr New w (w5.alloc (.cells #[.slice aB mk cB, .int .i64 y3, .int .i64 y4, .int .i64 y5, .int .i64 y6] 37)) := ((f3.same hf4).same hf5).alloc _
        have hfoot : ∀ k, Foot sb hb tb cb mb g (.slice none 0 0) vn (.slice ak mk ck) un uk k → w.heap.size ≤ k := fun k hk => by
          rcases hk with hk | hk | hk | hk | hk | hk | hk | hk
          · exact HGE.out k (.inl hk)
          · exact HGE.out k (.inr (.inl hk))
          · exact HGE.out k (.inr (.inr (.inl hk)))
          · exact HGE.out k (.inr (.inr (.inr (.inl hk))))
          · exact HGE.out k (.inr (.inr (.inr (.inr (.inl hk)))))
          · exact HGE.out k (.inr (.inr (.inr (.inr (.inr (.inl hk))))))
          · cases hk
          · exact HGE.out k (.inr (.inr (.inr (.inr (.inr (.inr (.inr hk)))))))
        have f6 : Fr New w w6 := f5.trans hq6 (fun j hj h => by have := hfoot j h; omega)
        refine f6.trans hf7 (fun j hj e => ?_)
        rcases htb6 with h | h
        · have := hfoot _ h; omega
        · have := f5.size; omega
      have HSTO : Hid (Stopped ws now ws6 sts6) := stopped HHW.out hcr
      have HSU : Hid (∀ i, U (stq sts6 i).v) := stopped_U HHW.out HUN.out.2 hcr
      have hfew : sts6.length ≤ 151 := HSTO.out.few
      obtain ⟨gI, hgI⟩ : ∃ gI, gI = w3.heap.size := ⟨_, rfl⟩
      obtain ⟨gB, hgB⟩ : ∃ gB, gB = w5.heap.size := ⟨_, rfl⟩
      rw [← hgI] at hR7
      rw [← hgB] at hB7
      rw [← hgI, ← hgB]
      obtain ⟨a6, c6, hvk6⟩ := S7.tk.slice
      obtain ⟨m6, hm6⟩ : ∃ m, m = (things ws6).length := ⟨_, rfl⟩
      rw [← hm6] at hvk6
      subst hvk6
      obtain ⟨z3, j3⟩ : ∃ x, x = wd ws6 3 := ⟨_, rfl⟩
      obtain ⟨z4, j4⟩ : ∃ x, x = wd ws6 4 := ⟨_, rfl⟩
      obtain ⟨z5, j5⟩ : ∃ x, x = wd ws6 5 := ⟨_, rfl⟩
      obtain ⟨z6, j6⟩ : ∃ x, x = wd ws6 6 := ⟨_, rfl⟩
      have HCE : Hid (∀ w1, Fr New w7 w1 → w1.cell? ⟨sb, 0, none⟩ = some (.pointer (some ⟨hb6, 0, none⟩)) ∧ w1.cell? ⟨sb, 7, none⟩ = some (.slice a6 m6 c6) ∧ w1.cell? ⟨sb, 8, none⟩ = some (.int .i64 z3) ∧ w1.cell? ⟨sb, 9, none⟩ = some (.int .i64 z4) ∧ w1.cell? ⟨sb, 10, none⟩ = some (.int .i64 z5) ∧ w1.cell? ⟨sb, 11, none⟩ = some (.int .i64 z6) ∧ w1.cell? ⟨gB, 0, none⟩ = some (.slice aB mk cB) ∧ w1.cell? ⟨gB, 1, none⟩ = some (.int .i64 y3) ∧ w1.cell? ⟨gB, 2, none⟩ = some (.int .i64 y4) ∧ w1.cell? ⟨gB, 3, none⟩ = some (.int .i64 y5) ∧ w1.cell? ⟨gB, 4, none⟩ = some (.int .i64 y6) ∧ sb < w1.heap.size ∧ gB < w1.heap.size) := fun w1 h1 => by
        have hb' := (S7.new h1).blk
        have hB' := h1.heap hB7 id
        rw [j3, j4, j5, j6]
        exact ⟨((block_cells hb').1 0).trans rfl, ((block_cells hb').1 7).trans rfl, ((block_cells hb').1 8).trans rfl, ((block_cells hb').1 9).trans rfl, ((block_cells hb').1 10).trans rfl, ((block_cells hb').1 11).trans rfl, ((block_cells hB').1 0).trans rfl, ((block_cells hB').1 1).trans rfl, ((block_cells hB').1 2).trans rfl, ((block_cells hB').1 3).trans rfl, ((block_cells hB').1 4).trans rfl, lt_of_block hb', lt_of_block hB'⟩
      have HN1 : Hid (pickN pa (sts6.length + 1) ≤ sts6.length) := by have := pickN_lt pa (n := sts6.length + 1) (by omega); show _ ≤ _; omega
      have HPK1 : Hid (∀ w1, Calls Tryz.prog 16 #[.int .i64 pa, .int .i64 ((sts6.length : Int) + 1)] w1 fun e w' => e = .returned (.int .i64 (pickN pa (sts6.length + 1) : Nat)) ∧ w' = w1) := fun w1 => by
        have := pickN_any pa (sts6.length + 1) w1 hpa (by omega) (by omega)
        rwa [show ((sts6.length + 1 : Nat) : Int) = (sts6.length : Int) + 1 by omega] at this
      obtain ⟨n1, hn1⟩ : ∃ n1, n1 = pickN pa (sts6.length + 1) := ⟨_, rfl⟩
      rw [← hn1] at HN1 HPK1
      obtain ⟨im, him⟩ : ∃ im, im = leftW ws sts6 (lastF sts6 n1) (fun i => decide (bits .and .i64 (pb / 2 ^ (i % 60)) 1 = 1)) n1 := ⟨_, rfl⟩
      have himl : im.length = ws.length := by rw [him]; exact leftW_len ..
      have HUI : Hid (∀ z ∈ im, U z) := by rw [him]; exact left_U HUN.out.1 HSU.out n1
      obtain ⟨a, b, oA, _, hcase⟩ := HSTO.out.one n1 (fun i => decide (bits .and .i64 (pb / 2 ^ (i % 60)) 1 = 1)) 0 (fun _ => true) HN1.out (Nat.zero_le _)
      rw [← him] at oA
      have HLF1 : Hid (∀ w1, Fr New w7 w1 → Calls Tryz.prog 31 #[.slice (some ⟨gI, 0, none⟩) ws.length ws.length, .slice sa sts6.length sc, .int .i64 (n1 : Int), .int .i64 pb] w1 fun e w' => ∃ gm cm, e = .returned (.slice (some ⟨gm, 0, none⟩) ws.length cm) ∧ RowU w' (some ⟨gm, 0, none⟩) im ∧ Fr New w1 w') := fun w1 h1 => by
        refine (kleft_any gI ws.length ws _ sts6 0 n1 pb w1 (Row.rowU (h1.heap hR7 id)) (by have := HWL.out; omega) HWL.out.2 (h1.owns hO7 (fun _ _ h => h)) HN1.out (by omega)).mono ?_
        rintro e w' ⟨v, rfl, hO, hf⟩
        rw [← him] at hO
        obtain ⟨gm, cm, rfl, hr⟩ := own_some hO (by rw [himl]; have := HWL.out; omega)
        rw [himl]
        exact ⟨gm, cm, rfl, hr, hf⟩
      have HRP : Hid (∀ gm cm w1, RowU w1 (some ⟨gm, 0, none⟩) im → Calls Tryz.prog 32 #[.slice (some ⟨gm, 0, none⟩) ws.length cm] w1 fun e w' => ∃ r, e = .returned (.tuple #[.slice (some ⟨w1.heap.size, 0, none⟩) ws.length ws.length, .int .i64 0]) ∧ RepairIs im r 0 ∧ r.length = ws.length ∧ Row w' w1.heap.size r ∧ Fr New w1 w') := fun gm cm w1 hr => by
        have := prepair_any (some ⟨gm, 0, none⟩) cm im w1 (by rw [himl]; have := HWL.out; omega) HUI.out hr
        rw [himl] at this
        refine this.mono ?_
        rintro e w' ⟨v, r, c, rfl, hR, hc, hf⟩
        have h0 := (repair_good hR oA).1
        subst h0
        rcases hc with ⟨h, _⟩ | ⟨_, rfl, hrow, hl⟩
        · exact absurd rfl h
        · exact ⟨r, rfl, hR, hl, hrow, hf⟩
      have HCK : Hid (∀ gR r w1, RepairIs im r 0 → r.length = ws.length → Row w1 gR r → Calls Tryz.prog 33 #[.slice (some ⟨gR, 0, none⟩) ws.length ws.length] w1 fun e w' => e = .returned (.tuple #[.int .i64 0, .int .i64 0]) ∧ Fr New w1 w') := fun gR r w1 h1 h2 h3 => by
        have := pcheck_any (some ⟨gR, 0, none⟩) ws.length r w1 (by rw [h2]; have := HWL.out; omega) (Row.rowU h3)
        rw [h2] at this
        refine this.mono ?_
        rintro e w' ⟨c, p, rfl, hc, hf⟩
        obtain ⟨e1, e2⟩ := told_one hc (repair_checks h1)
        subst e1 e2
        exact ⟨rfl, hf⟩
      have HRP2 : Hid (∀ gR r w1, RepairIs im r 0 → r.length = ws.length → Row w1 gR r → Calls Tryz.prog 32 #[.slice (some ⟨gR, 0, none⟩) ws.length ws.length] w1 fun e w' => e = .returned (.tuple #[.slice (some ⟨w1.heap.size, 0, none⟩) ws.length ws.length, .int .i64 0]) ∧ Row w' w1.heap.size r ∧ Fr New w1 w') := fun gR r w1 h1 h2 h3 => by
        have := prepair_any (some ⟨gR, 0, none⟩) ws.length r w1 (by rw [h2]; have := HWL.out; omega) (repair_V h1 HUI.out) (Row.rowU h3)
        rw [h2] at this
        refine this.mono ?_
        rintro e w' ⟨v, r2, f2, rfl, hr, hcase, hf⟩
        obtain ⟨e1, e2⟩ := repair_one hr (repair_again h1)
        subst e1 e2
        rcases hcase with ⟨h, _⟩ | ⟨_, rfl, h6, _⟩
        · exact absurd rfl h
        · exact ⟨rfl, h6, hf⟩
      have HSM : Hid (∀ ga gb r w1, r.length = ws.length → Row w1 ga r → Row w1 gb r → Calls Tryz.prog 28 #[.slice (some ⟨ga, 0, none⟩) ws.length ws.length, .slice (some ⟨gb, 0, none⟩) ws.length ws.length] w1 fun e w' => e = .returned (.bool true) ∧ Fr New w1 w') := fun ga gb r w1 h1 h3 h4 => by
        have := ksame_any (some ⟨ga, 0, none⟩) (some ⟨gb, 0, none⟩) ws.length ws.length r r w1 (by rw [h1]; have := HWL.out; unfold maxLen; omega) (Row.rowU h3) (Row.rowU h4)
        rw [h1] at this
        refine this.mono ?_
        rintro e w' ⟨rfl, n, rfl⟩
        exact ⟨by simp, (Fr.refl New w1).drewN n⟩
      have HOP : Hid (∀ gR r w1, RepairIs im r 0 → r.length = ws.length → Row w1 gR r → Calls Tryz.prog 20 #[.slice (some ⟨gR, 0, none⟩) ws.length ws.length] w1 fun e w' => ∃ hb tb cb mb g vs, e = .returned (.tuple #[.pointer (some ⟨hb, 0, none⟩), .int .i64 0]) ∧ PH hb tb cb mb g vs r r (openSt r) w' ∧ Fr New w1 w') := fun gR r w1 h1 h2 h3 => by
        have oR := opens_self (repair_good h1 oA).2.2
        have := open_kept gR ws.length r r w1 (Row.rowU h3) (repair_V h1 HUI.out) oR.ok oR.open'
        rw [h2] at this
        refine this.mono ?_
        rintro e w' ⟨hb, tb, cb, mb, g, vs, rfl, hp, hq, hf⟩
        exact ⟨hb, tb, cb, mb, g, vs, rfl, hp, hf⟩
      have HRK : Hid (∀ w1, Fr New w7 w1 → Calls Tryz.prog 34 #[.agg #[.slice a6 m6 c6, .int .i64 z3, .int .i64 z4, .int .i64 z5, .int .i64 z6]] w1 fun e w' => ∃ ar mr cr us' out, e = .returned (.agg #[.slice ar mr cr, .int .i64 z3, .int .i64 z4, .int .i64 z5, .int .i64 z6]) ∧ Parted ws6 out ∧ ThAt w' (.slice ar mr cr) (sel (things ws6) out) us' ∧ Fr New w1 w') := fun w1 h1 => by
        rw [j3, j4, j5, j6]
        refine (kreached_any _ ws6 uk6 _ _ _ _ w1 S7.hw.gw (is_root ws6) (S7.new h1).tk).mono ?_
        rintro e w' ⟨v', us', out, rfl, hl, hm, ht, hf⟩
        obtain ⟨ar, cr, rfl⟩ := ht.slice
        exact ⟨ar, _, cr, us', out, rfl, ⟨hl, hm⟩, ht, hf⟩
      have HRB : Hid (∀ w1, Fr New w7 w1 → Calls Tryz.prog 34 #[.agg #[.slice aB mk cB, .int .i64 y3, .int .i64 y4, .int .i64 y5, .int .i64 y6]] w1 fun e w' => ∃ ar mr cr us' out, e = .returned (.agg #[.slice ar mr cr, .int .i64 y3, .int .i64 y4, .int .i64 y5, .int .i64 y6]) ∧ Parted ws out ∧ ThAt w' (.slice ar mr cr) (sel (things ws) out) us' ∧ Fr New w1 w') := fun w1 h1 => by
        obtain ⟨k3, k4, k5, k6⟩ := HY.out
        rw [k3, k4, k5, k6]
        refine (kreached_any _ ws usB _ _ _ _ w1 HHW.out.gw (is_root ws) (hT7.new h1)).mono ?_
        rintro e w' ⟨v', us', out, rfl, hl, hm, ht, hf⟩
        obtain ⟨ar, cr, rfl⟩ := ht.slice
        exact ⟨ar, _, cr, us', out, rfl, ⟨hl, hm⟩, ht, hf⟩
      have HKI : Hid (∀ hb2 tb2 cb2 mb2 g2 vs2 r st2 ar mr cr us' out w1, PH hb2 tb2 cb2 mb2 g2 vs2 r r st2 w1 → RepairIs im r 0 → Parted ws6 out → ThAt w1 (.slice ar mr cr) (sel (things ws6) out) us' → Calls Tryz.prog 19 #[.pointer (some ⟨hb2, 0, none⟩), .agg #[.slice ar mr cr, .int .i64 z3, .int .i64 z4, .int .i64 z5, .int .i64 z6]] w1 fun e w' => ∃ b, e = .returned (.bool b) ∧ (Like a ws6 → b = true) ∧ Fr New w1 w') := fun hb2 tb2 cb2 mb2 g2 vs2 r st2 ar mr cr us' out w1 hp h1 hpt ht => by
        rw [j3, j4, j5, j6]
        refine (kis_any hb2 tb2 cb2 mb2 g2 vs2 r r st2 _ _ us' _ _ _ _ w1 hp ht).mono ?_
        rintro e w' ⟨b, rfl, hb', hf⟩
        exact ⟨b, rfl, fun hlk => hb'.2 (mended_is (repair_good h1 oA).2.1 hlk S7.hw.gw hpt), hf⟩
      have HWI : Hid (∀ hb2 tb2 cb2 mb2 g2 vs2 r st2 ar mr cr us' out w1, PH hb2 tb2 cb2 mb2 g2 vs2 r r st2 w1 → RepairIs im r 0 → Parted ws out → ThAt w1 (.slice ar mr cr) (sel (things ws) out) us' → Calls Tryz.prog 19 #[.pointer (some ⟨hb2, 0, none⟩), .agg #[.slice ar mr cr, .int .i64 y3, .int .i64 y4, .int .i64 y5, .int .i64 y6]] w1 fun e w' => ∃ b, e = .returned (.bool b) ∧ (Like a ws → b = true) ∧ Fr New w1 w') := fun hb2 tb2 cb2 mb2 g2 vs2 r st2 ar mr cr us' out w1 hp h1 hpt ht => by
        obtain ⟨k3, k4, k5, k6⟩ := HY.out
        rw [k3, k4, k5, k6]
        refine (kis_any hb2 tb2 cb2 mb2 g2 vs2 r r st2 _ _ us' _ _ _ _ w1 hp ht).mono ?_
        rintro e w' ⟨b, rfl, hb', hf⟩
        exact ⟨b, rfl, fun hlk => hb'.2 (mended_is (repair_good h1 oA).2.1 hlk HHW.out.gw hpt), hf⟩
      obtain ⟨L, hLd⟩ : ∃ L, L = ws.length := ⟨_, rfl⟩
      rw [← hLd] at HLF1 HRP HCK HRP2 HSM HOP
      rw [← hLd]
      have hN1 := HN1.out
      clear him hn1 j3 j4 j5 j6 hm6 hgI hgB himl hLd oA hcr S3 S4 S6 S7 hR4 hR6 hB6 hT4 hT5 hT6 hR7 hB7 hT7 hO7 hf3 hf4 hf5 hf7 hq6 hn5 htb6 hsb3 hsb4 hsb5 hsb6 c30 c60 e7 e8 e9 e10 e11
      rcases hcase with ⟨hA, _⟩ | ⟨hA, _⟩
      · go_wp2_with (first
          | (go_at_call_of 16 (Value.int .i64 pa); refine calls_same (HPK1.out _) ?_)
          | (go_at_call_of 31 (Value.int .i64 pb); refine (HLF1.out w7 (Fr.refl _ _)).mono ?_; rintro e w8 ⟨gm, cm, rfl, hr8, hf8⟩)
          | (go_at_call_of 32 (Value.slice (some ⟨gm, 0, none⟩) L cm); refine (HRP.out gm cm w8 hr8).mono ?_; rintro e w9 ⟨r, rfl, hR, hRl, hr9, hf9⟩; have hf9' : Fr New w7 w9 := hf8.same hf9)
          | (go_at_call 33; refine (HCK.out w8.heap.size r w9 hR hRl hr9).mono ?_; rintro e w10 ⟨rfl, hf10⟩; have hr10 := hf10.heap hr9 id; have hf10' := hf9'.same hf10)
          | (go_at_call_of 32 (Value.slice (some ⟨w8.heap.size, 0, none⟩) L L); refine (HRP2.out w8.heap.size r w10 hR hRl hr10).mono ?_; rintro e w11 ⟨rfl, hq11, hf11⟩; have hr11 := hf11.heap hr10 id; have hf11' := hf10'.same hf11)
          | (go_at_call 28; refine (HSM.out w10.heap.size w8.heap.size r w11 hRl hq11 hr11).mono ?_; rintro e w12 ⟨rfl, hf12⟩; have hr12 := hf12.heap hr11 id; have hf12' := hf11'.same hf12)
          | (go_at_call 20; refine (HOP.out w8.heap.size r w12 hR hRl hr12).mono ?_; rintro e w13 ⟨hb2, tb2, cb2, mb2, g2, vs2, rfl, hp13, hf13⟩; have hf13' : Fr New w7 w13 := hf12'.same hf13; obtain ⟨u0, u1, u2, u3, u4, u5, u6, u7, u8, u9, u10, u11, u12⟩ := HCE.out w13 hf13')
          | (go_at_call_of 34 (.agg #[.slice a6 m6 c6, .int .i64 z3, .int .i64 z4, .int .i64 z5, .int .i64 z6] : Value); refine (HRK.out w13 hf13').mono ?_; rintro e w14 ⟨ar, mr, cr, us1, out1, rfl, hpt1, ht14, hf14⟩; have hp14 := hp13.new hf14; have hf14' := hf13'.same hf14)
          | (go_at_call_of 19 (.agg #[.slice ar mr cr, .int .i64 z3, .int .i64 z4, .int .i64 z5, .int .i64 z6] : Value); refine (HKI.out hb2 tb2 cb2 mb2 g2 vs2 r _ ar mr cr us1 out1 w14 hp14 hR hpt1 ht14).mono ?_; rintro e w15 ⟨bA, rfl, hbA, hf15⟩; have hp15 := hp14.new hf15; have hf15' := hf14'.same hf15; obtain ⟨v0, v1, v2, v3, v4, v5, v6, v7, v8, v9, v10, v11, v12⟩ := HCE.out w15 hf15'; skip)
          | (go_at_call_of 34 (.agg #[.slice aB mk cB, .int .i64 y3, .int .i64 y4, .int .i64 y5, .int .i64 y6] : Value); refine (HRB.out w15 hf15').mono ?_; rintro e w16 ⟨aS, mS, cS, us2, out2, rfl, hpt2, ht16, hf16⟩; have hp16 := hp15.new hf16; have hf16' := hf15'.same hf16)
          | (go_at_call_of 19 (.agg #[.slice aS mS cS, .int .i64 y3, .int .i64 y4, .int .i64 y5, .int .i64 y6] : Value); refine (HWI.out hb2 tb2 cb2 mb2 g2 vs2 r _ aS mS cS us2 out2 w16 hp16 hR hpt2 ht16).mono ?_; rintro e w17 ⟨bW, rfl, hbW, hf17⟩; have hf17' := hf16'.same hf17; obtain rfl := hbW hA)
          | fail)
        all_goals
          go_ret
          exact ⟨rfl, HF7.out.same hf17'⟩
      · go_wp2_with (first
          | (go_at_call_of 16 (Value.int .i64 pa); refine calls_same (HPK1.out _) ?_)
          | (go_at_call_of 31 (Value.int .i64 pb); refine (HLF1.out w7 (Fr.refl _ _)).mono ?_; rintro e w8 ⟨gm, cm, rfl, hr8, hf8⟩)
          | (go_at_call_of 32 (Value.slice (some ⟨gm, 0, none⟩) L cm); refine (HRP.out gm cm w8 hr8).mono ?_; rintro e w9 ⟨r, rfl, hR, hRl, hr9, hf9⟩; have hf9' : Fr New w7 w9 := hf8.same hf9)
          | (go_at_call 33; refine (HCK.out w8.heap.size r w9 hR hRl hr9).mono ?_; rintro e w10 ⟨rfl, hf10⟩; have hr10 := hf10.heap hr9 id; have hf10' := hf9'.same hf10)
          | (go_at_call_of 32 (Value.slice (some ⟨w8.heap.size, 0, none⟩) L L); refine (HRP2.out w8.heap.size r w10 hR hRl hr10).mono ?_; rintro e w11 ⟨rfl, hq11, hf11⟩; have hr11 := hf11.heap hr10 id; have hf11' := hf10'.same hf11)
          | (go_at_call 28; refine (HSM.out w10.heap.size w8.heap.size r w11 hRl hq11 hr11).mono ?_; rintro e w12 ⟨rfl, hf12⟩; have hr12 := hf12.heap hr11 id; have hf12' := hf11'.same hf12)
          | (go_at_call 20; refine (HOP.out w8.heap.size r w12 hR hRl hr12).mono ?_; rintro e w13 ⟨hb2, tb2, cb2, mb2, g2, vs2, rfl, hp13, hf13⟩; have hf13' : Fr New w7 w13 := hf12'.same hf13; obtain ⟨u0, u1, u2, u3, u4, u5, u6, u7, u8, u9, u10, u11, u12⟩ := HCE.out w13 hf13')
          | (go_at_call_of 34 (.agg #[.slice a6 m6 c6, .int .i64 z3, .int .i64 z4, .int .i64 z5, .int .i64 z6] : Value); refine (HRK.out w13 hf13').mono ?_; rintro e w14 ⟨ar, mr, cr, us1, out1, rfl, hpt1, ht14, hf14⟩; have hp14 := hp13.new hf14; have hf14' := hf13'.same hf14)
          | (go_at_call_of 19 (.agg #[.slice ar mr cr, .int .i64 z3, .int .i64 z4, .int .i64 z5, .int .i64 z6] : Value); refine (HKI.out hb2 tb2 cb2 mb2 g2 vs2 r _ ar mr cr us1 out1 w14 hp14 hR hpt1 ht14).mono ?_; rintro e w15 ⟨bA, rfl, hbA, hf15⟩; have hp15 := hp14.new hf15; have hf15' := hf14'.same hf15; obtain ⟨v0, v1, v2, v3, v4, v5, v6, v7, v8, v9, v10, v11, v12⟩ := HCE.out w15 hf15'; obtain rfl := hbA hA)
          | (go_at_call_of 34 (.agg #[.slice aB mk cB, .int .i64 y3, .int .i64 y4, .int .i64 y5, .int .i64 y6] : Value); refine (HRB.out w15 hf15').mono ?_; rintro e w16 ⟨aS, mS, cS, us2, out2, rfl, hpt2, ht16, hf16⟩; have hp16 := hp15.new hf16; have hf16' := hf15'.same hf16)
          | (go_at_call_of 19 (.agg #[.slice aS mS cS, .int .i64 y3, .int .i64 y4, .int .i64 y5, .int .i64 y6] : Value); refine (HWI.out hb2 tb2 cb2 mb2 g2 vs2 r _ aS mS cS us2 out2 w16 hp16 hR hpt2 ht16).mono ?_; rintro e w17 ⟨bW, rfl, hbW, hf17⟩; have hf17' := hf16'.same hf17; skip)
          | fail)
        all_goals
          go_ret
          exact ⟨rfl, HF7.out.same hf17'⟩
end Go.Proofs.YtbagcjlimdilpaaGreat
