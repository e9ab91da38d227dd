/- The walk of the law Any. -/
import Derived.Test.YtbagcjlimdilpaaGreatKtJ20
import Derived.Test.YtbagcjlimdilpaaGreatKtJ5
import Derived.Test.YtbagcjlimdilpaaGreatKtPgN
import Derived.Deep.RegionHeld3
namespace Go.Proofs.YtbagcjlimdilpaaGreat
open Go.RowKit Go.Maps

theorem blk_add (a : Addr) (i : Nat) : (a.add i).block = a.block := by unfold Addr.add; split <;> rfl
theorem told_zero : ∀ {E : List (Prop × Int × Int)} {p : Int}, Told E 0 p → (∀ y ∈ E, y.2.1 ≠ 0) → p = 0
  | [], _, h, _ => h.2
  | x :: r, p, h, hE => by
    rcases h with ⟨_, h0, _⟩ | ⟨_, h⟩
    · exact absurd h0.symm (hE x (by simp))
    · exact told_zero h (fun y hy => hE y (List.mem_cons_of_mem _ hy))
theorem check_zero {ws : List Int} {c p : Int} (h : CheckIs ws c p) : c = 0 ↔ CheckIs ws 0 0 := by
  constructor
  · intro e
    subst e
    have := told_zero h (codes_ne ws)
    rw [this] at h
    exact h
  · intro h'
    exact (told_one h h').1
/-- what Repair makes are words -/
theorem zeroed_U {a b : List Int} {Z : Nat → Prop} (h : Zeroed a b Z) (hu : ∀ z ∈ a, U z) : ∀ z ∈ b, U z := fun z hz => by
  obtain ⟨i, hi, rfl⟩ := List.getElem_of_mem hz
  have e : b[i] = wd b i := by simp [wd, List.getD, hi]
  rw [e]
  by_cases hZ : Z i
  · rw [h.yes i hZ]; unfold U; omega
  · rw [h.no i hZ]
    have hia : i < a.length := by rw [← h.len]; exact hi
    have e2 : wd a i = a[i] := by simp [wd, List.getD, hia]
    rw [e2]
    exact hu _ (List.getElem_mem hia)
theorem done_U {ws : List Int} (hu : ∀ z ∈ ws, U z) : ∀ k, ∀ z ∈ doneS ws k, U z
  | 0 => hu
  | k + 1 => by
    unfold doneS
    refine set_U (done_U hu k) ?_
    by_cases h : 11 + 2 * k < ws.length
    · have e : wd ws (11 + 2 * k) = ws[11 + 2 * k] := by simp [wd, List.getD, h]
      rw [e]
      exact hu _ (List.getElem_mem h)
    · rw [wd_out (by omega)]; unfold U; omega
theorem repair_U {ws r : List Int} (h : RepairIs ws r 0) (hu : ∀ z ∈ ws, U z) : ∀ z ∈ r, U z := by
  rcases h with ⟨_, h, _⟩ | ⟨_, ⟨_, h, _⟩ | ⟨_, _, w2, w3, z2, z3, rfl⟩⟩
  · cases h
  · cases h
  · refine set_U (zeroed_U z3 (zeroed_U z2 ?_)) (sumL_U _)
    unfold loggedS
    refine set_U ?_ (by unfold U; omega)
    split
    · exact done_U hu _
    · exact hu
theorem Row.wdcell {w : World} {g : Nat} {zs : List Int} (h : Row w g zs) (k : Nat) (hk : k < zs.length) : w.cell? ⟨g, k, none⟩ = some (.int .u64 (wd zs k)) := by
  rw [h.cell k hk]
  simp [wd, List.getD, hk]
/-- raw numbers lie below -/
theorem RawAt.lt {w : World} {a : Option Addr} {z : List Int} (h : RawAt w a z) (i : Nat) (hi : i < z.length) : ∃ x, a = some x ∧ x.block < w.heap.size := by
  obtain ⟨x, e, hc⟩ := h i hi
  have := World.block_lt_of_cell? w _ hc
  rw [blk_add] at this
  exact ⟨x, e, this⟩
/-- words that are spoilt, in a row of their own -/
structure Spoil (w : World) (L gI : Nat) (cur : List Int) (wr : World) : Prop where
  row : Row wr gI cur
  len : cur.length = L
  u : ∀ z ∈ cur, U z
  fr : Fr New w wr
set_option maxHeartbeats 4000000 in
set_option maxRecDepth 100000 in
theorem any_walk (bl : Int) (a0 : Option Addr) (len cap : Nat) (z : List Int) (w : World) (hl : z.length = len) (hm : len ≤ 1048576) (hc : RawAt w a0 z) (hbl : I64 bl) (hz : ∀ i, I64 (z.getD i 0)) (ap0 av0 : Option Addr) (pl va : List Int) (pcap vcap : Nat) (hp : RawAt w ap0 pl) (hv : RawAt w av0 va) (hpi : ∀ i, I64 (pl.getD i 0)) (hvi : ∀ i, I64 (va.getD i 0)) (hpm : pl.length ≤ 1048576) :
    Calls Tryz.prog 11 #[.int .i64 bl, .slice a0 len cap, .slice ap0 pl.length pcap, .slice av0 va.length vcap] w fun e w' => e = .returned (.bool true) ∧ Fr New w w' := by
  subst hl
  have hp32 := pickN_lt bl (n := 32) (by omega)
  have HPB : Hid (∀ w1, Calls Tryz.prog 16 #[.int .i64 bl, .int .i64 32] w1 fun e w' => e = .returned (.int .i64 (pickN bl 32 : Nat)) ∧ w' = w1) := fun w1 => pickN_any bl 32 w1 hbl (by omega) (by omega)
  obtain ⟨q, hq⟩ : ∃ q : Nat, q = pickN bl 32 := ⟨_, rfl⟩
  rw [← hq] at HPB hp32
  have HBG : Hid (Calls Tryz.prog 15 #[.int .i64 (1 + (q : Int))] w fun e w' => ∃ sb F, e = .returned (.tuple #[.pointer (some ⟨sb, 0, none⟩), .bool true]) ∧ Story F sb (1 + q) (imgL (1 + q)) (imgL (1 + q)) [] w' ∧ (∀ k, F k → w.heap.size ≤ k) ∧ Fr New w w') := by
    have := begun_any (1 + q) (by omega) (by omega) w
    rwa [show ((1 + q : Nat) : Int) = 1 + (q : Int) by omega] at this
  have HWK : Hid (∀ w1, Calls Tryz.prog 17 #[] w1 fun e w' => e = .returned (.bool true) ∧ Fr New w1 w') := works_any
  have HZ : Hid (∀ wr, Fr New w wr → RawAt wr a0 z) := fun wr hf => hc.fr hf
  have HI : Hid (∀ i, I64 (z.getD i 0)) := hz
  have HP : Hid (∀ wr, Fr New w wr → RawAt wr ap0 pl) := fun wr hf => hp.fr hf
  have HV : Hid (∀ wr, Fr New w wr → RawAt wr av0 va) := fun wr hf => hv.fr hf
  have HPL : Hid (∀ i, i < pl.length → ∃ x, ap0 = some x ∧ x.block < w.heap.size) := fun i hi => hp.lt i hi
  have HVL : Hid (∀ i, i < va.length → ∃ x, av0 = some x ∧ x.block < w.heap.size) := fun i hi => hv.lt i hi
  have HPI : Hid (∀ i, I64 (pl.getD i 0)) := hpi
  have HVI : Hid (∀ i, I64 (va.getD i 0)) := hvi
  clear hp hv hpi hvi
  clear hc hz hq hbl
  go_enter Tryz.func11, Tryz.ntmps11
  go_wp2_with (first
    | (go_at_call 16; refine calls_same (HPB.out _) ?_)
    | (go_at_call 15; refine HBG.out.mono ?_; rintro e w1 ⟨sb, F1, rfl, hS1, hF1, hf1⟩)
    | (go_at_call 17; refine (HWK.out w1).mono ?_; rintro e w2 ⟨rfl, hf2⟩)
    | fail)
  have HST : Hid (∃ F ws now sts, Story F sb (1 + q) ws now sts w2 ∧ (∀ k, F k → w.heap.size ≤ k) ∧ Fr New w w2 ∧ sts.length ≤ 151 * 0) := ⟨F1, _, _, [], hS1.new hf2, hF1, hf1.same hf2, by simp⟩
  clear hS1 hF1 hf1 hf2
  go_loopg [12] (z.length + 8) (fun gh vi wr => ∃ i : Nat, vi = .int .i64 (i : Int) ∧ gh = z.length + 8 - i ∧ i ≤ z.length + 4 ∧ ∃ F ws now sts, Story F sb (1 + q) ws now sts wr ∧ (∀ k, F k → w.heap.size ≤ k) ∧ Fr New w wr ∧ sts.length ≤ 151 * i)
  case atStart => exact ⟨0, rfl, by omega, by omega, HST.out⟩
  case round =>
    clear HST
    obtain ⟨i, rfl, rfl, hi4, F, ws, now, sts, hS, hF, hf, hst⟩ := hrel
    by_cases hi : i + 3 < z.length
    · have hd0 : decide ((i : Int) + 3 < (z.length : Int)) = true := by simp; omega
      obtain ⟨ad, rfl, r0⟩ := HZ.out wr hf i (by omega)
      obtain ⟨_, e1, r1⟩ := HZ.out wr hf (i + 1) (by omega)
      cases e1
      obtain ⟨_, e2, r2⟩ := HZ.out wr hf (i + 2) (by omega)
      cases e2
      obtain ⟨_, e3, r3⟩ := HZ.out wr hf (i + 3) (by omega)
      cases e3
      obtain ⟨z0, hz0⟩ : ∃ x, x = z.getD i 0 := ⟨_, rfl⟩
      obtain ⟨z1, hz1⟩ : ∃ x, x = z.getD (i + 1) 0 := ⟨_, rfl⟩
      obtain ⟨z2, hz2⟩ : ∃ x, x = z.getD (i + 2) 0 := ⟨_, rfl⟩
      obtain ⟨z3, hz3⟩ : ∃ x, x = z.getD (i + 3) 0 := ⟨_, rfl⟩
      clear r0 r1 r2 r3
      have HPL : Hid (∀ w1, Fr New wr w1 → Calls Tryz.prog 18 #[.pointer (some ⟨sb, 0, none⟩), .int .i64 z0, .int .i64 z1, .int .i64 z2, .int .i64 z3] w1 fun e w' => e = .returned (.bool true) ∧ Fr New w w' ∧ ∃ F ws now sts, Story F sb (1 + q) ws now sts w' ∧ (∀ k, F k → w.heap.size ≤ k) ∧ Fr New w w' ∧ sts.length ≤ 151 * (i + 4)) := fun w1 hf1 => by
        refine (kplay_any F sb (1 + q) ws now sts z0 z1 z2 z3 w1 (by rw [hz0]; exact HI.out _) (by rw [hz1]; exact HI.out _) (by rw [hz2]; exact HI.out _) (by rw [hz3]; exact HI.out _) (by omega) (hS.new hf1)).mono ?_
        rintro e w' ⟨rfl, F', ws', now', sts', p1, p2, p3, p4⟩
        have hfw : Fr New w w' := (hf.same hf1).trans p2 (fun j hj h => by have := hF j h; omega)
        refine ⟨rfl, hfw, F', ws', now', sts', p1, fun k hk => ?_, hfw, by omega⟩
        rcases p3 k hk with h | h
        · exact hF k h
        · have := (hf.same hf1).size; omega
      have HFW : Hid (Fr New w wr) := hf
      have HRW : Hid (∀ w', Fr New w w' → w'.cell? (ad.add i) = some (.int .i64 z0) ∧ w'.cell? ⟨ad.block, ad.off + (i + 1), none⟩ = some (.int .i64 z1) ∧ w'.cell? ⟨ad.block, ad.off + (i + 1 + 1), none⟩ = some (.int .i64 z2) ∧ w'.cell? ⟨ad.block, ad.off + (i + 2 + 1), none⟩ = some (.int .i64 z3)) := fun w' hf' => by
        rw [hz0, hz1, hz2, hz3]
        refine ⟨?_, ?_, ?_, ?_⟩
        · obtain ⟨_, e, r⟩ := HZ.out w' hf' i (by omega); cases e; exact r
        · obtain ⟨_, e, r⟩ := HZ.out w' hf' (i + 1) (by omega); cases e; rw [add_succ] at r; exact r
        · obtain ⟨_, e, r⟩ := HZ.out w' hf' (i + 2) (by omega); cases e; rw [add_succ] at r; exact r
        · obtain ⟨_, e, r⟩ := HZ.out w' hf' (i + 3) (by omega); cases e; rw [add_succ] at r; exact r
      obtain ⟨r0, r1, r2, r3⟩ := HRW.out wr HFW.out
      clear hz0 hz1 hz2 hz3 hS hF hf hst
      have bl1 : (0 : Int) ≤ (i : Int) + 1 := by omega
      have bu1 : (i : Int) + 1 < (z.length : Int) := by omega
      have bt1 : ((i : Int) + 1).toNat = i + 1 := by omega
      have bw1 : IntKind.i64.wrap ((i : Int) + 1) = (i : Int) + 1 := by rw [IntKind.wrap_i64]; omega
      have bl2 : (0 : Int) ≤ (i : Int) + 2 := by omega
      have bu2 : (i : Int) + 2 < (z.length : Int) := by omega
      have bt2 : ((i : Int) + 2).toNat = i + 2 := by omega
      have bw2 : IntKind.i64.wrap ((i : Int) + 2) = (i : Int) + 2 := by rw [IntKind.wrap_i64]; omega
      have bl3 : (0 : Int) ≤ (i : Int) + 3 := by omega
      have bu3 : (i : Int) + 3 < (z.length : Int) := by omega
      have bt3 : ((i : Int) + 3).toNat = i + 3 := by omega
      have bw3 : IntKind.i64.wrap ((i : Int) + 3) = (i : Int) + 3 := by rw [IntKind.wrap_i64]; omega
      have bl0 : (0 : Int) ≤ (i : Int) := by omega
      have bu0 : (i : Int) < (z.length : Int) := by omega
      go_upto_region 8 with fail
      go_region_held3 (fun w' => w'.cell? (ad.add i) = some (.int .i64 z0) ∧ w'.cell? ⟨ad.block, ad.off + (i + 1), none⟩ = some (.int .i64 z1) ∧ w'.cell? ⟨ad.block, ad.off + (i + 1 + 1), none⟩ = some (.int .i64 z2) ∧ w'.cell? ⟨ad.block, ad.off + (i + 2 + 1), none⟩ = some (.int .i64 z3)) (first | go_keep | exact hkeep2)
        (first
          | (go_at_call 18; refine (HPL.out _ (by first | exact Fr.refl _ _ | exact (Fr.refl _ _).drew)).mono ?_; rintro e w3 ⟨rfl, hf3, hend⟩; have hkeep2 : w3.cell? (ad.add i) = some (.int .i64 z0) ∧ w3.cell? ⟨ad.block, ad.off + (i + 1), none⟩ = some (.int .i64 z1) ∧ w3.cell? ⟨ad.block, ad.off + (i + 1 + 1), none⟩ = some (.int .i64 z2) ∧ w3.cell? ⟨ad.block, ad.off + (i + 2 + 1), none⟩ = some (.int .i64 z3) := HRW.out w3 hf3)
          | fail)
      all_goals
        clear hkeep2
        go_wp2_with fail
        go_roundg (z.length + 8 - (i + 4))
        case measure => omega
        case rel =>
          refine ⟨i + 4, by go_num, rfl, by omega, ?_⟩
          obtain ⟨F', ws', now', sts', p1, p2, p3, p4⟩ := hend
          first
            | exact ⟨F', ws', now', sts', p1, p2, p3, p4⟩
            | exact ⟨F', ws', now', sts', p1.new (Fr.refl New _).drew, p2, p3.drew, p4⟩
    · have hd0 : decide ((i : Int) + 3 < (z.length : Int)) = false := by simp; omega
      have HCM : Hid (Calls Tryz.prog 30 #[.pointer (some ⟨sb, 0, none⟩)] wr fun e w' => e = .returned (.bool true) ∧ Fr New w w' ∧ ∃ hb tb cb mb g vs vn vk un uk ws' now' sts', Sty sb (1 + q) hb tb cb mb g vs vn vk un uk ws' now' sts' w') := by
        refine (kcommit_any F sb (1 + q) ws now sts wr (by omega) hS).mono ?_
        rintro e w' ⟨rfl, F', ws', now', sts', q1, q2, q3, q4⟩
        obtain ⟨hb, tb, cb, mb, g, vs, vn, vk, un, uk, S, _⟩ := q1
        exact ⟨rfl, hf.trans q2 (fun j hj h => by have := hF j h; omega), hb, tb, cb, mb, g, vs, vn, vk, un, uk, ws', now', sts', S⟩
      clear hS hF hst
      go_wp2_with (first
        | (go_at_call 30; refine HCM.out.mono ?_; rintro e w3 ⟨rfl, hf3, hb, tb, cb, mb, g, vs, vn, vk, un, uk, ws', now', sts', S⟩; have c30 := S.c0; have HIM : Hid (Calls Tryz.prog 21 #[.pointer (some ⟨hb, 0, none⟩)] w3 fun e w' => e = .returned (.slice (some ⟨w3.heap.size, 0, none⟩) ws'.length ws'.length) ∧ Row w' w3.heap.size ws' ∧ Fr New w3 w') := himage_any hb tb cb mb g vs ws' now' sts' w3 S.ph)
        | (go_at_call 21; refine HIM.out.mono ?_; rintro e w4 ⟨rfl, hR4, hf4⟩)
        | fail)
      have hLL := S.lens
      obtain ⟨gI, hgI⟩ : ∃ gI, gI = w3.heap.size := ⟨_, rfl⟩
      rw [← hgI] at hR4
      rw [← hgI]
      have HSP4 : Hid (Spoil w (106 + 8 * (1 + q)) gI ws' w4) := ⟨hR4, by omega, S.ph.uw, hf3.same hf4⟩
      have HLW : Hid (ws'.length = 106 + 8 * (1 + q)) := by show _ = _; omega
      have HGI : Hid (w.heap.size ≤ gI) := by show w.heap.size ≤ gI; rw [hgI]; exact hf3.size
      have HC1 : Hid (w4.cell? ⟨sb, 1, none⟩ = some (.int .i64 ((1 + q : Nat) : Int))) := (S.new hf4).c1
      have HNE : Hid (sb ≠ gI) := fun e => by have := lt_of_block S.blk; omega
      have hL : ws'.length = 106 + 8 * (1 + q) := HLW.out
      rw [hL]
      obtain ⟨L, hLd⟩ : ∃ L, L = 106 + 8 * (1 + q) := ⟨_, rfl⟩
      rw [← hLd] at HSP4
      rw [← hLd]
      have HLD : Hid (L = 106 + 8 * (1 + q)) := hLd
      have hL362 : L ≤ 362 := by omega
      have hL114 : 114 ≤ L := by omega
      clear hR4 hf3 hf4 S hLL hgI hL hLd hf c30 HIM HLW
      go_loopg [16] (pl.length + 1) (fun gh vi wq => ∃ (i : Nat) (cur : List Int), vi = .int .i64 (i : Int) ∧ gh = pl.length + 1 - i ∧ i ≤ pl.length ∧ Spoil w L gI cur wq ∧ Fr (fun k => k = gI) w4 wq)
      case atStart => exact ⟨0, ws', rfl, by omega, by omega, HSP4.out, Fr.refl _ _⟩
      case round =>
        clear HSP4
        obtain ⟨j, cur, rfl, rfl, hjl, hSP, hfq⟩ := hrel
        have HSP : Hid (Spoil w L gI cur wr) := hSP
        by_cases hj1 : j < pl.length
        · by_cases hj2 : j < va.length
          · obtain ⟨ap, rfl, rp⟩ := HP.out wr hSP.fr j hj1
            obtain ⟨av, rfl, rv⟩ := HV.out wr hSP.fr j hj2
            obtain ⟨pv, hpv⟩ : ∃ x, x = pl.getD j 0 := ⟨_, rfl⟩
            obtain ⟨vv, hvv⟩ : ∃ x, x = va.getD j 0 := ⟨_, rfl⟩
            rw [← hpv] at rp
            rw [← hvv] at rv
            have hkL := pickN_lt pv (n := L) (by omega)
            have HPK : Hid (∀ w1, Calls Tryz.prog 16 #[.int .i64 pv, .int .i64 (L : Int)] w1 fun e w' => e = .returned (.int .i64 (pickN pv L : Nat)) ∧ w' = w1) := fun w1 => pickN_any pv L w1 (by rw [hpv]; exact HPI.out j) (by omega) (by omega)
            have HP4 : Hid (∀ w1, Calls Tryz.prog 16 #[.int .i64 vv, .int .i64 40] w1 fun e w' => e = .returned (.int .i64 (pickN vv 40 : Nat)) ∧ w' = w1) := fun w1 => pickN_any vv 40 w1 (by rw [hvv]; exact HVI.out j) (by omega) (by omega)
            have hv40 := pickN_lt vv (n := 40) (by omega)
            obtain ⟨k, hk⟩ : ∃ k, k = pickN pv L := ⟨_, rfl⟩
            obtain ⟨v4, hv4⟩ : ∃ k, k = pickN vv 40 := ⟨_, rfl⟩
            rw [← hk] at HPK hkL
            rw [← hv4] at HP4 hv40
            have hck : wr.cell? ⟨gI, k, none⟩ = some (.int .u64 (wd cur k)) := hSP.row.wdcell k (by rw [hSP.len]; exact hkL)
            have hcf : wr.frozen? ⟨gI, k, none⟩ = false := hSP.row.free k
            have hgw : gI < wr.heap.size := hSP.row.lt
            have hapl : ap.block < w.heap.size := by
              obtain ⟨x, e, h⟩ := HPL.out j hj1
              cases e
              exact h
            have havl : av.block < w.heap.size := by
              obtain ⟨x, e, h⟩ := HVL.out j hj2
              cases e
              exact h
            have hv4w : IntKind.u64.wrap (v4 : Int) = (v4 : Int) := by rw [IntKind.wrap_u64]; omega
            have HST : Hid (∀ y, U y → Spoil w L gI (cur.set k y) (wr.setCell ⟨gI, k, none⟩ (.int .u64 y)) ∧ Fr (fun k => k = gI) w4 (wr.setCell ⟨gI, k, none⟩ (.int .u64 y))) := fun y hy => by
              refine ⟨⟨hSP.row.set k y, by rw [List.length_set]; exact hSP.len, set_U hSP.u hy, hSP.fr.setCell (fun h => by have := HGI.out; simp only at h; omega) _⟩, hfq.setCell (p := ⟨gI, k, none⟩) (fun _ => rfl) _⟩
            have HST2 : Hid (∀ y y', U y → U y' → Spoil w L gI ((cur.set k y).set k y') ((wr.setCell ⟨gI, k, none⟩ (.int .u64 y)).setCell ⟨gI, k, none⟩ (.int .u64 y')) ∧ Fr (fun k => k = gI) w4 ((wr.setCell ⟨gI, k, none⟩ (.int .u64 y)).setCell ⟨gI, k, none⟩ (.int .u64 y'))) := fun y y' hy hy' => by
              refine ⟨⟨(hSP.row.set k y).set k y', by rw [List.length_set, List.length_set]; exact hSP.len, set_U (set_U hSP.u hy) hy', (hSP.fr.setCell (fun h => by have := HGI.out; simp only at h; omega) _).setCell (fun h => by have := HGI.out; simp only at h; omega) _⟩, (hfq.setCell (p := ⟨gI, k, none⟩) (fun _ => rfl) _).setCell (p := ⟨gI, k, none⟩) (fun _ => rfl) _⟩
            have hne1 : ¬ ap.block = gI := by have := HGI.out; omega
            have hne2 : ¬ av.block = gI := by have := HGI.out; omega
            have rv2 : (wr.setCell ⟨gI, k, none⟩ (.int .u64 (IntKind.u64.wrap vv))).cell? (av.add j) = some (.int .i64 vv) := ((Fr.refl (fun k => k = gI) wr).setCell (p := ⟨gI, k, none⟩) (fun _ => rfl) (.int .u64 (IntKind.u64.wrap vv))).cell rv (by rw [blk_add]; exact hne2)
            clear hpv hvv hk hv4 hSP hfq
            by_cases h3 : vv.tmod 3 = 0
            · have h3b : (vv.tmod 3 == 0) = true := by simpa using h3
              go_wp2_with (first
                | (go_at_call_of 16 (Value.int .i64 40); refine calls_same (HP4.out _) ?_)
                | (go_at_call 16; refine calls_same (HPK.out _) ?_)
                | fail)
              go_roundg (pl.length + 1 - (j + 1))
              case measure => omega
              case rel => exact ⟨j + 1, _, by go_num, rfl, by omega, (HST2.out _ _ (wrapU vv) (by unfold U; omega)).1, (HST2.out _ _ (wrapU vv) (by unfold U; omega)).2⟩
            · have h3b : (vv.tmod 3 == 0) = false := by simpa using h3
              go_wp2_with (first
                | (go_at_call 16; refine calls_same (HPK.out _) ?_)
                | fail)
              go_roundg (pl.length + 1 - (j + 1))
              case measure => omega
              case rel => exact ⟨j + 1, _, by go_num, rfl, by omega, (HST.out _ (wrapU vv)).1, (HST.out _ (wrapU vv)).2⟩
          · have hj2d : decide (j < va.length) = false := by simpa using hj2
            have hj1d : decide (j < pl.length) = true := by simpa using hj1
            have HC1W : wr.cell? ⟨sb, 1, none⟩ = some (.int .i64 ((1 + q : Nat) : Int)) := hfq.cell HC1.out HNE.out
            have r0 : wr.cell? ⟨gI, 0, none⟩ = some (.int .u64 (wd cur 0)) := hSP.row.wdcell 0 (by rw [hSP.len]; omega)
            have r1 : wr.cell? ⟨gI, 1, none⟩ = some (.int .u64 (wd cur 1)) := hSP.row.wdcell 1 (by rw [hSP.len]; omega)
            have r8 : wr.cell? ⟨gI, 8, none⟩ = some (.int .u64 (wd cur 8)) := hSP.row.wdcell 8 (by rw [hSP.len]; omega)
            have hnb : nblk cur.length = 1 + q := by rw [hSP.len, HLD.out]; exact nblk_mk (1 + q) (by omega) (by omega)
            have HFA : Hid (∀ r f, RepairIs cur r f → f ≠ 0 → f = 3 ∧ (¬ (wd cur 0 = 20261114 ∧ wd cur 1 = ((1 + q : Nat) : Int)) ∨ wd cur 8 ≠ 0)) := fun r f h1 h2 => by
              have := repair_fails h1 h2 (by omega)
              rw [hnb] at this
              exact ⟨this.1, this.2.2⟩
            have HPLC : Hid (∀ c p, CheckIs cur c p → 0 ≤ p ∧ p < (L : Int)) := fun c p h => by
              have := check_place h (by omega)
              rw [hSP.len] at this
              exact this
            have HCK : Hid (∀ w1, Fr New wr w1 → Calls Tryz.prog 33 #[.slice (some ⟨gI, 0, none⟩) L L] w1 fun e w' => ∃ c p, e = .returned (.tuple #[.int .i64 c, .int .i64 p]) ∧ CheckIs cur c p ∧ Fr New w1 w') := fun w1 h1 => by
              have := pcheck_any (some ⟨gI, 0, none⟩) L cur w1 (by rw [hSP.len]; omega) (Row.rowU (h1.heap hSP.row id))
              rwa [hSP.len] at this
            have HRP : Hid (∀ w1, Fr New wr w1 → Calls Tryz.prog 32 #[.slice (some ⟨gI, 0, none⟩) L L] w1 fun e w' => ∃ v r f, e = .returned (.tuple #[v, .int .i64 f]) ∧ RepairIs cur r f ∧ ((f ≠ 0 ∧ v = .slice none 0 0 ∧ r = []) ∨ (f = 0 ∧ v = .slice (some ⟨w1.heap.size, 0, none⟩) L L ∧ Row w' w1.heap.size r ∧ r.length = L)) ∧ Fr New w1 w') := fun w1 h1 => by
              have := prepair_any (some ⟨gI, 0, none⟩) L cur w1 (by rw [hSP.len]; omega) hSP.u (Row.rowU (h1.heap hSP.row id))
              rwa [hSP.len] at this
            have HUR : Hid (∀ r, RepairIs cur r 0 → ∀ z ∈ r, U z) := fun r h => repair_U h hSP.u
            have HCK2 : Hid (∀ gR r w1, RepairIs cur r 0 → r.length = L → Row w1 gR r → Calls Tryz.prog 33 #[.slice (some ⟨gR, 0, none⟩) L L] w1 fun e w' => ∃ p, e = .returned (.tuple #[.int .i64 0, .int .i64 p]) ∧ Fr New w1 w') := fun gR r w1 h1 h2 h3 => by
              have := pcheck_any (some ⟨gR, 0, none⟩) L r w1 (by rw [h2]; omega) (Row.rowU h3)
              rw [h2] at this
              refine this.mono ?_
              rintro e w' ⟨c, p, rfl, hc, hf⟩
              rw [(told_one hc (repair_checks h1)).1]
              exact ⟨p, rfl, hf⟩
            have HRP2 : Hid (∀ gR r w1, RepairIs cur r 0 → r.length = L → Row w1 gR r → Calls Tryz.prog 32 #[.slice (some ⟨gR, 0, none⟩) L L] w1 fun e w' => e = .returned (.tuple #[.slice (some ⟨w1.heap.size, 0, none⟩) L L, .int .i64 0]) ∧ Row w' w1.heap.size r ∧ Fr New w1 w') := fun gR r w1 h1 h2 h3 => by
              have := prepair_any (some ⟨gR, 0, none⟩) L r w1 (by rw [h2]; omega) (HUR.out r h1) (Row.rowU h3)
              rw [h2] at this
              refine this.mono ?_
              rintro e w' ⟨v, r2, f2, rfl, hr, hcase, hf⟩
              obtain ⟨e1, e2⟩ := repair_one hr (repair_again h1)
              subst e1 e2
              rcases hcase with ⟨h, _⟩ | ⟨_, rfl, h6, _⟩
              · exact absurd rfl h
              · exact ⟨rfl, h6, hf⟩
            have HSM : Hid (∀ ga gb r s w1, r.length = L → s.length = L → Row w1 ga r → Row w1 gb s → Calls Tryz.prog 28 #[.slice (some ⟨ga, 0, none⟩) L L, .slice (some ⟨gb, 0, none⟩) L L] w1 fun e w' => e = .returned (.bool (decide (r = s))) ∧ Fr New w1 w') := fun ga gb r s w1 h1 h2 h3 h4 => by
              have := ksame_any (some ⟨ga, 0, none⟩) (some ⟨gb, 0, none⟩) L L r s w1 (by rw [h1]; unfold maxLen; omega) (Row.rowU h3) (Row.rowU h4)
              rw [h1, h2] at this
              refine this.mono ?_
              rintro e w' ⟨rfl, n, rfl⟩
              exact ⟨rfl, (Fr.refl New w1).drewN n⟩
            have HIF : Hid (∀ r c p, RepairIs cur r 0 → CheckIs cur c p → decide (r = cur) = (c == 0)) := fun r c p h1 h2 => by
              have h3 := (repair_same h1).trans (check_zero h2).symm
              by_cases hc : c = 0
              · rw [show (c == 0) = true by simpa using hc, decide_eq_true_eq]
                exact h3.2 hc
              · rw [show (c == 0) = false by simpa using hc, decide_eq_false_iff_not]
                exact fun e => hc (h3.1 e)
            have HROW : Hid (∀ w1, Fr New wr w1 → Row w1 gI cur) := fun w1 h1 => h1.heap hSP.row id
            have HCL : Hid (cur.length = L) := hSP.len
            have HFW : Hid (Fr New w wr) := hSP.fr
            have hgw : gI < wr.heap.size := hSP.row.lt
            have hsw : sb < wr.heap.size := World.block_lt_of_cell? wr _ HC1W
            obtain ⟨x0, hx0⟩ : ∃ x, x = wd cur 0 := ⟨_, rfl⟩
            obtain ⟨x1, hx1⟩ : ∃ x, x = wd cur 1 := ⟨_, rfl⟩
            obtain ⟨x8, hx8⟩ : ∃ x, x = wd cur 8 := ⟨_, rfl⟩
            obtain ⟨nn, hnn⟩ : ∃ nn : Nat, nn = 1 + q := ⟨_, rfl⟩
            rw [← hx0] at r0 HFA
            rw [← hx1] at r1 HFA
            rw [← hx8] at r8 HFA
            rw [← hnn] at HC1W HFA
            have hnw : IntKind.u64.wrap (nn : Int) = (nn : Int) := by rw [IntKind.wrap_u64]; omega
            clear hSP hfq hx0 hx1 hx8 hnn hnb
            by_cases k0 : x0 = 20261114
            · have hb0 : (x0 == 20261114) = true := by simpa using k0
              have C0 : Hid (x0 = 20261114) := k0
              clear k0
              by_cases k1 : x1 = (nn : Int)
              · have hb1 : (x1 == (nn : Int)) = true := by simpa using k1
                have C1 : Hid (x1 = (nn : Int)) := k1
                clear k1
                have R8 : Hid (∀ w1, Fr New wr w1 → w1.cell? ⟨gI, 8, none⟩ = some (.int .u64 x8)) := fun w1 h1 => h1.cell r8 id
                go_upto_region 22 with fail
                go_quiet (fail)
                go_wp2_with (first
                  | (go_at_call_of 33 (Value.slice (some ⟨gI, 0, none⟩) L L); refine (HCK.out _ ((Fr.refl _ _).drewN _)).mono ?_; rintro e w6 ⟨c1, p1, rfl, hc1, hf6⟩; have hf6' : Fr New wr w6 := ((Fr.refl _ _).drewN _).same hf6; obtain ⟨hp1, hp2⟩ := HPLC.out c1 p1 hc1; have hpd1 : decide (p1 < 0) = false := (by simp; omega); have hpd2 : decide ((L : Int) ≤ p1) = false := (by simp; omega))
                  | (go_at_call_of 32 (Value.slice (some ⟨gI, 0, none⟩) L L); refine (HRP.out w6 hf6').mono ?_; rintro e w7 ⟨v7, r7, f7, rfl, hr7, hcs7, hf7⟩; have hf7' := hf6'.same hf7; have q8 := R8.out w7 hf7'; rcases hcs7 with ⟨hne7, rfl, rfl⟩ | ⟨rfl, rfl, hR7, hl7⟩; obtain ⟨hf3, hor⟩ := HFA.out _ _ hr7 hne7; subst hf3; have hx8n : (x8 != 0) = true := (by have hxx : x8 ≠ 0 := (hor.resolve_left (fun h => h ⟨C0.out, C1.out⟩)); simpa using hxx); skip)
                  | (go_at_call 33; refine (HCK2.out _ r7 w7 hr7 hl7 hR7).mono ?_; rintro e w8 ⟨p8, rfl, hf8⟩; have hR8 := hf8.heap hR7 id)
                  | (go_at_call 32; refine (HRP2.out _ r7 w8 hr7 hl7 hR8).mono ?_; rintro e w9 ⟨rfl, hR9, hf9⟩; have hR9' := hf9.heap hR8 id; have hf9' := (hf7'.same hf8).same hf9)
                  | (go_at_call_of 28 (Value.slice (some ⟨gI, 0, none⟩) L L); refine (HSM.out _ _ r7 cur w10 hl7 HCL.out hR10 (HROW.out w10 hf10')).mono ?_; rintro e w11 ⟨rfl, hf11⟩; rw [HIF.out r7 c1 p1 hr7 hc1])
                  | (go_at_call 28; refine (HSM.out _ _ r7 r7 w9 hl7 hl7 hR9 hR9').mono ?_; rintro e w10 ⟨rfl, hf10⟩; have hR10 := hf10.heap hR9' id; have hf10' := hf9'.same hf10)
                  | fail)
                · go_ret
                  exact ⟨rfl, HFW.out.same hf7'⟩
                · go_ret
                  exact ⟨rfl, HFW.out.same (hf10'.same hf11)⟩
              · have hb1 : (x1 == (nn : Int)) = false := by simpa using k1
                have R8 : Hid (∀ w1, Fr New wr w1 → w1.cell? ⟨gI, 8, none⟩ = some (.int .u64 x8)) := fun w1 h1 => h1.cell r8 id
                go_upto_region 22 with fail
                go_quiet (fail)
                go_wp2_with (first
                  | (go_at_call_of 33 (Value.slice (some ⟨gI, 0, none⟩) L L); refine (HCK.out _ ((Fr.refl _ _).drewN _)).mono ?_; rintro e w6 ⟨c1, p1, rfl, hc1, hf6⟩; have hf6' : Fr New wr w6 := ((Fr.refl _ _).drewN _).same hf6; obtain ⟨hp1, hp2⟩ := HPLC.out c1 p1 hc1; have hpd1 : decide (p1 < 0) = false := (by simp; omega); have hpd2 : decide ((L : Int) ≤ p1) = false := (by simp; omega))
                  | (go_at_call_of 32 (Value.slice (some ⟨gI, 0, none⟩) L L); refine (HRP.out w6 hf6').mono ?_; rintro e w7 ⟨v7, r7, f7, rfl, hr7, hcs7, hf7⟩; have hf7' := hf6'.same hf7; have q8 := R8.out w7 hf7'; rcases hcs7 with ⟨hne7, rfl, rfl⟩ | ⟨rfl, rfl, hR7, hl7⟩; obtain ⟨hf3, hor⟩ := HFA.out _ _ hr7 hne7; subst hf3;  skip)
                  | (go_at_call 33; refine (HCK2.out _ r7 w7 hr7 hl7 hR7).mono ?_; rintro e w8 ⟨p8, rfl, hf8⟩; have hR8 := hf8.heap hR7 id)
                  | (go_at_call 32; refine (HRP2.out _ r7 w8 hr7 hl7 hR8).mono ?_; rintro e w9 ⟨rfl, hR9, hf9⟩; have hR9' := hf9.heap hR8 id; have hf9' := (hf7'.same hf8).same hf9)
                  | (go_at_call_of 28 (Value.slice (some ⟨gI, 0, none⟩) L L); refine (HSM.out _ _ r7 cur w10 hl7 HCL.out hR10 (HROW.out w10 hf10')).mono ?_; rintro e w11 ⟨rfl, hf11⟩; rw [HIF.out r7 c1 p1 hr7 hc1])
                  | (go_at_call 28; refine (HSM.out _ _ r7 r7 w9 hl7 hl7 hR9 hR9').mono ?_; rintro e w10 ⟨rfl, hf10⟩; have hR10 := hf10.heap hR9' id; have hf10' := hf9'.same hf10)
                  | fail)
                · go_ret
                  exact ⟨rfl, HFW.out.same hf7'⟩
                · go_ret
                  exact ⟨rfl, HFW.out.same (hf10'.same hf11)⟩
            · have hb0 : (x0 == 20261114) = false := by simpa using k0
              have R8 : Hid (∀ w1, Fr New wr w1 → w1.cell? ⟨gI, 8, none⟩ = some (.int .u64 x8)) := fun w1 h1 => h1.cell r8 id
              go_upto_region 22 with fail
              go_quiet (fail)
              go_wp2_with (first
                | (go_at_call_of 33 (Value.slice (some ⟨gI, 0, none⟩) L L); refine (HCK.out _ ((Fr.refl _ _).drewN _)).mono ?_; rintro e w6 ⟨c1, p1, rfl, hc1, hf6⟩; have hf6' : Fr New wr w6 := ((Fr.refl _ _).drewN _).same hf6; obtain ⟨hp1, hp2⟩ := HPLC.out c1 p1 hc1; have hpd1 : decide (p1 < 0) = false := (by simp; omega); have hpd2 : decide ((L : Int) ≤ p1) = false := (by simp; omega))
                | (go_at_call_of 32 (Value.slice (some ⟨gI, 0, none⟩) L L); refine (HRP.out w6 hf6').mono ?_; rintro e w7 ⟨v7, r7, f7, rfl, hr7, hcs7, hf7⟩; have hf7' := hf6'.same hf7; have q8 := R8.out w7 hf7'; rcases hcs7 with ⟨hne7, rfl, rfl⟩ | ⟨rfl, rfl, hR7, hl7⟩; obtain ⟨hf3, hor⟩ := HFA.out _ _ hr7 hne7; subst hf3;  skip)
                | (go_at_call 33; refine (HCK2.out _ r7 w7 hr7 hl7 hR7).mono ?_; rintro e w8 ⟨p8, rfl, hf8⟩; have hR8 := hf8.heap hR7 id)
                | (go_at_call 32; refine (HRP2.out _ r7 w8 hr7 hl7 hR8).mono ?_; rintro e w9 ⟨rfl, hR9, hf9⟩; have hR9' := hf9.heap hR8 id; have hf9' := (hf7'.same hf8).same hf9)
                | (go_at_call_of 28 (Value.slice (some ⟨gI, 0, none⟩) L L); refine (HSM.out _ _ r7 cur w10 hl7 HCL.out hR10 (HROW.out w10 hf10')).mono ?_; rintro e w11 ⟨rfl, hf11⟩; rw [HIF.out r7 c1 p1 hr7 hc1])
                | (go_at_call 28; refine (HSM.out _ _ r7 r7 w9 hl7 hl7 hR9 hR9').mono ?_; rintro e w10 ⟨rfl, hf10⟩; have hR10 := hf10.heap hR9' id; have hf10' := hf9'.same hf10)
                | fail)
              · go_ret
                exact ⟨rfl, HFW.out.same hf7'⟩
              · go_ret
                exact ⟨rfl, HFW.out.same (hf10'.same hf11)⟩
        · have hj1d : decide (j < pl.length) = false := by simpa using hj1
          have HC1W : wr.cell? ⟨sb, 1, none⟩ = some (.int .i64 ((1 + q : Nat) : Int)) := hfq.cell HC1.out HNE.out
          have r0 : wr.cell? ⟨gI, 0, none⟩ = some (.int .u64 (wd cur 0)) := hSP.row.wdcell 0 (by rw [hSP.len]; omega)
          have r1 : wr.cell? ⟨gI, 1, none⟩ = some (.int .u64 (wd cur 1)) := hSP.row.wdcell 1 (by rw [hSP.len]; omega)
          have r8 : wr.cell? ⟨gI, 8, none⟩ = some (.int .u64 (wd cur 8)) := hSP.row.wdcell 8 (by rw [hSP.len]; omega)
          have hnb : nblk cur.length = 1 + q := by rw [hSP.len, HLD.out]; exact nblk_mk (1 + q) (by omega) (by omega)
          have HFA : Hid (∀ r f, RepairIs cur r f → f ≠ 0 → f = 3 ∧ (¬ (wd cur 0 = 20261114 ∧ wd cur 1 = ((1 + q : Nat) : Int)) ∨ wd cur 8 ≠ 0)) := fun r f h1 h2 => by
            have := repair_fails h1 h2 (by omega)
            rw [hnb] at this
            exact ⟨this.1, this.2.2⟩
          have HPLC : Hid (∀ c p, CheckIs cur c p → 0 ≤ p ∧ p < (L : Int)) := fun c p h => by
            have := check_place h (by omega)
            rw [hSP.len] at this
            exact this
          have HCK : Hid (∀ w1, Fr New wr w1 → Calls Tryz.prog 33 #[.slice (some ⟨gI, 0, none⟩) L L] w1 fun e w' => ∃ c p, e = .returned (.tuple #[.int .i64 c, .int .i64 p]) ∧ CheckIs cur c p ∧ Fr New w1 w') := fun w1 h1 => by
            have := pcheck_any (some ⟨gI, 0, none⟩) L cur w1 (by rw [hSP.len]; omega) (Row.rowU (h1.heap hSP.row id))
            rwa [hSP.len] at this
          have HRP : Hid (∀ w1, Fr New wr w1 → Calls Tryz.prog 32 #[.slice (some ⟨gI, 0, none⟩) L L] w1 fun e w' => ∃ v r f, e = .returned (.tuple #[v, .int .i64 f]) ∧ RepairIs cur r f ∧ ((f ≠ 0 ∧ v = .slice none 0 0 ∧ r = []) ∨ (f = 0 ∧ v = .slice (some ⟨w1.heap.size, 0, none⟩) L L ∧ Row w' w1.heap.size r ∧ r.length = L)) ∧ Fr New w1 w') := fun w1 h1 => by
            have := prepair_any (some ⟨gI, 0, none⟩) L cur w1 (by rw [hSP.len]; omega) hSP.u (Row.rowU (h1.heap hSP.row id))
            rwa [hSP.len] at this
          have HUR : Hid (∀ r, RepairIs cur r 0 → ∀ z ∈ r, U z) := fun r h => repair_U h hSP.u
          have HCK2 : Hid (∀ gR r w1, RepairIs cur r 0 → r.length = L → Row w1 gR r → Calls Tryz.prog 33 #[.slice (some ⟨gR, 0, none⟩) L L] w1 fun e w' => ∃ p, e = .returned (.tuple #[.int .i64 0, .int .i64 p]) ∧ Fr New w1 w') := fun gR r w1 h1 h2 h3 => by
            have := pcheck_any (some ⟨gR, 0, none⟩) L r w1 (by rw [h2]; omega) (Row.rowU h3)
            rw [h2] at this
            refine this.mono ?_
            rintro e w' ⟨c, p, rfl, hc, hf⟩
            rw [(told_one hc (repair_checks h1)).1]
            exact ⟨p, rfl, hf⟩
          have HRP2 : Hid (∀ gR r w1, RepairIs cur r 0 → r.length = L → Row w1 gR r → Calls Tryz.prog 32 #[.slice (some ⟨gR, 0, none⟩) L L] w1 fun e w' => e = .returned (.tuple #[.slice (some ⟨w1.heap.size, 0, none⟩) L L, .int .i64 0]) ∧ Row w' w1.heap.size r ∧ Fr New w1 w') := fun gR r w1 h1 h2 h3 => by
            have := prepair_any (some ⟨gR, 0, none⟩) L r w1 (by rw [h2]; omega) (HUR.out r h1) (Row.rowU h3)
            rw [h2] at this
            refine this.mono ?_
            rintro e w' ⟨v, r2, f2, rfl, hr, hcase, hf⟩
            obtain ⟨e1, e2⟩ := repair_one hr (repair_again h1)
            subst e1 e2
            rcases hcase with ⟨h, _⟩ | ⟨_, rfl, h6, _⟩
            · exact absurd rfl h
            · exact ⟨rfl, h6, hf⟩
          have HSM : Hid (∀ ga gb r s w1, r.length = L → s.length = L → Row w1 ga r → Row w1 gb s → Calls Tryz.prog 28 #[.slice (some ⟨ga, 0, none⟩) L L, .slice (some ⟨gb, 0, none⟩) L L] w1 fun e w' => e = .returned (.bool (decide (r = s))) ∧ Fr New w1 w') := fun ga gb r s w1 h1 h2 h3 h4 => by
            have := ksame_any (some ⟨ga, 0, none⟩) (some ⟨gb, 0, none⟩) L L r s w1 (by rw [h1]; unfold maxLen; omega) (Row.rowU h3) (Row.rowU h4)
            rw [h1, h2] at this
            refine this.mono ?_
            rintro e w' ⟨rfl, n, rfl⟩
            exact ⟨rfl, (Fr.refl New w1).drewN n⟩
          have HIF : Hid (∀ r c p, RepairIs cur r 0 → CheckIs cur c p → decide (r = cur) = (c == 0)) := fun r c p h1 h2 => by
            have h3 := (repair_same h1).trans (check_zero h2).symm
            by_cases hc : c = 0
            · rw [show (c == 0) = true by simpa using hc, decide_eq_true_eq]
              exact h3.2 hc
            · rw [show (c == 0) = false by simpa using hc, decide_eq_false_iff_not]
              exact fun e => hc (h3.1 e)
          have HROW : Hid (∀ w1, Fr New wr w1 → Row w1 gI cur) := fun w1 h1 => h1.heap hSP.row id
          have HCL : Hid (cur.length = L) := hSP.len
          have HFW : Hid (Fr New w wr) := hSP.fr
          have hgw : gI < wr.heap.size := hSP.row.lt
          have hsw : sb < wr.heap.size := World.block_lt_of_cell? wr _ HC1W
          obtain ⟨x0, hx0⟩ : ∃ x, x = wd cur 0 := ⟨_, rfl⟩
          obtain ⟨x1, hx1⟩ : ∃ x, x = wd cur 1 := ⟨_, rfl⟩
          obtain ⟨x8, hx8⟩ : ∃ x, x = wd cur 8 := ⟨_, rfl⟩
          obtain ⟨nn, hnn⟩ : ∃ nn : Nat, nn = 1 + q := ⟨_, rfl⟩
          rw [← hx0] at r0 HFA
          rw [← hx1] at r1 HFA
          rw [← hx8] at r8 HFA
          rw [← hnn] at HC1W HFA
          have hnw : IntKind.u64.wrap (nn : Int) = (nn : Int) := by rw [IntKind.wrap_u64]; omega
          clear hSP hfq hx0 hx1 hx8 hnn hnb
          by_cases k0 : x0 = 20261114
          · have hb0 : (x0 == 20261114) = true := by simpa using k0
            have C0 : Hid (x0 = 20261114) := k0
            clear k0
            by_cases k1 : x1 = (nn : Int)
            · have hb1 : (x1 == (nn : Int)) = true := by simpa using k1
              have C1 : Hid (x1 = (nn : Int)) := k1
              clear k1
              have R8 : Hid (∀ w1, Fr New wr w1 → w1.cell? ⟨gI, 8, none⟩ = some (.int .u64 x8)) := fun w1 h1 => h1.cell r8 id
              go_upto_region 22 with fail
              go_quiet (fail)
              go_wp2_with (first
                | (go_at_call_of 33 (Value.slice (some ⟨gI, 0, none⟩) L L); refine (HCK.out _ ((Fr.refl _ _).drewN _)).mono ?_; rintro e w6 ⟨c1, p1, rfl, hc1, hf6⟩; have hf6' : Fr New wr w6 := ((Fr.refl _ _).drewN _).same hf6; obtain ⟨hp1, hp2⟩ := HPLC.out c1 p1 hc1; have hpd1 : decide (p1 < 0) = false := (by simp; omega); have hpd2 : decide ((L : Int) ≤ p1) = false := (by simp; omega))
                | (go_at_call_of 32 (Value.slice (some ⟨gI, 0, none⟩) L L); refine (HRP.out w6 hf6').mono ?_; rintro e w7 ⟨v7, r7, f7, rfl, hr7, hcs7, hf7⟩; have hf7' := hf6'.same hf7; have q8 := R8.out w7 hf7'; rcases hcs7 with ⟨hne7, rfl, rfl⟩ | ⟨rfl, rfl, hR7, hl7⟩; obtain ⟨hf3, hor⟩ := HFA.out _ _ hr7 hne7; subst hf3; have hx8n : (x8 != 0) = true := (by have hxx : x8 ≠ 0 := (hor.resolve_left (fun h => h ⟨C0.out, C1.out⟩)); simpa using hxx); skip)
                | (go_at_call 33; refine (HCK2.out _ r7 w7 hr7 hl7 hR7).mono ?_; rintro e w8 ⟨p8, rfl, hf8⟩; have hR8 := hf8.heap hR7 id)
                | (go_at_call 32; refine (HRP2.out _ r7 w8 hr7 hl7 hR8).mono ?_; rintro e w9 ⟨rfl, hR9, hf9⟩; have hR9' := hf9.heap hR8 id; have hf9' := (hf7'.same hf8).same hf9)
                | (go_at_call_of 28 (Value.slice (some ⟨gI, 0, none⟩) L L); refine (HSM.out _ _ r7 cur w10 hl7 HCL.out hR10 (HROW.out w10 hf10')).mono ?_; rintro e w11 ⟨rfl, hf11⟩; rw [HIF.out r7 c1 p1 hr7 hc1])
                | (go_at_call 28; refine (HSM.out _ _ r7 r7 w9 hl7 hl7 hR9 hR9').mono ?_; rintro e w10 ⟨rfl, hf10⟩; have hR10 := hf10.heap hR9' id; have hf10' := hf9'.same hf10)
                | fail)
              · go_ret
                exact ⟨rfl, HFW.out.same hf7'⟩
              · go_ret
                exact ⟨rfl, HFW.out.same (hf10'.same hf11)⟩
            · have hb1 : (x1 == (nn : Int)) = false := by simpa using k1
              have R8 : Hid (∀ w1, Fr New wr w1 → w1.cell? ⟨gI, 8, none⟩ = some (.int .u64 x8)) := fun w1 h1 => h1.cell r8 id
              go_upto_region 22 with fail
              go_quiet (fail)
              go_wp2_with (first
                | (go_at_call_of 33 (Value.slice (some ⟨gI, 0, none⟩) L L); refine (HCK.out _ ((Fr.refl _ _).drewN _)).mono ?_; rintro e w6 ⟨c1, p1, rfl, hc1, hf6⟩; have hf6' : Fr New wr w6 := ((Fr.refl _ _).drewN _).same hf6; obtain ⟨hp1, hp2⟩ := HPLC.out c1 p1 hc1; have hpd1 : decide (p1 < 0) = false := (by simp; omega); have hpd2 : decide ((L : Int) ≤ p1) = false := (by simp; omega))
                | (go_at_call_of 32 (Value.slice (some ⟨gI, 0, none⟩) L L); refine (HRP.out w6 hf6').mono ?_; rintro e w7 ⟨v7, r7, f7, rfl, hr7, hcs7, hf7⟩; have hf7' := hf6'.same hf7; have q8 := R8.out w7 hf7'; rcases hcs7 with ⟨hne7, rfl, rfl⟩ | ⟨rfl, rfl, hR7, hl7⟩; obtain ⟨hf3, hor⟩ := HFA.out _ _ hr7 hne7; subst hf3;  skip)
                | (go_at_call 33; refine (HCK2.out _ r7 w7 hr7 hl7 hR7).mono ?_; rintro e w8 ⟨p8, rfl, hf8⟩; have hR8 := hf8.heap hR7 id)
                | (go_at_call 32; refine (HRP2.out _ r7 w8 hr7 hl7 hR8).mono ?_; rintro e w9 ⟨rfl, hR9, hf9⟩; have hR9' := hf9.heap hR8 id; have hf9' := (hf7'.same hf8).same hf9)
                | (go_at_call_of 28 (Value.slice (some ⟨gI, 0, none⟩) L L); refine (HSM.out _ _ r7 cur w10 hl7 HCL.out hR10 (HROW.out w10 hf10')).mono ?_; rintro e w11 ⟨rfl, hf11⟩; rw [HIF.out r7 c1 p1 hr7 hc1])
                | (go_at_call 28; refine (HSM.out _ _ r7 r7 w9 hl7 hl7 hR9 hR9').mono ?_; rintro e w10 ⟨rfl, hf10⟩; have hR10 := hf10.heap hR9' id; have hf10' := hf9'.same hf10)
                | fail)
              · go_ret
                exact ⟨rfl, HFW.out.same hf7'⟩
              · go_ret
                exact ⟨rfl, HFW.out.same (hf10'.same hf11)⟩
          · have hb0 : (x0 == 20261114) = false := by simpa using k0
            have R8 : Hid (∀ w1, Fr New wr w1 → w1.cell? ⟨gI, 8, none⟩ = some (.int .u64 x8)) := fun w1 h1 => h1.cell r8 id
            go_upto_region 22 with fail
            go_quiet (fail)
            go_wp2_with (first
              | (go_at_call_of 33 (Value.slice (some ⟨gI, 0, none⟩) L L); refine (HCK.out _ ((Fr.refl _ _).drewN _)).mono ?_; rintro e w6 ⟨c1, p1, rfl, hc1, hf6⟩; have hf6' : Fr New wr w6 := ((Fr.refl _ _).drewN _).same hf6; obtain ⟨hp1, hp2⟩ := HPLC.out c1 p1 hc1; have hpd1 : decide (p1 < 0) = false := (by simp; omega); have hpd2 : decide ((L : Int) ≤ p1) = false := (by simp; omega))
              | (go_at_call_of 32 (Value.slice (some ⟨gI, 0, none⟩) L L); refine (HRP.out w6 hf6').mono ?_; rintro e w7 ⟨v7, r7, f7, rfl, hr7, hcs7, hf7⟩; have hf7' := hf6'.same hf7; have q8 := R8.out w7 hf7'; rcases hcs7 with ⟨hne7, rfl, rfl⟩ | ⟨rfl, rfl, hR7, hl7⟩; obtain ⟨hf3, hor⟩ := HFA.out _ _ hr7 hne7; subst hf3;  skip)
              | (go_at_call 33; refine (HCK2.out _ r7 w7 hr7 hl7 hR7).mono ?_; rintro e w8 ⟨p8, rfl, hf8⟩; have hR8 := hf8.heap hR7 id)
              | (go_at_call 32; refine (HRP2.out _ r7 w8 hr7 hl7 hR8).mono ?_; rintro e w9 ⟨rfl, hR9, hf9⟩; have hR9' := hf9.heap hR8 id; have hf9' := (hf7'.same hf8).same hf9)
              | (go_at_call_of 28 (Value.slice (some ⟨gI, 0, none⟩) L L); refine (HSM.out _ _ r7 cur w10 hl7 HCL.out hR10 (HROW.out w10 hf10')).mono ?_; rintro e w11 ⟨rfl, hf11⟩; rw [HIF.out r7 c1 p1 hr7 hc1])
              | (go_at_call 28; refine (HSM.out _ _ r7 r7 w9 hl7 hl7 hR9 hR9').mono ?_; rintro e w10 ⟨rfl, hf10⟩; have hR10 := hf10.heap hR9' id; have hf10' := hf9'.same hf10)
              | fail)
            · go_ret
              exact ⟨rfl, HFW.out.same hf7'⟩
            · go_ret
              exact ⟨rfl, HFW.out.same (hf10'.same hf11)⟩
end Go.Proofs.YtbagcjlimdilpaaGreat
