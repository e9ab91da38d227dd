/- The walk of the program's Repair: it meets the document's mathematics. -/
import Derived.Test.YtbagcjlimdilpaaGreatKtPgK
import Derived.Test.YtbagcjlimdilpaaGreatKtRefH
import Derived.Deep.CutRange
namespace Go.Proofs.YtbagcjlimdilpaaGreat
open Go.RowKit

theorem head_not {ws : List Int} {n : Nat} (hn : nblk ws.length = n) : ((headS (loggedS ws) n).2 = true ∧ (headS (loggedS ws) n).1 ≠ 7) ↔ ¬ headOk ws := by
  unfold headS headOk
  rw [hn]
  by_cases h0 : wd (loggedS ws) 0 = 20261114
  · rw [if_neg (by simpa using h0)]
    by_cases h1 : wd (loggedS ws) 1 = n
    · rw [if_neg (by simpa using h1)]
      split <;> simp [h0, h1]
    · rw [if_pos h1]; simp [h1]
  · rw [if_pos h0]; simp [h0]
theorem bad_take {l : List Nat} {i : Nat} (hi : i < l.length) {b : Nat} (hb : l[i] = 106 + 8 * b) (q : Nat) : ((q ∈ l.take i) ∨ leakZ1 ⟨b, 1, 0⟩ 1 q) ↔ q ∈ l.take (i + 1) := by
  rw [List.take_succ_eq_append_getElem hi, List.mem_append, List.mem_singleton, hb]
  refine or_congr Iff.rfl ?_
  unfold leakZ1
  constructor
  · rintro ⟨b', h1, h2⟩
    obtain rfl : b' = 0 := by omega
    simpa using h2
  · intro h
    exact ⟨0, by omega, by simpa using h⟩
theorem LiesB.at {w : World} {a : Option Addr} {n c : Nat} {l : List Nat} (h : LiesB w (.slice a n c) l) (i : Nat) (hi : i < l.length) :
    ∃ g, a = some ⟨g, 0, none⟩ ∧ w.cell? ⟨g, i * 4, none⟩ = some (.int .i64 2) ∧ w.cell? ⟨g, i * 4 + 1, none⟩ = some (.int .i64 (((l[i] - 106) / 8 + 1 : Nat) : Int)) ∧ w.cell? ⟨g, i * 4 + 2, none⟩ = some (.int .i64 1) ∧ w.cell? ⟨g, i * 4 + 3, none⟩ = some (.int .i64 0) := by
  obtain ⟨a', c', e, hc⟩ := h
  cases e
  obtain ⟨g, e, hcc⟩ := hc (by omega)
  exact ⟨g, e, hcc i hi⟩

theorem head_index (x0 x1 x2 x3 x4 x5 x6 x7 : Int) (w : World) : (Instr.index 126 (.agg #[.int .u64 x0, .int .u64 x1, .int .u64 x2, .int .u64 x3, .int .u64 x4, .int .u64 x5, .int .u64 x6, .int .u64 x7]) (.int .i64 7)).run Tryz.prog w = .ok (.int .u64 x7) w := by kernel_rfl
/-- what is behind the log -/
theorem logged_step {ws : List Int} : ((if (asksS ws).2 then doneS ws (asksS ws).1 else ws).set 8 0) = loggedS ws := rfl

set_option maxHeartbeats 4000000 in
set_option maxRecDepth 100000 in
theorem soundRepair_any {w : World} {g c : Nat} {ws : List Int} (W : World) (M : Mem2 w g c ws.length ws W) (hU : ∀ z ∈ ws, U z) (hn : nblk ws.length ≠ 0) :
    Calls Tryz.prog 61 #[rowV (some ⟨g, 0, none⟩) ws.length c] W fun e w' => ∃ (cd : Int) (r r' : List Int), e = .returned (.int .i64 cd) ∧ RepairIs ws r cd ∧ Mem2 w g c ws.length r' w' ∧ (cd = 0 → r' = r) ∧ (cd ≠ 0 → r = []) := by
  obtain ⟨hlen, hn1, hn2⟩ := nblk_some hn
  obtain ⟨n, hnn⟩ : ∃ n, n = nblk ws.length := ⟨_, rfl⟩
  rw [← hnn] at hlen hn1 hn2
  have HN : Hid (nblk ws.length ≠ 0 ∧ nblk ws.length = n) := ⟨hn, hnn.symm⟩
  have HAS : Hid (Calls Tryz.prog 96 #[rowV (some ⟨g, 0, none⟩) ws.length c] W fun e w' => ∃ v, e = .returned (.tuple #[v, .bool (asksS ws).2]) ∧ ((asksS ws).2 = true → OwnR W.heap.size w' v ws (asksS ws).1) ∧ Fr New W w') := asked_any g 0 c ws W (by omega) (by omega) hU M.cells
  have HRE : Hid (∀ v w1, Fr New W w1 → OwnR W.heap.size w1 v ws (asksS ws).1 → Calls Tryz.prog 109 #[rowV (some ⟨g, 0, none⟩) ws.length c, v] w1 fun e w' => e = .returned (.tuple #[]) ∧ Mem2 w g c ws.length (doneS ws (asksS ws).1) w' ∧ Fr (But g) w1 w') := fun v w1 hf ho => redo_any v w1 (M.grow hf) ho hU (asks_le ws) (fun i hi => asks_ok hi)
  obtain ⟨L, hL⟩ : ∃ L, L = ws.length := ⟨_, rfl⟩
  obtain ⟨lg, hlg⟩ : ∃ lg, lg = loggedS ws := ⟨_, rfl⟩
  have HLG : Hid (lg = loggedS ws) := hlg
  have hlgl : lg.length = L := by rw [hlg, loggedS_len, hL]
  have HPU : Hid (∀ (cur : List Int) (y : Int) (k : Nat) w1, Mem2 w g c L cur w1 → k < L → Calls Tryz.prog 152 #[.slice (some ⟨g, 0, none⟩) L c, .int .i64 (k : Nat), .int .u64 y] w1 fun e w' => e = .returned (.tuple #[]) ∧ Mem2 w g c L (cur.set k y) w' ∧ Fr (But g) w1 w') := fun cur y k w1 hM hk => put_any hM k y hk
  have HWH : Hid (∀ (cur : List Int) w1, Mem2 w g c L cur w1 → Calls Tryz.prog 98 #[rowV (some ⟨g, 0, none⟩) L c] w1 fun e w' => e = .returned (.tuple #[.int .i64 (headS cur n).1, .bool (headS cur n).2]) ∧ Fr New w1 w') := fun cur w1 hM => wrongHead_any g 0 L c n cur w1 hM.len (by rw [hL]; exact hlen) hn2 hM.cells
  have HSV : Hid (∀ w1, Mem2 w g c L lg w1 → Calls Tryz.prog 99 #[rowV (some ⟨g, 0, none⟩) L c] w1 fun e w' => ∃ vl vb, e = .returned (.tuple #[vl, vb]) ∧ OwnT w1.heap.size w' vl (objs lg) ∧ OwnB w1.heap.size w' vb (bads lg) ∧ Fr New w1 w') := fun w1 hM => by
    have := survey_any g 0 c n lg w1 (by rw [hlgl, hL]; exact hnn.symm) (by omega) (fun i hi => hM.cells i (by omega))
    rwa [hlgl] at this
  have HMH : Hid (∀ (v : Value) (cur : List Int) w1 B, Mem2 w g c L cur w1 → Zeroed lg cur (fun q => q ∈ bads lg) → OwnT B w1 v (objs lg) → Calls Tryz.prog 110 #[rowV (some ⟨g, 0, none⟩) L c, v] w1 fun e w' => e = .returned (.tuple #[]) ∧ ∃ cur', Mem2 w g c L cur' w' ∧ Zeroed cur cur' (fixZ cur (objs cur)) ∧ Fr (But g) w1 w') := fun v cur w1 B hM hZ ho => by
    have e := objs_zeroed hZ
    exact mendHolds_any v (objs cur) w1 hM rfl (by rw [e]; exact ho) (by rw [hZ.len, hlgl, hL, ← hnn]; omega)
  have HHO : Hid (∀ (cur : List Int) w1, Mem2 w g c L cur w1 → Calls Tryz.prog 111 #[rowV (some ⟨g, 0, none⟩) L c] w1 fun e w' => e = .returned (headA cur) ∧ Fr New w1 w') := fun cur w1 hM => headOf_any g 0 L c cur w1 hM.len (by omega) hM.cells
  have HBB : Hid (∀ i (hi : i < (bads lg).length), ∃ b, (bads lg)[i] = 106 + 8 * b ∧ 106 + 8 * (b + 1) ≤ L) := fun i hi => by
    obtain ⟨b, hb, e⟩ := walkF_bad (List.getElem_mem hi)
    refine ⟨b, e, ?_⟩
    rw [hlgl, hL, ← hnn] at hb
    omega
  have HBL : Hid ((bads lg).length ≤ 32) := bads_len lg
  have hmp := meth_put (some ⟨g, 0, none⟩) L c
  have hap := ahead_put (some ⟨g, 0, none⟩) L c
  have hmf : ∀ (fn : Fn) (first cap : Array Value) (w : World), (Instr.makeFunc fn first cap).run Tryz.prog w = .ok (.func fn first cap) w := fun _ _ _ _ => rfl
  rw [← hL] at HAS HRE M ⊢
  have hL1 : 114 ≤ L := by omega
  have hL2 : L ≤ 362 := by omega
  have HLG2 : Hid ((asksS ws).2 = true → (doneS ws (asksS ws).1).set 8 0 = lg) := fun h => by rw [hlg]; unfold loggedS; rw [if_pos h]
  have HLG3 : Hid ((asksS ws).2 = false → ws.set 8 0 = lg) := fun h => by rw [hlg]; unfold loggedS; rw [if_neg (by rw [h]; simp)]
  have HHN := head_not (ws := ws) (n := n) hnn.symm
  rw [← hlg] at HHN
  have HHN' : Hid (((headS lg n).2 = true ∧ (headS lg n).1 ≠ 7) ↔ ¬ headOk ws) := HHN
  have HLGL : Hid (lg.length = L) := hlgl
  clear hL hlg hlgl hnn hlen hn HHN
  obtain ⟨bo, hbo⟩ : ∃ bo, bo = (asksS ws).2 := ⟨_, rfl⟩
  rw [← hbo] at HAS HLG2 HLG3
  clear hbo
  go_enter Tryz.func61, Tryz.ntmps61
  go_upto_if 16 with (go_at_call 96; refine HAS.out.mono ?_; rintro e w1 ⟨v, rfl, hor, hf1⟩)
  go_cut [4] from 17 to 19 (fun s4 wx => s4 = .bool bo ∧ ∃ cur, Mem2 w g c L cur wx ∧ cur.set 8 0 = lg)
  case first =>
    cases bo with
    | true =>
      go_wp2_with (go_at_call 109; refine (HRE.out v w1 hf1 (hor rfl)).mono ?_; rintro e w2 ⟨rfl, hm2, hf2⟩)
      go_meet
      case rel => exact ⟨rfl, _, hm2, HLG2.out (by simp)⟩
    | false =>
      go_wp2_with fail
      go_meet
      case rel => exact ⟨rfl, _, M.grow hf1, HLG3.out (by simp)⟩
  case rest =>
    obtain ⟨rfl, cur, hmc, hcl⟩ := hcut
    have HCL : Hid (cur.set 8 0 = lg) := hcl
    have HP8 : Hid (Calls Tryz.prog 152 #[.slice (some ⟨g, 0, none⟩) L c, .int .i64 ((8 : Nat) : Int), .int .u64 0] wc fun e w' => e = .returned (.tuple #[]) ∧ Mem2 w g c L lg w' ∧ Fr (But g) wc w') := by rw [← hcl]; exact HPU.out cur 0 8 wc hmc (by omega)
    clear hcl hor hf1 M
    rcases hs : headS lg n with ⟨hp, hb⟩
    have HHD : Hid (headS lg n = (hp, hb)) := hs
    have HWX : Hid (∀ w1, Mem2 w g c L lg w1 → Calls Tryz.prog 98 #[rowV (some ⟨g, 0, none⟩) L c] w1 fun e w' => e = .returned (.tuple #[.int .i64 hp, .bool hb]) ∧ Fr New w1 w') := fun w1 hM => by have := HWH.out lg w1 hM; rwa [hs] at this
    rw [hs] at HHN'
    simp only at HHN'
    clear hs
    by_cases hbad : hb = true ∧ hp ≠ 7
    · obtain ⟨rfl, hp7⟩ := hbad
      have HT : Hid (RepairIs ws [] 3) := .inr ⟨HN.out.1, .inl ⟨HHN'.out.1 ⟨rfl, hp7⟩, rfl, rfl⟩⟩
      have hd7 : (hp != 7) = true := by simpa using hp7
      go_wp2_with (first
        | (go_at_call 152; refine HP8.out.mono ?_; rintro e w3 ⟨rfl, hm3, hf3⟩)
        | (go_at_call 98; refine (HWX.out w3 hm3).mono ?_; rintro e w4 ⟨rfl, hf4⟩))
      go_ret
      exact ⟨3, [], lg, rfl, HT.out, hm3.grow hf4, (fun h => by cases h), fun _ => rfl⟩
    · have HOKH : Hid (headOk ws) := by
        by_cases h : headOk ws
        · exact h
        · exact absurd (HHN'.out.2 h) hbad
      have hway : (hb = false) ∨ (hb = true ∧ hp = 7) := by
        cases hb with
        | false => exact .inl rfl
        | true => right; refine ⟨rfl, ?_⟩; by_cases h : hp = 7; exact h; exact absurd ⟨rfl, h⟩ hbad
      clear hbad HHN' HHD
      rcases hway with rfl | ⟨rfl, rfl⟩
      all_goals
        go_wp2_with (first
          | (go_at_call 152; refine HP8.out.mono ?_; rintro e w3 ⟨rfl, hm3, hf3⟩)
          | (go_at_call 98; refine (HWX.out w3 hm3).mono ?_; rintro e w4 ⟨rfl, hf4⟩)
          | (go_at_call 99; refine (HSV.out w4 (hm3.grow hf4)).mono ?_; rintro e w5 ⟨vl, vb, rfl, hol, hob, hf5⟩; have hm5 := (hm3.grow hf4).grow hf5; obtain ⟨ab, cb, rfl⟩ := own_slice hob)
          | fail)
        have HOB : Hid (∀ wr, Fr (But g) w5 wr → OwnB w4.heap.size wr (.slice ab (bads lg).length cb) (bads lg)) := fun wr hf => own_but hm5 hf hob (by decide)
        have HOL : Hid (∀ wr, Fr (But g) w5 wr → OwnT w4.heap.size wr vl (objs lg)) := fun wr hf => own_but hm5 hf hol (by decide)
        clear hol hob hmc
        obtain ⟨NB, hNB⟩ : ∃ NB, NB = (bads lg).length := ⟨_, rfl⟩
        have HNB : Hid (NB = (bads lg).length) := hNB
        have hNB32 : NB ≤ 32 := by rw [hNB]; exact HBL.out
        rw [← hNB]
        rw [← hNB] at HOB
        clear hNB
        go_loopg [39] NB (fun gh t wr => ∃ (i : Nat) (cur : List Int), i ≤ NB ∧ gh = NB - i ∧ t = .int .i64 i ∧ Mem2 w g c L cur wr ∧ Fr (But g) w5 wr ∧ Zeroed lg cur (fun q => q ∈ (bads lg).take i))
        case atStart => exact ⟨0, lg, by omega, rfl, rfl, hm5, Fr.refl _ _, zeroed_self lg (fun q h => by simp at h)⟩
        case round =>
          clear hm5
          obtain ⟨i, cur, hiN, rfl, rfl, hM, hF, hZ⟩ := hrel
          by_cases hi : i < NB
          · have hd0 : decide ((i : Int) < (NB : Int)) = true := by simp; omega
            have hi' : i < (bads lg).length := by rw [← HNB.out]; exact hi
            obtain ⟨b, hb, hbL⟩ := HBB.out i hi'
            obtain ⟨gb, rfl, e0, e1, e2, e3⟩ := (liesB_own (by rw [HNB.out] at HOB; exact HOB.out wr hF)).at i hi'
            rw [hb, show (106 + 8 * b - 106) / 8 = b by omega] at e1
            have HCL : Hid (∀ wr', Mem2 w g c L cur wr' → Calls Tryz.prog 72 #[.agg #[.int .i64 2, .int .i64 ((b + 1 : Nat) : Int), .int .i64 1, .int .i64 0], rowV (some ⟨g, 0, none⟩) L c] wr' fun e w' => e = .returned (.tuple #[]) ∧ ∃ cur', Mem2 w g c L cur' w' ∧ Zeroed lg cur' (fun q => q ∈ (bads lg).take (i + 1)) ∧ Fr (But g) wr' w') := fun wr' hM' => by
              refine (clear_any 2 ⟨b, 1, 0⟩ wr' hM' hZ HLGL.out hbL (by omega)).mono ?_
              rintro e w' ⟨rfl, cur', h1, h2, h3⟩
              exact ⟨rfl, cur', h1, h2.congr (fun q => bad_take hi' hb q), h3⟩
            obtain ⟨B', hB'⟩ : ∃ B' : Nat, B' = b + 1 := ⟨_, rfl⟩
            rw [← hB'] at e1 HCL
            clear hB' hb
            go_wp2_with (go_at_call 72; refine (HCL.out _ (hM.grow ((Fr.refl _ _).alloc _))).mono ?_; rintro e w7 ⟨rfl, cur', hm7, hz7, hf7⟩)
            have hf8 : Fr (But g) wr w7 := ((Fr.refl (But g) wr).alloc _).trans hf7 (fun _ _ h => h)
            go_roundg (NB - (i + 1))
            case measure => omega
            case rel => exact ⟨i + 1, cur', by omega, rfl, by go_num, hm7, hF.trans hf8 (fun _ _ h => h), hz7⟩
          · obtain rfl : i = NB := by omega
            have hd0 : decide ((i : Int) < (i : Int)) = false := by simp
            have hZ2 : Zeroed lg cur (fun q => q ∈ bads lg) := hZ.congr (fun q => by rw [HNB.out, List.take_length])
            have HMX : Hid (Calls Tryz.prog 110 #[rowV (some ⟨g, 0, none⟩) L c, vl] wr fun e w' => e = .returned (.tuple #[]) ∧ ∃ cur', Mem2 w g c L cur' w' ∧ Zeroed cur cur' (fixZ cur (objs cur)) ∧ Fr (But g) wr w') := HMH.out vl cur wr _ hM hZ2 (HOL.out wr hF)
            go_upto_region 15 with (go_at_call 110; refine HMX.out.mono ?_; rintro e w7 ⟨rfl, w3', hm7, hz7, hf7⟩)
            have HT : Hid (RepairIs ws (w3'.set 7 (sumL (w3'.take 7))) 0) := .inr ⟨HN.out.1, .inr ⟨HOKH.out, rfl, cur, w3', by rw [← HLG.out]; exact hZ2, hz7, rfl⟩⟩
            have h7 : w3'.take 7 = [wd w3' 0, wd w3' 1, wd w3' 2, wd w3' 3, wd w3' 4, wd w3' 5, wd w3' 6] := take_seven (by rw [hm7.len]; omega)
            have HP7 : Hid (∀ w8, Fr New w7 w8 → Calls Tryz.prog 152 #[.slice (some ⟨g, 0, none⟩) L c, .int .i64 ((7 : Nat) : Int), .int .u64 (sumL [wd w3' 0, wd w3' 1, wd w3' 2, wd w3' 3, wd w3' 4, wd w3' 5, wd w3' 6])] w8 fun e w' => e = .returned (.tuple #[]) ∧ Mem2 w g c L (w3'.set 7 (sumL (w3'.take 7))) w' ∧ Fr (But g) w8 w') := fun w8 hf => by rw [h7]; exact HPU.out w3' _ 7 w8 (hm7.grow hf) (by omega)
            have HHX : Hid (∀ w8, Fr New w7 w8 → Calls Tryz.prog 111 #[rowV (some ⟨g, 0, none⟩) L c] w8 fun e w' => e = .returned (headA w3') ∧ Fr New w8 w') := fun w8 hf => HHO.out w3' w8 (hm7.grow hf)
            have hix := head_index
            clear h7 hz7 hZ hZ2
            go_region_with (first
              | (go_at_call 111; refine (HHX.out _ (by first | exact (Fr.refl New w7).drew | exact Fr.refl New w7)).mono ?_; rintro e w8 ⟨rfl, hf8⟩; have hf8' : Fr New w7 w8 := (by first | exact (Fr.refl New w7).drew.same hf8 | exact hf8))
              | (go_at_call 112; refine (sealed_any _ _ _ _ _ _ _ _ _).mono ?_; rintro e w9 ⟨rfl, hf9⟩; have hf9' : Fr New w7 w9 := hf8'.same hf9)
              | (go_at_call 152; refine (HP7.out _ hf9').mono ?_; rintro e w10 ⟨rfl, hm10, hf10⟩))
            all_goals
              go_wp2_with fail
              go_ret
              exact ⟨0, _, _, rfl, HT.out, hm10, fun _ => rfl, fun h => absurd rfl h⟩
end Go.Proofs.YtbagcjlimdilpaaGreat
