/- The walk of the program's Check: it tells the first thing that is wrong, and its place. -/
import Derived.Test.YtbagcjlimdilpaaGreatHhPgR
import Derived.Test.YtbagcjlimdilpaaGreatHhPgC
import Derived.Test.YtbagcjlimdilpaaGreatHhJ4
namespace Go.Proofs.YtbagcjlimdilpaaGreat
open Go.RowKit

/-- the cells of the i-th thing -/
theorem LiesT.at {w : World} {a : Option Addr} {n c : Nat} {l : List Ob} (h : LiesT w (.slice a n c) l) (i : Nat) (hi : i < l.length) :
    ∃ g, a = some ⟨g, 0, none⟩ ∧ w.cell? ⟨g, i * 4, none⟩ = some (.int .i64 1) ∧ w.cell? ⟨g, i * 4 + 1, none⟩ = some (.int .i64 (((l[i]).block + 1 : Nat) : Int)) ∧ w.cell? ⟨g, i * 4 + 2, none⟩ = some (.int .i64 (l[i]).span) ∧ w.cell? ⟨g, i * 4 + 3, none⟩ = some (.int .i64 (l[i]).ptrs) := by
  obtain ⟨a', c', e, _, _, hc⟩ := h
  cases e
  obtain ⟨g, e, _, hcc⟩ := hc (by omega)
  exact ⟨g, e, hcc i hi⟩

/-- marks that were handed back, as they are kept -/
theorem marks_kept {w5 : World} {Z : Obj} {M : List Bool} (hM : M.length = 33) (hZ : MRow (w5.alloc Z) w5.heap.size (List.replicate 33 false)) :
    (∀ j, j < 33 → ((w5.alloc Z).setCells w5.heap.size 0 (M.map Value.bool)).cell? ⟨w5.heap.size, j, none⟩ = some (.bool (M.getD j false))) ∧ Fr New w5 ((w5.alloc Z).setCells w5.heap.size 0 (M.map Value.bool)) := by
  refine ⟨fun j hj => ?_, Fr.setCells (fun h => absurd h (by simp)) _ _ _ ((Fr.refl _ _).alloc _)⟩
  have := World.rangeAt_setCells_same (w5.alloc Z) w5.heap.size 0 (M.map Value.bool) (hZ.there (by simp [hM])) j (.bool (M.getD j false)) (by simp [show j < M.length by omega, List.getD])
  rwa [Nat.zero_add] at this

set_option maxHeartbeats 4000000 in
set_option maxRecDepth 100000 in
theorem checkHolds_row (rt : Nat) (rx : Value) (fL fR : Nat) (ry : Value) (ws : List Int) (v : Value) (w : World) (hn : nblk ws.length ≠ 0) (hrow : RowAt w rt rx fL fR ry ws) (hv : LiesT w v (objs ws)) (hA : Clear (headT ws ++ badT ws)) :
    Calls Tryz.prog 101 #[Value.iface rt rx, v] w fun e w' => ∃ cd p, e = .returned (.tuple #[.int .i64 cd, .int .i64 p]) ∧ CheckIs ws cd p ∧ Fr New w w' := by
  obtain ⟨hlen, hn1, hn2⟩ := nblk_some hn
  obtain ⟨l, hl⟩ : ∃ l, l = objs ws := ⟨_, rfl⟩
  have HL : Hid (l = objs ws) := hl
  rw [← hl] at hv
  have ha : Asc l := by rw [hl]; exact objs_asc ws
  have HWI : Hid (Within ws l) := by rw [hl]; exact within_objs ws
  have HB32 : Hid (∀ o ∈ l, o.block < 32) := fun o ho => by rw [hl] at ho; have := (objs_in ho).2.2.2.2; omega
  have hl32 : l.length ≤ 32 := by rw [hl]; exact objs_len ws
  have HA : Hid (Clear (headT ws ++ badT ws)) := hA
  have HV : Hid (∀ wr, Fr New w wr → LiesT wr v l) := fun wr hf => hv.fr hf (fun _ _ h => h)
  have HDG : Hid (∀ wr, Fr New w wr → ∀ h, Calls Tryz.prog 58 #[v, .int .u64 h] wr fun e w' => e = .returned (.bool (dang l h)) ∧ Fr New wr w') := fun wr hf h => dangling_any v l h wr (HV.out wr hf) ha
  have HRC : Hid (∀ wr, Fr New w wr → Calls Tryz.prog 141 #[v, Value.iface rt rx] wr fun e w' => ∃ M : List Bool, e = .returned (.agg ((M.map Value.bool).toArray)) ∧ M.length = 33 ∧ (∀ i, i < l.length → (mkd l M i ↔ Reach ws l i)) ∧ Fr New wr w') := fun wr hf => reached2_row rt rx fL fR ry ws v l wr (by omega) (by omega) (hrow.grow hf) (HV.out wr hf) ha HWI.out HB32.out hl32
  have HW : Hid (∀ wr, Fr New w wr → ∀ i, i < ws.length → Calls Tryz.prog fR #[ry, .int .i64 (i : Nat)] wr fun e w'' => e = .returned (.int .u64 (wd ws i)) ∧ w'' = wr) := hrow.read
  have HM : Hid (∀ w', Fr New w w' → (method 356 rt rx "Read").run Tryz.prog w' = .ok (fR, ry) w') := hrow.mread
  have HBO : Hid (∀ o ∈ l, o.block < 32 ∧ 106 + 8 * (o.block + o.span) ≤ ws.length ∧ o.ptrs < 8 * o.span ∧ o.ptrs < 32) := by
    obtain ⟨_, _, _, _, hb, _⟩ := hv
    exact fun o ho => ⟨HB32.out o ho, (HWI.out o ho).1, (HWI.out o ho).2, (hb o ho).2.2⟩
  obtain ⟨av, cv, rfl, _⟩ := hv
  have hcf := hrow.cread
  obtain ⟨L, hL⟩ : ∃ L, L = ws.length := ⟨_, rfl⟩
  have HLL : Hid (L = ws.length) := hL
  have hL1 : L ≤ 362 := by omega
  have hL7 : 114 ≤ L := by omega
  clear hrow ha hL hl hn hlen hn1 hn2 hA HWI HB32
  go_enter Tryz.func101, Tryz.ntmps101
  go_wp2
  go_loopg [15] 4 (fun gh t wr => ∃ r : Nat, r ≤ 4 ∧ gh = 4 - r ∧ t = .int .i64 r ∧ Fr New w wr ∧ Clear ((List.range r).map (rootT ws l)))
  case atStart => exact ⟨0, by omega, rfl, rfl, Fr.refl _ _, clear_nil⟩
  case round =>
    obtain ⟨r, hr4, rfl, rfl, hf, hclr⟩ := hrel
    by_cases hr : r < 4
    · have hc := HW.out wr hf (3 + r) (by rw [← HLL.out]; omega)
      have HR : Hid (Calls Tryz.prog fR #[ry, .int .i64 ((3 + r : Nat) : Int)] wr fun e w'' => e = .returned (.int .u64 (wd ws (3 + r))) ∧ w'' = wr) := hc
      have hmr := HM.out wr hf
      have HD : Hid (Calls Tryz.prog 58 #[.slice av l.length cv, .int .u64 (wd ws (3 + r))] wr fun e w' => e = .returned (.bool (dang l (wd ws (3 + r)))) ∧ Fr New wr w') := HDG.out wr hf _
      obtain ⟨x, hx⟩ : ∃ x, x = wd ws (3 + r) := ⟨_, rfl⟩
      rw [← hx] at HR HD
      clear hc
      rcases hd : dang l x with _ | _
      · have hnx := clear_range hclr (show ¬ (wd ws (3 + r) ≠ 0 ∧ idx l (wd ws (3 + r)) = none) from fun hh => by rw [← hx] at hh; rw [dang_iff.2 hh] at hd; cases hd)
        rw [hd] at HD
        clear hd hx
        go_wp2_with (first
          | (refine calls_same HR.out ?_)
          | (go_at_call 58; refine HD.out.mono ?_; rintro e w1 ⟨rfl, hf1⟩)
          | fail)
        go_roundg (4 - (r + 1))
        case measure => omega
        case rel => exact ⟨r + 1, by omega, rfl, by go_num, hf.same hf1, hnx⟩
      · have HT : Hid (CheckIs ws 6 ((3 + r : Nat) : Int)) := check_root HA.out hr (by rw [← HL.out]; exact hclr) (by rw [← HL.out, ← hx]; exact dang_iff.1 hd)
        rw [hd] at HD
        clear hd hx
        go_wp2_with (first
          | (refine calls_same HR.out ?_)
          | (go_at_call 58; refine HD.out.mono ?_; rintro e w1 ⟨rfl, hf1⟩)
          | fail)
        go_ret2
        exact ⟨6, ((3 + r : Nat) : Int), by go_num, HT.out, hf.same hf1⟩
    · obtain rfl : r = 4 := by omega
      have HRT : Hid (Clear ((List.range 4).map (rootT ws (objs ws)))) := by rw [← HL.out]; exact hclr
      clear hclr hr hr4
      go_wp2
      go_loopg [29] l.length (fun gh t wr => ∃ i : Nat, i ≤ l.length ∧ gh = l.length - i ∧ t = .int .i64 i ∧ Fr New w wr ∧ Clear ((l.take i).flatMap (ptrsT ws l)))
      case atStart => exact ⟨0, by omega, rfl, rfl, hf, clear_nil⟩
      case round =>
        clear hf
        obtain ⟨i, hil, rfl, rfl, hf2, hclp⟩ := hrel
        by_cases hi : i < l.length
        · have hd0 : decide ((i : Int) < (l.length : Int)) = true := by simp; omega
          obtain ⟨g, rfl, e0, e1, e2, e3⟩ := (HV.out wr hf2).at i hi
          obtain ⟨hb1, hb2, hb3, hb4⟩ := HBO.out l[i] (List.getElem_mem _)
          obtain ⟨o, ho⟩ : ∃ o, o = l[i] := ⟨_, rfl⟩
          have HO : Hid (o = l[i]) := ho
          rw [← ho] at e1 e2 e3 hb1 hb2 hb3 hb4
          obtain ⟨b, sp, pt⟩ := o
          simp only at e1 e2 e3 hb1 hb2 hb3 hb4
          obtain ⟨B, hB⟩ : ∃ B : Nat, B = b + 1 := ⟨_, rfl⟩
          rw [← hB] at e1
          have HBB : Hid (B = b + 1) := hB
          have hB33 : B ≤ 32 := by omega
          clear ho hB
          go_wp2
          have htq : (wr.alloc (.cells #[.int .i64 1, .int .i64 B, .int .i64 sp, .int .i64 pt] 115)).heap[wr.heap.size]? = some (.cells #[.int .i64 1, .int .i64 B, .int .i64 sp, .int .i64 pt] 115 (0, 0)) := Go.Deep.blk_alloc_new wr _
          have hf3 : Fr New w (wr.alloc (.cells #[.int .i64 1, .int .i64 B, .int .i64 sp, .int .i64 pt] 115)) := hf2.alloc _
          obtain ⟨gt, hgt⟩ : ∃ gt, gt = wr.heap.size := ⟨_, rfl⟩
          rw [← hgt] at htq
          rw [← hgt]
          clear hgt e0 e1 e2 e3
          go_loopg [35] pt (fun gh t wr => ∃ p : Nat, p ≤ pt ∧ gh = pt - p ∧ t = .int .i64 p ∧ Fr New w wr ∧ wr.heap[gt]? = some (.cells #[.int .i64 1, .int .i64 B, .int .i64 sp, .int .i64 pt] 115 (0, 0)) ∧ Clear ((List.range p).map (ptrT ws l ⟨b, sp, pt⟩)))
          case atStart => exact ⟨0, by omega, rfl, rfl, hf3, htq, clear_nil⟩
          case round =>
            clear hf3 htq hf2
            obtain ⟨p, hpp, rfl, rfl, hf3, htq, hclq⟩ := hrel
            by_cases hp : p < pt
            · have hc := HW.out wr hf3 (pl ⟨b, sp, pt⟩ p) (by unfold pl; simp only; omega)
              obtain ⟨x, hx⟩ : ∃ x, x = wd ws (pl ⟨b, sp, pt⟩ p) := ⟨_, rfl⟩
              have HPL : Hid (∀ w2, Calls Tryz.prog 60 #[.agg #[.int .i64 1, .int .i64 B, .int .i64 sp, .int .i64 pt], .int .i64 p] w2 fun e w' => e = .returned (.int .i64 ((pl ⟨b, sp, pt⟩ p : Nat) : Int)) ∧ Fr New w2 w') := fun w2 => by rw [HBB.out]; exact twplace_any 1 sp pt b p w2 (by omega) (by omega)
              have HR : Hid (∀ w2, Fr New w w2 → Calls Tryz.prog fR #[ry, .int .i64 ((pl ⟨b, sp, pt⟩ p : Nat) : Int)] w2 fun e w'' => e = .returned (.int .u64 x) ∧ w'' = w2) := fun w2 hf => by
                rw [hx]
                exact HW.out w2 hf _ (by unfold pl; simp only; omega)
              have HD : Hid (∀ w2, Fr New w w2 → Calls Tryz.prog 58 #[.slice (some ⟨g, 0, none⟩) l.length cv, .int .u64 x] w2 fun e w' => e = .returned (.bool (dang l x)) ∧ Fr New w2 w') := fun w2 hf => HDG.out w2 hf _
              obtain ⟨pq, hpq⟩ : ∃ pq : Nat, pq = pl ⟨b, sp, pt⟩ p := ⟨_, rfl⟩
              rw [← hpq] at HPL HR
              have HPQ : Hid (pq = pl ⟨b, sp, pt⟩ p) := hpq
              obtain ⟨ht, hz⟩ := block_cells htq
              clear hc hpq
              rcases hd : dang l x with _ | _
              · have hnx := clear_range hclq (show ¬ (wd ws (pl ⟨b, sp, pt⟩ p) ≠ 0 ∧ idx l (wd ws (pl ⟨b, sp, pt⟩ p)) = none) from fun hh => by rw [← hx] at hh; rw [dang_iff.2 hh] at hd; cases hd)
                rw [hd] at HD
                clear hd hx
                go_wp2_with (first
                  | (go_at_call 60; refine (HPL.out _).mono ?_; rintro e w2 ⟨rfl, hf2'⟩; have hf4 := hf3.same hf2'; have hmr := HM.out w2 hf4)
                  | (refine calls_same (HR.out w2 hf4) ?_)
                  | (go_at_call 58; refine (HD.out w2 hf4).mono ?_; rintro e w5 ⟨rfl, hf5⟩)
                  | fail)
                go_roundg (pt - (p + 1))
                case measure => omega
                case rel => exact ⟨p + 1, by omega, rfl, by go_num, hf4.same hf5, hf5.heap (hf2'.heap htq id) id, hnx⟩
              · have HT : Hid (CheckIs ws 7 ((pl ⟨b, sp, pt⟩ p : Nat) : Int)) := by
                  have := check_ptr HA.out HRT.out (i := i) (by rw [← HL.out]; exact hi) (by rw [← HL.out]; exact hclp) (p := p)
                  simp only [← HL.out, ← HO.out] at this
                  exact this hp hclq (by rw [← hx]; exact dang_iff.1 hd)
                rw [← HPQ.out] at HT
                rw [hd] at HD
                clear hd hx
                go_wp2_with (first
                  | (go_at_call 60; refine (HPL.out _).mono ?_; rintro e w2 ⟨rfl, hf2'⟩; have hf4 := hf3.same hf2'; have hmr := HM.out w2 hf4)
                  | (refine calls_same (HR.out w2 hf4) ?_)
                  | (go_at_call 58; refine (HD.out w2 hf4).mono ?_; rintro e w5 ⟨rfl, hf5⟩)
                  | fail)
                go_ret2
                exact ⟨7, (pq : Int), rfl, HT.out, hf4.same hf5⟩
            · obtain rfl : p = pt := by omega
              have hnx : Clear ((l.take (i + 1)).flatMap (ptrsT ws l)) := by
                rw [List.take_succ_eq_append_getElem hi, List.flatMap_append]
                refine clear_app hclp ?_
                rw [← HO.out]
                simpa [ptrsT] using hclq
              go_wp2
              go_roundg (l.length - (i + 1))
              case measure => omega
              case rel => exact ⟨i + 1, by omega, rfl, by go_num, hf3, hnx⟩
        · obtain rfl : i = l.length := by omega
          have hd0 : decide ((l.length : Int) < (l.length : Int)) = false := by simp
          have HPT : Hid (Clear ((objs ws).flatMap (ptrsT ws (objs ws)))) := by
            rw [List.take_of_length_le (Nat.le_refl _)] at hclp
            rw [← HL.out]; exact hclp
          have HRX := HRC.out wr hf2
          have HRY : Hid (Calls Tryz.prog 141 #[.slice av l.length cv, Value.iface rt rx] wr fun e w' => ∃ M : List Bool, e = .returned (.agg ((M.map Value.bool).toArray)) ∧ M.length = 33 ∧ (∀ i, i < l.length → (mkd l M i ↔ Reach ws l i)) ∧ Fr New wr w') := HRX
          clear hclp hi hil HRX
          go_wp2_with (first
            | (go_at_call 141; refine HRY.out.mono ?_; rintro e w5 ⟨M, rfl, hM33, hMR, hf5⟩; have HSZ : Hid ((Tryz.prog.info? 201).map (·.size) = some (M.map Value.bool).length) := (by show _ = _; rw [List.length_map, hM33]; exact Tryz.sizeMarks); have HM33 : Hid (M.length = 33) := hM33; have HMR : Hid (∀ i, i < l.length → (mkd l M i ↔ Reach ws l i)) := hMR; clear hM33 hMR)
            | (refine wpList_store_mid rfl 201 (.tmp 12) (.tmp 51) rfl w5.heap.size 0 ((M.map Value.bool).toArray) (by rfl) (by rfl) (MRow.there (M := List.replicate 33 false) (Go.Deep.blk_alloc_new w5 _) (by simp [HM33.out])) HSZ.out (marks_one M) ?_; obtain ⟨hmc, hf6⟩ := marks_kept HM33.out (Go.Deep.blk_alloc_new w5 _))
            | fail)
          have hf7 := (hf2.same hf5).same hf6
          go_loopg [54] l.length (fun gh t w6 => ∃ i : Nat, i ≤ l.length ∧ gh = l.length - i ∧ t = .int .i64 i ∧ Fr New w w6 ∧ (∀ j, j < 33 → w6.cell? ⟨w5.heap.size, j, none⟩ = some (.bool (M.getD j false))) ∧ Clear ((List.range i).map (leakT ws l)))
          case atStart => exact ⟨0, by omega, rfl, rfl, hf7, hmc, clear_nil⟩
          case round =>
            clear hf7 hmc hf6 hf5 hf2
            obtain ⟨i, hil', rfl, rfl, hf7, hmc, hcll⟩ := hrel
            by_cases hi' : i < l.length
            · have hd1 : decide ((i : Int) < (l.length : Int)) = true := by simp; omega
              obtain ⟨g, rfl, e0, e1, e2, e3⟩ := (HV.out wr hf7).at i hi'
              obtain ⟨hb1, hb2, hb3, hb4⟩ := HBO.out l[i] (List.getElem_mem _)
              have hmi := hmc (hnd l i) (by rw [hnd_eq hi']; omega)
              rw [hnd_eq hi'] at hmi
              have HMI := HMR.out i hi'
              unfold mkd at HMI
              rw [hnd_eq hi'] at HMI
              obtain ⟨o, ho⟩ : ∃ o, o = l[i] := ⟨_, rfl⟩
              have HO : Hid (o = l[i]) := ho
              rw [← ho] at e1 e2 e3 hb1 hb2 hb3 hb4 hmi HMI
              obtain ⟨b, sp, pt⟩ := o
              simp only at e1 e2 e3 hb1 hb2 hb3 hb4 hmi HMI
              have HPL : Hid (∀ w2, Calls Tryz.prog 100 #[.agg #[.int .i64 1, .int .i64 ((b + 1 : Nat) : Int), .int .i64 sp, .int .i64 pt]] w2 fun e w' => e = .returned (.int .i64 ((106 + 8 * b : Nat) : Int)) ∧ Fr New w2 w') := fun w2 => tplace_any 1 sp pt b w2 (by omega)
              obtain ⟨B, hB⟩ : ∃ B : Nat, B = b + 1 := ⟨_, rfl⟩
              rw [← hB] at e1 hmi HMI HPL
              have hB33 : B < 33 := by omega
              have hB0 : (0 : Int) ≤ (B : Int) := by omega
              have hB1 : (B : Int) < 33 := by omega
              have hlt5 : w5.heap.size < wr.heap.size := World.block_lt_of_cell? wr _ hmi
              clear ho hB
              rcases hoi : M.getD B false with _ | _
              · have HT : Hid (CheckIs ws 8 ((106 + 8 * b : Nat) : Int)) := by
                  have := check_leak HA.out HRT.out HPT.out (i := i) (by rw [← HL.out]; exact hi') (by rw [← HL.out]; exact hcll)
                  simp only [← HL.out, ← HO.out] at this
                  exact this (fun hx => by rw [HMI.2 hx] at hoi; cases hoi)
                rw [hoi] at hmi
                obtain ⟨pq, hpq⟩ : ∃ pq : Nat, pq = 106 + 8 * b := ⟨_, rfl⟩
                rw [← hpq] at HPL HT
                clear hoi hcll HMI hpq hmc
                go_wp2_with (first
                  | (go_at_call 100; refine (HPL.out _).mono ?_; rintro e w8 ⟨rfl, hf8⟩)
                  | fail)
                go_ret2
                exact ⟨8, (pq : Int), rfl, HT.out, (hf7.alloc _).same hf8⟩
              · have hnx := clear_range hcll (show ¬ ¬ Reach ws l i from fun hx => hx (HMI.1 hoi))
                rw [hoi] at hmi
                have HMC : Hid (∀ w2, Fr New wr w2 → ∀ j, j < 33 → w2.cell? ⟨w5.heap.size, j, none⟩ = some (.bool (M.getD j false))) := fun w2 hf j hj => hf.cell (hmc j hj) id
                clear hoi HMI hcll hmc
                go_wp2
                go_roundg (l.length - (i + 1))
                case measure => omega
                case rel => exact ⟨i + 1, by omega, rfl, by go_num, hf7.alloc _, HMC.out _ ((Fr.refl _ _).alloc _), hnx⟩
            · obtain rfl : i = l.length := by omega
              have hd1 : decide ((l.length : Int) < (l.length : Int)) = false := by simp
              have HT : Hid (CheckIs ws 0 0) := check_ok HA.out HRT.out HPT.out (by rw [← HL.out]; exact hcll)
              go_wp2
              go_ret2
              exact ⟨0, 0, rfl, HT.out, hf7⟩

theorem headT_clear {ws : List Int} {n : Nat} (hn : nblk ws.length = n) (hn0 : n ≠ 0) (hs : headS ws n = (0, false)) (h8 : wd ws 8 = 0) : Clear (headT ws) := by
  unfold headS at hs
  by_cases h0 : wd ws 0 = 20261114
  · rw [if_neg (by simpa using h0)] at hs
    by_cases h1 : wd ws 1 = n
    · rw [if_neg (by simpa using h1)] at hs
      by_cases h7 : wd ws 7 = sumL (ws.take 7)
      · intro y hy
        simp only [headT, List.mem_cons, List.not_mem_nil, or_false] at hy
        rcases hy with rfl | rfl | rfl | rfl | rfl
        · rw [hn]; exact hn0
        · simpa using h0
        · rw [hn]; simpa using h1
        · simpa using h7
        · simpa using h8
      · rw [if_pos h7] at hs; cases hs
    · rw [if_pos h1] at hs; cases hs
  · rw [if_pos h0] at hs; cases hs
theorem headT_wrong {ws : List Int} {n : Nat} {p : Int} (hn : nblk ws.length = n) (hn0 : n ≠ 0) (hs : headS ws n = (p, true)) : CheckIs ws 3 p := by
  unfold headS at hs
  by_cases h0 : wd ws 0 = 20261114
  · rw [if_neg (by simpa using h0)] at hs
    by_cases h1 : wd ws 1 = n
    · rw [if_neg (by simpa using h1)] at hs
      by_cases h7 : wd ws 7 = sumL (ws.take 7)
      · rw [if_neg (by simpa using h7)] at hs; cases hs
      · rw [if_pos h7] at hs
        cases hs
        exact .inr ⟨by rw [hn]; exact hn0, .inr ⟨by simpa using h0, .inr ⟨by rw [hn]; simpa using h1, .inl ⟨h7, rfl, rfl⟩⟩⟩⟩
    · rw [if_pos h1] at hs
      cases hs
      exact .inr ⟨by rw [hn]; exact hn0, .inr ⟨by simpa using h0, .inl ⟨by rw [hn]; exact h1, rfl, rfl⟩⟩⟩
  · rw [if_pos h0] at hs
    cases hs
    exact .inr ⟨by rw [hn]; exact hn0, .inl ⟨h0, rfl, rfl⟩⟩
theorem headT_log {ws : List Int} {n : Nat} (hn : nblk ws.length = n) (hn0 : n ≠ 0) (hs : headS ws n = (0, false)) (h8 : wd ws 8 ≠ 0) : CheckIs ws 4 8 := by
  unfold headS at hs
  by_cases h0 : wd ws 0 = 20261114
  · rw [if_neg (by simpa using h0)] at hs
    by_cases h1 : wd ws 1 = n
    · rw [if_neg (by simpa using h1)] at hs
      by_cases h7 : wd ws 7 = sumL (ws.take 7)
      · exact .inr ⟨by rw [hn]; exact hn0, .inr ⟨by simpa using h0, .inr ⟨by rw [hn]; simpa using h1, .inr ⟨by simpa using h7, .inl ⟨h8, rfl, rfl⟩⟩⟩⟩⟩
      · rw [if_pos h7] at hs; cases hs
    · rw [if_pos h1] at hs; cases hs
  · rw [if_pos h0] at hs; cases hs

set_option maxHeartbeats 1000000 in
set_option maxRecDepth 100000 in
theorem soundCheck_row (rt : Nat) (rx : Value) (fL fR : Nat) (ry : Value) (ws : List Int) (w : World) (hn : nblk ws.length ≠ 0) (hrow : RowAt w rt rx fL fR ry ws) :
    Calls Tryz.prog 49 #[Value.iface rt rx] w fun e w' => ∃ cd p, e = .returned (.tuple #[.int .i64 cd, .int .i64 p]) ∧ CheckIs ws cd p ∧ Fr New w w' := by
  obtain ⟨hlen, hn1, hn2⟩ := nblk_some hn
  obtain ⟨n, hnn⟩ : ∃ n, n = nblk ws.length := ⟨_, rfl⟩
  rw [← hnn] at hlen hn1 hn2
  have HH : Hid (Calls Tryz.prog 98 #[Value.iface rt rx] w fun e w' => e = .returned (.tuple #[.int .i64 (headS ws n).1, .bool (headS ws n).2]) ∧ Fr New w w') := wrongHead_row rt rx fL fR ry ws.length n ws w rfl hlen hn2 hrow
  have HR : Hid (∀ wr, Fr New w wr → Calls Tryz.prog fR #[ry, .int .i64 ((8 : Nat) : Int)] wr fun e w'' => e = .returned (.int .u64 (wd ws 8)) ∧ w'' = wr) := fun wr hf => hrow.read wr hf 8 (by omega)
  have HM : Hid (∀ w', Fr New w w' → (method 356 rt rx "Read").run Tryz.prog w' = .ok (fR, ry) w') := hrow.mread
  have HS : Hid (∀ wr, Fr New w wr → Calls Tryz.prog 99 #[Value.iface rt rx] wr fun e w' => ∃ vl vb, e = .returned (.tuple #[vl, vb]) ∧ OwnT wr.heap.size w' vl (objs ws) ∧ OwnB wr.heap.size w' vb (bads ws) ∧ Fr New wr w') := fun wr hf => survey_row rt rx fL fR ry n ws wr hnn.symm (by omega) (hrow.grow hf)
  have HC : Hid (∀ wr, Fr New w wr → ∀ v, LiesT wr v (objs ws) → Clear (headT ws ++ badT ws) → Calls Tryz.prog 101 #[Value.iface rt rx, v] wr fun e w' => ∃ cd p, e = .returned (.tuple #[.int .i64 cd, .int .i64 p]) ∧ CheckIs ws cd p ∧ Fr New wr w') := fun wr hf v hv hA => checkHolds_row rt rx fL fR ry ws v wr hn (hrow.grow hf) hv hA
  have HNN : Hid (nblk ws.length = n ∧ n ≠ 0) := ⟨hnn.symm, by omega⟩
  have hcf := hrow.cread
  obtain ⟨x8, hx8⟩ : ∃ x, x = wd ws 8 := ⟨_, rfl⟩
  obtain ⟨L, hL⟩ : ∃ L, L = ws.length := ⟨_, rfl⟩
  rw [← hx8] at HR
  have HBP : Hid (∀ p ∈ bads ws, ∃ b, b < 32 ∧ p = 106 + 8 * b) := fun p hp => by
    obtain ⟨b, hb, rfl⟩ := walkF_bad hp
    exact ⟨b, by rw [← hnn] at hb; omega, rfl⟩
  clear hlen hnn hL hrow hn
  rcases hs : headS ws n with ⟨hp, hb⟩
  rw [hs] at HH
  cases hb with
  | true =>
    have HT : Hid (CheckIs ws 3 hp) := headT_wrong HNN.out.1 HNN.out.2 hs
    clear hs hx8
    go_enter Tryz.func49, Tryz.ntmps49
    go_wp2_with (go_at_call 98; refine HH.out.mono ?_; rintro e w1 ⟨rfl, hf1⟩)
    go_ret2
    exact ⟨3, hp, rfl, HT.out, hf1⟩
  | false =>
    obtain rfl : hp = 0 := by
      unfold headS at hs
      split at hs
      · cases hs
      · split at hs
        · cases hs
        · split at hs
          · cases hs
          · cases hs; rfl
    by_cases h8 : x8 = 0
    · have hA0 := headT_clear HNN.out.1 HNN.out.2 hs (hx8.symm.trans h8)
      have HA0 : Hid (Clear (headT ws)) := hA0
      subst h8
      clear hs hx8 hA0
      rcases hbd : bads ws with _ | ⟨p, r⟩
      · have HA : Hid (Clear (headT ws ++ badT ws)) := clear_bad HA0.out hbd
        rw [hbd] at HS
        clear hbd HBP
        go_enter Tryz.func49, Tryz.ntmps49
        go_wp2_with (first
          | (go_at_call 98; refine HH.out.mono ?_; rintro e w1 ⟨rfl, hf1⟩; have hmr := HM.out w1 hf1)
          | (refine calls_same (HR.out w1 hf1) ?_)
          | (go_at_call 99; refine (HS.out w1 hf1).mono ?_; rintro e w2 ⟨vl, vb, rfl, hol, hob, hf2⟩; obtain ⟨ab, cb, rfl⟩ := own_slice hob; have hlo := liesT_objs hol)
          | (go_at_call 101; refine (HC.out w2 (hf1.same hf2) vl hlo HA.out).mono ?_; rintro e w3 ⟨cd, p, rfl, hci, hf3⟩)
          | fail)
        go_ret2
        exact ⟨cd, p, rfl, hci, (hf1.same hf2).same hf3⟩
      · have HT : Hid (CheckIs ws 5 p) := check_bad HA0.out hbd
        obtain ⟨b, hb32, hpb⟩ := HBP.out p (by rw [hbd]; simp)
        rw [hbd] at HS
        have HTB : Hid (∀ w, Calls Tryz.prog 100 #[.agg #[.int .i64 2, .int .i64 (((p - 106) / 8 + 1 : Nat) : Int), .int .i64 1, .int .i64 0]] w fun e w' => e = .returned (.int .i64 (p : Int)) ∧ Fr New w w') := fun w => by
          have := tplace_any 2 1 0 ((p - 106) / 8) w (by omega)
          rwa [show 106 + 8 * ((p - 106) / 8) = p by omega] at this
        obtain ⟨B, hB⟩ : ∃ B : Nat, B = (p - 106) / 8 + 1 := ⟨_, rfl⟩
        rw [← hB] at HTB
        have HB : Hid (B = (p - 106) / 8 + 1) := hB
        clear hbd HBP hpb hB
        go_enter Tryz.func49, Tryz.ntmps49
        go_wp2_with (first
          | (go_at_call 98; refine HH.out.mono ?_; rintro e w1 ⟨rfl, hf1⟩; have hmr := HM.out w1 hf1)
          | (refine calls_same (HR.out w1 hf1) ?_)
          | (go_at_call 99; refine (HS.out w1 hf1).mono ?_; rintro e w2 ⟨vl, vb, rfl, hol, hob, hf2⟩; obtain ⟨ab, cb, rfl, hcl⟩ := liesB_own hob; obtain ⟨gb, rfl, hcb⟩ := hcl (by simp); obtain ⟨e0, e1, e2, e3⟩ := hcb 0 (by simp); simp only [Nat.zero_mul, Nat.zero_add, List.getElem_cons_zero, ← HB.out] at e0 e1 e2 e3)
          | (go_at_call 100; refine (HTB.out _).mono ?_; rintro e w3 ⟨rfl, hf3⟩)
          | fail)
        go_ret2
        exact ⟨5, p, rfl, HT.out, (hf1.same hf2).same hf3⟩
    · have HT : Hid (CheckIs ws 4 8) := headT_log HNN.out.1 HNN.out.2 hs (by rw [← hx8]; exact h8)
      have hd8 : (x8 != 0) = true := by simpa using h8
      clear hs hx8
      go_enter Tryz.func49, Tryz.ntmps49
      go_wp2_with (first
        | (go_at_call 98; refine HH.out.mono ?_; rintro e w1 ⟨rfl, hf1⟩; have hmr := HM.out w1 hf1)
        | (refine calls_same (HR.out w1 hf1) ?_)
        | fail)
      go_ret2
      exact ⟨4, 8, rfl, HT.out, hf1⟩

theorem soundCheck_any (sb so c : Nat) (ws : List Int) (w : World) (hn : nblk ws.length ≠ 0) (hcw : ∀ i, i < ws.length → w.cell? ⟨sb, so + i, none⟩ = some (.int .u64 (wd ws i))) :
    Calls Tryz.prog 49 #[rowV (some ⟨sb, so, none⟩) ws.length c] w fun e w' => ∃ cd p, e = .returned (.tuple #[.int .i64 cd, .int .i64 p]) ∧ CheckIs ws cd p ∧ Fr New w w' := soundCheck_row _ _ _ _ _ ws w hn (kept_row rfl hcw)

/-- CHECK TELLS WHAT THE DOCUMENT SAYS -/
theorem pcheck_any (a : Option Addr) (cap : Nat) (ws : List Int) (w : World) (hm : ws.length ≤ 1048576) (hr : RowU w a ws) :
    Calls Tryz.prog 33 #[.slice a ws.length cap] w fun e w' => ∃ c p, e = .returned (.tuple #[.int .i64 c, .int .i64 p]) ∧ CheckIs ws c p ∧ Fr New w w' := by
  by_cases hn : nblk ws.length = 0
  · have HT : Hid (CheckIs ws 2 0) := .inl ⟨hn, rfl, rfl⟩
    have HS : Hid (Calls Tryz.prog 46 #[.int .i64 ws.length] w fun e w' => e = .returned (.bool false) ∧ w' = w) := shaped_no _ w hm hn
    clear hn hr
    go_enter Tryz.func33, Tryz.ntmps33
    go_wp2_with (go_at_call 46; refine calls_same HS.out ?_)
    go_ret2
    exact ⟨2, 0, rfl, HT.out, Fr.refl _ _⟩
  · have HS : Hid (Calls Tryz.prog 46 #[.int .i64 ws.length] w fun e w' => e = .returned (.bool true) ∧ w' = w) := shaped_yes _ w hn
    obtain ⟨sb, so, rfl, hsb, hcw⟩ := rowU_plain hr (by have := (nblk_some hn).1; omega)
    have HC : Hid (Calls Tryz.prog 49 #[rowV (some ⟨sb, so, none⟩) ws.length cap] w fun e w' => ∃ cd p, e = .returned (.tuple #[.int .i64 cd, .int .i64 p]) ∧ CheckIs ws cd p ∧ Fr New w w') := soundCheck_any sb so cap ws w hn hcw
    clear hn hr hcw
    go_enter Tryz.func33, Tryz.ntmps33
    go_wp2_with (first
      | (go_at_call 46; refine calls_same HS.out ?_)
      | (go_at_call 49; refine HC.out.mono ?_; rintro e w1 ⟨cd, p, rfl, hci, hf1⟩))
    go_ret2
    exact ⟨cd, p, rfl, hci, hf1⟩
end Go.Proofs.YtbagcjlimdilpaaGreat
