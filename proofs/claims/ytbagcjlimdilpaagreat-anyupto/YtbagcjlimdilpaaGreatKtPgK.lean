/- Walks of the program's Redo and mendHolds. -/
import Derived.Test.YtbagcjlimdilpaaGreatKtJ11
import Derived.Test.YtbagcjlimdilpaaGreatKtPgJ
import Derived.Test.YtbagcjlimdilpaaGreatKtPgH
import Derived.Test.YtbagcjlimdilpaaGreatKtJ0
namespace Go.Proofs.YtbagcjlimdilpaaGreat
open Go.RowKit

theorem Mem2.glt {w : World} {g c L : Nat} {cur : List Int} {wr : World} (h : Mem2 w g c L cur wr) : g < wr.heap.size := by
  obtain ⟨_, _, hc⟩ := own_block h.own rfl
  exact lt_of_block hc
/-- a row of another kind stays -/
theorem own_but {w wr w' : World} {g c L : Nat} {cur : List Int} (h : Mem2 w g c L cur wr) (hf : Fr (But g) wr w') {B : Nat} {e : TypeId} {sz : Nat} {v : Value} {n : Nat} {xs : List Value} (ho : wr.ownsRow B e sz v n xs) (he : e ≠ 50) : w'.ownsRow B e sz v n xs :=
  hf.owns ho (fun g' hg' hh => by
    obtain ⟨_, c1, h1⟩ := own_block ho hg'
    obtain ⟨_, c2, h2⟩ := own_block h.own rfl
    exact type_ne h1 h2 he hh)

set_option maxHeartbeats 1000000 in
set_option maxRecDepth 100000 in
theorem redo_any {w : World} {g c L B n : Nat} {ws : List Int} (v : Value) (W : World) (M : Mem2 w g c L ws W) (ho : OwnR B W v ws n) (hU : ∀ z ∈ ws, U z) (hn : n ≤ 48) (hok : ∀ i, i < n → okAt ws.length (wd ws (10 + 2 * i)) = true) :
    Calls Tryz.prog 109 #[rowV (some ⟨g, 0, none⟩) L c, v] W fun e w' => e = .returned (.tuple #[]) ∧ Mem2 w g c L (doneS ws n) w' ∧ Fr (But g) W w' := by
  obtain ⟨av, cv, rfl⟩ := own_slice ho
  have HO : Hid (∀ wr, Fr (But g) W wr → OwnR B wr (.slice av n cv) ws n) := fun wr hf => own_but M hf ho (by decide)
  have HU : Hid (∀ z ∈ ws, U z) := hU
  have HOK : Hid (∀ i, i < n → okAt ws.length (wd ws (10 + 2 * i)) = true) := hok
  have hmp := meth_put (some ⟨g, 0, none⟩) L c
  have HLN : Hid (ws.length = L) := M.len
  clear hok hU ho
  go_enter Tryz.func109, Tryz.ntmps109
  go_wp2
  go_loopg [8] n (fun gh t wr => ∃ i : Nat, i ≤ n ∧ gh = n - i ∧ t = .int .i64 i ∧ Mem2 w g c L (doneS ws i) wr ∧ Fr (But g) W wr)
  case atStart => exact ⟨0, by omega, rfl, rfl, M, Fr.refl _ _⟩
  case round =>
    clear M
    obtain ⟨i, hin, rfl, rfl, hM, hF⟩ := hrel
    by_cases hi : i < n
    · have hd0 : decide ((i : Int) < (n : Int)) = true := by simp; omega
      have hown := HO.out wr hF
      obtain ⟨gr, c', hv, _, _⟩ := hown.form (by omega)
      have hv1 : av = some ⟨gr, 0, none⟩ := by simp only [Value.slice.injEq] at hv; exact hv.1
      clear hv
      subst hv1
      have e0 : wr.cell? ⟨gr, i * 2, none⟩ = some (.int .i64 (wd ws (10 + 2 * i))) := (hown.cellAt (i * 2) (by omega)).trans (recCells_get ws hi).1
      have e1 : wr.cell? ⟨gr, i * 2 + 1, none⟩ = some (.int .u64 (wd ws (11 + 2 * i))) := (hown.cellAt (i * 2 + 1) (by omega)).trans (recCells_get ws hi).2
      obtain ⟨k, hk⟩ := Int.eq_ofNat_of_zero_le (wd_U HU.out (10 + 2 * i)).1
      have hkL : k < L := by have := (okAt_iff.1 (HOK.out i hi)).1; rw [HLN.out] at this; omega
      have hds := done_set ws i
      rw [hk] at e0 hds
      simp only [Int.toNat_natCast] at hds
      obtain ⟨y, hy⟩ : ∃ y, y = wd ws (11 + 2 * i) := ⟨_, rfl⟩
      rw [← hy] at e1 hds
      have HPU : Hid (∀ W', Fr New wr W' → Calls Tryz.prog 152 #[.slice (some ⟨g, 0, none⟩) L c, .int .i64 k, .int .u64 y] W' fun e w' => e = .returned (.tuple #[]) ∧ Mem2 w g c L (doneS ws (i + 1)) w' ∧ Fr (But g) W' w') := fun W' hf => by rw [← hds]; exact put_any (hM.grow hf) k y hkL
      clear hds hy hk hown
      go_wp2_with (go_at_call 152; refine (HPU.out _ ((Fr.refl New wr).alloc _)).mono ?_; rintro e w7 ⟨rfl, hm7, hf7⟩)
      go_roundg (n - (i + 1))
      case measure => omega
      case rel => exact ⟨i + 1, by omega, rfl, by go_num, hm7, (hF.alloc _).trans hf7 (fun _ _ h => h)⟩
    · obtain rfl : i = n := by omega
      have hd0 : decide ((i : Int) < (i : Int)) = false := by simp
      go_wp2
      go_end0
      exact ⟨rfl, hM, hF⟩

/-- where the mending stands: i objects are done -/
def midZ (w2 : List Int) (l : List Ob) (i q : Nat) : Prop := (rootZ w2 l 4 q ∨ ptrZ w2 l i q) ∨ leakZ w2 l i q
theorem midZ_zero {w2 : List Int} {l : List Ob} (q : Nat) : rootZ w2 l 4 q ↔ midZ w2 l 0 q := by
  unfold midZ
  exact ⟨fun h => .inl (.inl h), fun h => by
    rcases h with (h | h) | h
    · exact h
    · exact absurd h (ptrZ_zero q)
    · exact absurd h (leakZ_zero q)⟩
theorem midZ_yes {w2 : List Int} {l : List Ob} {i : Nat} (hi : i < l.length) (hr : Reach w2 l i) (q : Nat) : (midZ w2 l i q ∨ ptrZ1 w2 l l[i] (l[i]).ptrs q) ↔ midZ w2 l (i + 1) q := by
  unfold midZ
  rw [← ptrZ_yes hi hr q, ← leakZ_no hr q]
  constructor
  · rintro (((h | h) | h) | h)
    · exact .inl (.inl h)
    · exact .inl (.inr (.inl h))
    · exact .inr h
    · exact .inl (.inr (.inr h))
  · rintro ((h | h | h) | h)
    · exact .inl (.inl (.inl h))
    · exact .inl (.inl (.inr h))
    · exact .inr h
    · exact .inl (.inr h)
theorem midZ_no {w2 : List Int} {l : List Ob} {i : Nat} (hi : i < l.length) (hr : ¬ Reach w2 l i) (q : Nat) : (midZ w2 l i q ∨ leakZ1 l[i] (l[i]).span q) ↔ midZ w2 l (i + 1) q := by
  unfold midZ
  rw [← leakZ_yes hi hr q, ← ptrZ_no hr q, or_assoc]

set_option maxHeartbeats 4000000 in
set_option maxRecDepth 100000 in
theorem mendHolds_any {w : World} {g c L B : Nat} {w2 : List Int} (v : Value) (l : List Ob) (W : World) (M : Mem2 w g c L w2 W) (hl : l = objs w2) (ho : OwnT B W v l) (hn : nblk w2.length ≠ 0) :
    Calls Tryz.prog 110 #[rowV (some ⟨g, 0, none⟩) L c, v] W fun e w' => e = .returned (.tuple #[]) ∧ ∃ cur', Mem2 w g c L cur' w' ∧ Zeroed w2 cur' (fixZ w2 l) ∧ Fr (But g) W w' := by
  obtain ⟨hlen, hn1, hn2⟩ := nblk_some hn
  have ha : Asc l := by rw [hl]; exact objs_asc w2
  have HA : Hid (Asc l) := ha
  have hwi : Within w2 l := by rw [hl]; exact within_objs w2
  have hb32 : ∀ o ∈ l, o.block < 32 := fun o ho => by rw [hl] at ho; have := (objs_in ho).2.2.2.2; omega
  have hl32 : l.length ≤ 32 := by rw [hl]; exact objs_len w2
  have hlv : LiesT W v l := by rw [hl]; rw [hl] at ho; exact liesT_objs ho
  have HLN : Hid (w2.length = L) := M.len
  have hL1 : L ≤ 362 := by rw [← HLN.out]; omega
  have hL7 : 114 ≤ L := by rw [← HLN.out]; omega
  have HNB : Hid (∀ g', v.ownBlock = some g' → ¬ g' = g) := fun g' hg' hh => by
    obtain ⟨_, c1, h1⟩ := own_block ho hg'
    obtain ⟨_, c2, h2⟩ := own_block M.own rfl
    exact type_ne h1 h2 (by decide) hh
  have HV : Hid (∀ wr, Fr (But g) W wr → LiesT wr v l) := fun wr hf => hlv.fr hf HNB.out
  have HMH : Hid (∀ wr cur (Z : Nat → Prop) q, Fr (But g) W wr → Mem2 w g c L cur wr → Zeroed w2 cur Z → q < L → Calls Tryz.prog 147 #[rowV (some ⟨g, 0, none⟩) L c, v, .int .i64 (q : Nat)] wr fun e w' => e = .returned (.tuple #[]) ∧ ∃ cur', Mem2 w g c L cur' w' ∧ Zeroed w2 cur' (fun x => Z x ∨ (x = q ∧ idx l (wd w2 q) = none)) ∧ Fr (But g) wr w') := fun wr cur Z q hf hM hZ hq => mendHold_any v l q wr hM hZ HLN.out hq (HV.out wr hf) ha
  have HRC : Hid (∀ wr cur, Fr (But g) W wr → Mem2 w g c L cur wr → Zeroed w2 cur (rootZ w2 l 4) → Calls Tryz.prog 141 #[v, rowV (some ⟨g, 0, none⟩) L c] wr fun e w' => ∃ M : List Bool, e = .returned (.agg ((M.map Value.bool).toArray)) ∧ M.length = 33 ∧ (∀ i, i < l.length → (mkd l M i ↔ Reach w2 l i)) ∧ Fr New wr w') := fun wr cur hf hM hZ => by
    have hcl := hM.len
    have := reached2_any g 0 c cur v l wr (by omega) (by omega) (fun i hi => hM.cells i (by omega)) (HV.out wr hf) ha (fun o ho => by rw [hZ.len]; exact hwi o ho) hb32 hl32
    rw [hcl] at this
    refine this.mono ?_
    rintro e w' ⟨M, rfl, h1, h2, h3⟩
    exact ⟨M, rfl, h1, fun i hi => (h2 i hi).trans (reach_roots hZ i), h3⟩
  have HBO : Hid (∀ o ∈ l, o.block < 32 ∧ 106 + 8 * (o.block + o.span) ≤ L ∧ o.ptrs < 8 * o.span ∧ o.ptrs < 32) := by
    obtain ⟨_, _, _, _, hb, _⟩ := hlv
    exact fun o ho => ⟨hb32 o ho, by rw [← HLN.out]; exact (hwi o ho).1, (hwi o ho).2, (hb o ho).2.2⟩
  have hgW := M.glt
  obtain ⟨av, cv, rfl⟩ := own_slice ho
  clear hlen hn hn1 hn2 ha hwi hb32 hlv ho hl
  go_enter Tryz.func110, Tryz.ntmps110
  go_wp2
  go_loopg [9] 4 (fun gh t wr => ∃ (r : Nat) (cur : List Int), r ≤ 4 ∧ gh = 4 - r ∧ t = .int .i64 r ∧ Mem2 w g c L cur wr ∧ Fr (But g) W wr ∧ Zeroed w2 cur (rootZ w2 l r))
  case atStart => exact ⟨0, w2, by omega, rfl, rfl, M, Fr.refl _ _, zeroed_self w2 rootZ_zero⟩
  case round =>
    clear M
    obtain ⟨r, cur, hr4, rfl, rfl, hM, hF, hZ⟩ := hrel
    by_cases hr : r < 4
    · have HMX : Hid (Calls Tryz.prog 147 #[rowV (some ⟨g, 0, none⟩) L c, .slice av l.length cv, .int .i64 ((3 + r : Nat) : Int)] wr fun e w' => e = .returned (.tuple #[]) ∧ ∃ cur', Mem2 w g c L cur' w' ∧ Zeroed w2 cur' (rootZ w2 l (r + 1)) ∧ Fr (But g) wr w') := by
        refine (HMH.out wr cur _ (3 + r) hF hM hZ (by omega)).mono ?_
        rintro e w' ⟨rfl, cur', h1, h2, h3⟩
        exact ⟨rfl, cur', h1, h2.congr (fun q => rootZ_succ q), h3⟩
      go_wp2_with (go_at_call 147; refine HMX.out.mono ?_; rintro e w7 ⟨rfl, cur', hm7, hz7, hf7⟩)
      go_roundg (4 - (r + 1))
      case measure => omega
      case rel => exact ⟨r + 1, cur', by omega, rfl, by go_num, hm7, hF.trans hf7 (fun _ _ h => h), hz7⟩
    · obtain rfl : r = 4 := by omega
      have HRX : Hid (Calls Tryz.prog 141 #[.slice av l.length cv, rowV (some ⟨g, 0, none⟩) L c] wr fun e w' => ∃ M : List Bool, e = .returned (.agg ((M.map Value.bool).toArray)) ∧ M.length = 33 ∧ (∀ i, i < l.length → (mkd l M i ↔ Reach w2 l i)) ∧ Fr New wr w') := HRC.out wr cur hF hM hZ
      have hZ0 : Zeroed w2 cur (midZ w2 l 0) := hZ.congr midZ_zero
      clear hr hr4 hZ
      go_wp2_with (first
        | (go_at_call 141; refine HRX.out.mono ?_; rintro e w5 ⟨M, rfl, hM33, hMR, hf5⟩; have HSZ : Hid ((Tryz.prog.info? 201).map (·.size) = some (M.map Value.bool).length) := (by show _ = _; rw [List.length_map, hM33]; exact Tryz.sizeMarks); have HM33 : Hid (M.length = 33) := hM33; have HMR : Hid (∀ i, i < l.length → (mkd l M i ↔ Reach w2 l i)) := hMR; clear hM33 hMR)
        | (refine wpList_store_mid rfl 201 (.tmp 5) (.tmp 20) rfl w5.heap.size 0 ((M.map Value.bool).toArray) (by rfl) (by rfl) (MRow.there (M := List.replicate 33 false) (Go.Deep.blk_alloc_new w5 _) (by simp [HM33.out])) HSZ.out (marks_one M) ?_; obtain ⟨hmc, hf6⟩ := marks_kept HM33.out (Go.Deep.blk_alloc_new w5 _))
        | fail)
      have hM6 := (hM.grow hf5).grow hf6
      have hF6 := (hF.same hf5).same hf6
      have hg5 : g < w5.heap.size := (hM.grow hf5).glt
      go_loopg [23] l.length (fun gh t w6 => ∃ (i : Nat) (cur : List Int), i ≤ l.length ∧ gh = l.length - i ∧ t = .int .i64 i ∧ Mem2 w g c L cur w6 ∧ Fr (But g) W w6 ∧ (∀ j, j < 33 → w6.cell? ⟨w5.heap.size, j, none⟩ = some (.bool (M.getD j false))) ∧ Zeroed w2 cur (midZ w2 l i))
      case atStart => exact ⟨0, cur, by omega, rfl, rfl, hM6, hF6, hmc, hZ0⟩
      case round =>
        clear hM6 hF6 hmc hZ0 hf6 hf5 hF hM
        obtain ⟨i, cur, hil, rfl, rfl, hM, hF, hmc, hZ⟩ := hrel
        by_cases hi : i < l.length
        · have hd1 : decide ((i : Int) < (l.length : Int)) = true := by simp; omega
          obtain ⟨gl, rfl, e0, e1, e2, e3⟩ := (HV.out wr hF).at i hi
          obtain ⟨hb1, hb2, hb3, hb4⟩ := HBO.out l[i] (List.getElem_mem _)
          have hmi := hmc (hnd l i) (by rw [hnd_eq hi]; omega)
          rw [hnd_eq hi] at hmi
          have HMI := HMR.out i hi
          unfold mkd at HMI
          rw [hnd_eq hi] at HMI
          obtain ⟨o, ho⟩ : ∃ o, o = l[i] := ⟨_, rfl⟩
          have HO : Hid (o = l[i]) := ho
          rw [← ho] at e1 e2 e3 hb1 hb2 hb3 hb4 hmi HMI
          obtain ⟨b, sp, pt⟩ := o
          simp only at e1 e2 e3 hb1 hb2 hb3 hb4 hmi HMI
          obtain ⟨B', hB⟩ : ∃ B' : Nat, B' = b + 1 := ⟨_, rfl⟩
          have HBB : Hid (B' = b + 1) := hB
          rw [← hB] at e1 hmi HMI
          have hB33 : B' < 33 := by omega
          have hB0 : (0 : Int) ≤ (B' : Int) := by omega
          have hB1 : (B' : Int) < 33 := by omega
          have hlt5 : w5.heap.size < wr.heap.size := World.block_lt_of_cell? wr _ hmi
          have HMC : Hid (∀ w7, Fr (But g) wr w7 → ∀ j, j < 33 → w7.cell? ⟨w5.heap.size, j, none⟩ = some (.bool (M.getD j false))) := fun w7 hf j hj => hf.cell (hmc j hj) (fun (he : w5.heap.size = g) => by omega)
          clear ho hB hmc
          rcases hoi : M.getD B' false with _ | _
          · have hnr : ¬ Reach w2 l i := fun hx => by rw [HMI.2 hx] at hoi; cases hoi
            rw [hoi] at hmi
            have HCL : Hid (∀ wr', Mem2 w g c L cur wr' → Calls Tryz.prog 72 #[.agg #[.int .i64 1, .int .i64 B', .int .i64 sp, .int .i64 pt], rowV (some ⟨g, 0, none⟩) L c] wr' fun e w' => e = .returned (.tuple #[]) ∧ ∃ cur', Mem2 w g c L cur' w' ∧ Zeroed w2 cur' (midZ w2 l (i + 1)) ∧ Fr (But g) wr' w') := fun wr' hM' => by
              rw [HBB.out]
              refine (clear_any 1 ⟨b, sp, pt⟩ wr' hM' hZ HLN.out hb2 (by omega)).mono ?_
              rintro e w' ⟨rfl, cur', h1, h2, h3⟩
              refine ⟨rfl, cur', h1, h2.congr (fun q => ?_), h3⟩
              have := midZ_no hi hnr q
              rw [← HO.out] at this
              exact this
            clear hoi HMI hnr
            go_wp2_with (go_at_call 72; refine (HCL.out _ (hM.grow ((Fr.refl _ _).alloc _))).mono ?_; rintro e w7 ⟨rfl, cur', hm7, hz7, hf7⟩)
            have hf8 : Fr (But g) wr w7 := ((Fr.refl (But g) wr).alloc _).trans hf7 (fun _ _ h => h)
            go_roundg (l.length - (i + 1))
            case measure => omega
            case rel => exact ⟨i + 1, cur', by omega, rfl, by go_num, hm7, hF.trans hf8 (fun _ _ h => h), HMC.out w7 hf8, hz7⟩
          · have hrr : Reach w2 l i := HMI.1 hoi
            rw [hoi] at hmi
            clear hoi HMI
            go_wp2
            have htq : (wr.alloc (.cells #[.int .i64 1, .int .i64 B', .int .i64 sp, .int .i64 pt] 115)).heap[wr.heap.size]? = some (.cells #[.int .i64 1, .int .i64 B', .int .i64 sp, .int .i64 pt] 115 (0, 0)) := Go.Deep.blk_alloc_new wr _
            have hF3 : Fr (But g) W (wr.alloc (.cells #[.int .i64 1, .int .i64 B', .int .i64 sp, .int .i64 pt] 115)) := hF.alloc _
            have hM3 : Mem2 w g c L cur (wr.alloc (.cells #[.int .i64 1, .int .i64 B', .int .i64 sp, .int .i64 pt] 115)) := hM.grow ((Fr.refl _ _).alloc _)
            have hmc3 := HMC.out (wr.alloc (.cells #[.int .i64 1, .int .i64 B', .int .i64 sp, .int .i64 pt] 115)) ((Fr.refl _ _).alloc _)
            have hgr : g < wr.heap.size := hM.glt
            obtain ⟨gt, hgt⟩ : ∃ gt, gt = wr.heap.size := ⟨_, rfl⟩
            rw [← hgt] at htq hgr
            rw [← hgt]
            clear hgt e0 e1 e2 e3 hmi hlt5
            go_loopg [37] pt (fun gh t w8 => ∃ (p : Nat) (cur : List Int), p ≤ pt ∧ gh = pt - p ∧ t = .int .i64 p ∧ Mem2 w g c L cur w8 ∧ Fr (But g) W w8 ∧ (∀ j, j < 33 → w8.cell? ⟨w5.heap.size, j, none⟩ = some (.bool (M.getD j false))) ∧ w8.heap[gt]? = some (.cells #[.int .i64 1, .int .i64 B', .int .i64 sp, .int .i64 pt] 115 (0, 0)) ∧ Zeroed w2 cur (fun q => midZ w2 l i q ∨ ptrZ1 w2 l ⟨b, sp, pt⟩ p q))
            case atStart => exact ⟨0, cur, by omega, rfl, rfl, hM3, hF3, hmc3, htq, hZ.congr (fun q => ⟨.inl, fun h => h.resolve_right (ptrZ1_zero q)⟩)⟩
            case round =>
              clear htq hF3 hM3 hM hZ hF hmc3 HMC
              obtain ⟨p, cur, hpp, rfl, rfl, hM, hF, hmc, htq, hZ⟩ := hrel
              by_cases hp : p < pt
              · have HPL : Hid (∀ w9, Calls Tryz.prog 60 #[.agg #[.int .i64 1, .int .i64 B', .int .i64 sp, .int .i64 pt], .int .i64 p] w9 fun e w' => e = .returned (.int .i64 ((pl ⟨b, sp, pt⟩ p : Nat) : Int)) ∧ Fr New w9 w') := fun w9 => by rw [HBB.out]; exact twplace_any 1 sp pt b p w9 (by omega) (by omega)
                have HMX : Hid (∀ w9, Fr New wr w9 → Calls Tryz.prog 147 #[rowV (some ⟨g, 0, none⟩) L c, .slice (some ⟨gl, 0, none⟩) l.length cv, .int .i64 ((pl ⟨b, sp, pt⟩ p : Nat) : Int)] w9 fun e w' => e = .returned (.tuple #[]) ∧ ∃ cur', Mem2 w g c L cur' w' ∧ Zeroed w2 cur' (fun q => midZ w2 l i q ∨ ptrZ1 w2 l ⟨b, sp, pt⟩ (p + 1) q) ∧ Fr (But g) w9 w') := fun w9 hf9 => by
                  refine (HMH.out w9 cur _ (pl ⟨b, sp, pt⟩ p) (hF.same hf9) (hM.grow hf9) hZ (by unfold pl; simp only; omega)).mono ?_
                  rintro e w' ⟨rfl, cur', h1, h2, h3⟩
                  exact ⟨rfl, cur', h1, h2.congr (fun q => by rw [or_assoc]; exact or_congr Iff.rfl (ptrZ1_succ q)), h3⟩
                have HMC : Hid (∀ w7, Fr (But g) wr w7 → ∀ j, j < 33 → w7.cell? ⟨w5.heap.size, j, none⟩ = some (.bool (M.getD j false))) := fun w7 hf j hj => hf.cell (hmc j hj) (fun (he : w5.heap.size = g) => by omega)
                obtain ⟨pq, hpq⟩ : ∃ pq : Nat, pq = pl ⟨b, sp, pt⟩ p := ⟨_, rfl⟩
                rw [← hpq] at HPL HMX
                obtain ⟨ht, hz⟩ := block_cells htq
                clear hpq hmc
                go_wp2_with (first
                  | (go_at_call 60; refine (HPL.out _).mono ?_; rintro e w9 ⟨rfl, hf9⟩)
                  | (go_at_call 147; refine (HMX.out w9 hf9).mono ?_; rintro e w7 ⟨rfl, cur', hm7, hz7, hf7⟩)
                  | fail)
                have hf79 : Fr (But g) wr w7 := ((Fr.refl (But g) wr).same hf9).trans hf7 (fun _ _ h => h)
                go_roundg (pt - (p + 1))
                case measure => omega
                case rel => exact ⟨p + 1, cur', by omega, rfl, by go_num, hm7, hF.trans hf79 (fun _ _ h => h), HMC.out w7 hf79, hf79.heap htq (fun (he : gt = g) => by omega), hz7⟩
              · obtain rfl : p = pt := by omega
                have hZn : Zeroed w2 cur (midZ w2 l (i + 1)) := hZ.congr (fun q => by
                  have := midZ_yes hi hrr q
                  rw [← HO.out] at this
                  exact this)
                have HMC : Hid (∀ j, j < 33 → wr.cell? ⟨w5.heap.size, j, none⟩ = some (.bool (M.getD j false))) := hmc
                clear hmc
                go_wp2
                go_roundg (l.length - (i + 1))
                case measure => omega
                case rel => exact ⟨i + 1, cur, by omega, rfl, by go_num, hM, hF, HMC.out, hZn⟩
        · obtain rfl : i = l.length := by omega
          have hd1 : decide ((l.length : Int) < (l.length : Int)) = false := by simp
          go_wp2
          go_end0
          exact ⟨rfl, cur, hM, hZ, hF⟩
end Go.Proofs.YtbagcjlimdilpaaGreat
