/- Texts that follow one another, joined. -/
import Derived.Test.YtbagcjlimdilpaaGreatHhJ7
import Derived.Test.YtbagcjlimdilpaaGreatHhPgJ
import Derived.Test.YtbagcjlimdilpaaGreatHhPgH
import Derived.Test.YtbagcjlimdilpaaGreatHhJ0
import Derived.Test.YtbagcjlimdilpaaGreatHhRefH
import Derived.Deep.CutRange
import Derived.Test.YtbagcjlimdilpaaGreatHhJ5
import Derived.Test.YtbagcjlimdilpaaGreatHhJ2
/- Walks of the program's Redo and mendHolds. -/
namespace Go.Proofs.YtbagcjlimdilpaaGreat
open Go.RowKit

theorem Mem2.glt {w : World} {g c L : Nat} {cur : List Int} {wr : World} (h : Mem2 w g c L cur wr) : g < wr.heap.size := by
  obtain ⟨_, _, hc⟩ := own_block h.own rfl
  exact lt_of_block hc
/-- a row of another kind stays -/
theorem own_but {w wr w' : World} {g c L : Nat} {cur : List Int} (h : Mem2 w g c L cur wr) (hf : Fr (But g) wr w') {B : Nat} {e : TypeId} {sz : Nat} {v : Value} {n : Nat} {xs : List Value} (ho : wr.ownsRow B e sz v n xs) (he : e ≠ 50) : w'.ownsRow B e sz v n xs :=
  hf.owns ho (fun g' hg' hh => by
    obtain ⟨_, c1, h1⟩ := own_block ho hg'
    obtain ⟨_, c2, h2⟩ := own_block h.own rfl
    exact type_ne h1 h2 he hh)

set_option maxHeartbeats 1000000 in
set_option maxRecDepth 100000 in
theorem redo_any {w : World} {g c L B n : Nat} {ws : List Int} (v : Value) (W : World) (M : Mem2 w g c L ws W) (ho : OwnR B W v ws n) (hU : ∀ z ∈ ws, U z) (hn : n ≤ 48) (hok : ∀ i, i < n → okAt ws.length (wd ws (10 + 2 * i)) = true) :
    Calls Tryz.prog 109 #[rowV (some ⟨g, 0, none⟩) L c, v] W fun e w' => e = .returned (.tuple #[]) ∧ Mem2 w g c L (doneS ws n) w' ∧ Fr (But g) W w' := by
  obtain ⟨av, cv, rfl⟩ := own_slice ho
  have HO : Hid (∀ wr, Fr (But g) W wr → OwnR B wr (.slice av n cv) ws n) := fun wr hf => own_but M hf ho (by decide)
  have HU : Hid (∀ z ∈ ws, U z) := hU
  have HOK : Hid (∀ i, i < n → okAt ws.length (wd ws (10 + 2 * i)) = true) := hok
  have hmp := meth_put (some ⟨g, 0, none⟩) L c
  have HLN : Hid (ws.length = L) := M.len
  clear hok hU ho
  go_enter Tryz.func109, Tryz.ntmps109
  go_wp2
  go_loopg [8] n (fun gh t wr => ∃ i : Nat, i ≤ n ∧ gh = n - i ∧ t = .int .i64 i ∧ Mem2 w g c L (doneS ws i) wr ∧ Fr (But g) W wr)
  case atStart => exact ⟨0, by omega, rfl, rfl, M, Fr.refl _ _⟩
  case round =>
    clear M
    obtain ⟨i, hin, rfl, rfl, hM, hF⟩ := hrel
    by_cases hi : i < n
    · have hd0 : decide ((i : Int) < (n : Int)) = true := by simp; omega
      have hown := HO.out wr hF
      obtain ⟨gr, c', hv, _, _⟩ := hown.form (by omega)
      have hv1 : av = some ⟨gr, 0, none⟩ := by simp only [Value.slice.injEq] at hv; exact hv.1
      clear hv
      subst hv1
      have e0 : wr.cell? ⟨gr, i * 2, none⟩ = some (.int .i64 (wd ws (10 + 2 * i))) := (hown.cellAt (i * 2) (by omega)).trans (recCells_get ws hi).1
      have e1 : wr.cell? ⟨gr, i * 2 + 1, none⟩ = some (.int .u64 (wd ws (11 + 2 * i))) := (hown.cellAt (i * 2 + 1) (by omega)).trans (recCells_get ws hi).2
      obtain ⟨k, hk⟩ := Int.eq_ofNat_of_zero_le (wd_U HU.out (10 + 2 * i)).1
      have hkL : k < L := by have := (okAt_iff.1 (HOK.out i hi)).1; rw [HLN.out] at this; omega
      have hds := done_set ws i
      rw [hk] at e0 hds
      simp only [Int.toNat_natCast] at hds
      obtain ⟨y, hy⟩ : ∃ y, y = wd ws (11 + 2 * i) := ⟨_, rfl⟩
      rw [← hy] at e1 hds
      have HPU : Hid (∀ W', Fr New wr W' → Calls Tryz.prog 152 #[.slice (some ⟨g, 0, none⟩) L c, .int .i64 k, .int .u64 y] W' fun e w' => e = .returned (.tuple #[]) ∧ Mem2 w g c L (doneS ws (i + 1)) w' ∧ Fr (But g) W' w') := fun W' hf => by rw [← hds]; exact put_any (hM.grow hf) k y hkL
      clear hds hy hk hown
      go_wp2_with (go_at_call 152; refine (HPU.out _ ((Fr.refl New wr).alloc _)).mono ?_; rintro e w7 ⟨rfl, hm7, hf7⟩)
      go_roundg (n - (i + 1))
      case measure => omega
      case rel => exact ⟨i + 1, by omega, rfl, by go_num, hm7, (hF.alloc _).trans hf7 (fun _ _ h => h)⟩
    · obtain rfl : i = n := by omega
      have hd0 : decide ((i : Int) < (i : Int)) = false := by simp
      go_wp2
      go_end0
      exact ⟨rfl, hM, hF⟩

/-- where the mending stands: i objects are done -/
def midZ (w2 : List Int) (l : List Ob) (i q : Nat) : Prop := (rootZ w2 l 4 q ∨ ptrZ w2 l i q) ∨ leakZ w2 l i q
theorem midZ_zero {w2 : List Int} {l : List Ob} (q : Nat) : rootZ w2 l 4 q ↔ midZ w2 l 0 q := by
  unfold midZ
  exact ⟨fun h => .inl (.inl h), fun h => by
    rcases h with (h | h) | h
    · exact h
    · exact absurd h (ptrZ_zero q)
    · exact absurd h (leakZ_zero q)⟩
theorem midZ_yes {w2 : List Int} {l : List Ob} {i : Nat} (hi : i < l.length) (hr : Reach w2 l i) (q : Nat) : (midZ w2 l i q ∨ ptrZ1 w2 l l[i] (l[i]).ptrs q) ↔ midZ w2 l (i + 1) q := by
  unfold midZ
  rw [← ptrZ_yes hi hr q, ← leakZ_no hr q]
  constructor
  · rintro (((h | h) | h) | h)
    · exact .inl (.inl h)
    · exact .inl (.inr (.inl h))
    · exact .inr h
    · exact .inl (.inr (.inr h))
  · rintro ((h | h | h) | h)
    · exact .inl (.inl (.inl h))
    · exact .inl (.inl (.inr h))
    · exact .inr h
    · exact .inl (.inr h)
theorem midZ_no {w2 : List Int} {l : List Ob} {i : Nat} (hi : i < l.length) (hr : ¬ Reach w2 l i) (q : Nat) : (midZ w2 l i q ∨ leakZ1 l[i] (l[i]).span q) ↔ midZ w2 l (i + 1) q := by
  unfold midZ
  rw [← leakZ_yes hi hr q, ← ptrZ_no hr q, or_assoc]

set_option maxHeartbeats 4000000 in
set_option maxRecDepth 100000 in
theorem mendHolds_any {w : World} {g c L B : Nat} {w2 : List Int} (v : Value) (l : List Ob) (W : World) (M : Mem2 w g c L w2 W) (hl : l = objs w2) (ho : OwnT B W v l) (hn : nblk w2.length ≠ 0) :
    Calls Tryz.prog 110 #[rowV (some ⟨g, 0, none⟩) L c, v] W fun e w' => e = .returned (.tuple #[]) ∧ ∃ cur', Mem2 w g c L cur' w' ∧ Zeroed w2 cur' (fixZ w2 l) ∧ Fr (But g) W w' := by
  obtain ⟨hlen, hn1, hn2⟩ := nblk_some hn
  have ha : Asc l := by rw [hl]; exact objs_asc w2
  have HA : Hid (Asc l) := ha
  have hwi : Within w2 l := by rw [hl]; exact within_objs w2
  have hb32 : ∀ o ∈ l, o.block < 32 := fun o ho => by rw [hl] at ho; have := (objs_in ho).2.2.2.2; omega
  have hl32 : l.length ≤ 32 := by rw [hl]; exact objs_len w2
  have hlv : LiesT W v l := by rw [hl]; rw [hl] at ho; exact liesT_objs ho
  have HLN : Hid (w2.length = L) := M.len
  have hL1 : L ≤ 362 := by rw [← HLN.out]; omega
  have hL7 : 114 ≤ L := by rw [← HLN.out]; omega
  have HNB : Hid (∀ g', v.ownBlock = some g' → ¬ g' = g) := fun g' hg' hh => by
    obtain ⟨_, c1, h1⟩ := own_block ho hg'
    obtain ⟨_, c2, h2⟩ := own_block M.own rfl
    exact type_ne h1 h2 (by decide) hh
  have HV : Hid (∀ wr, Fr (But g) W wr → LiesT wr v l) := fun wr hf => hlv.fr hf HNB.out
  have HMH : Hid (∀ wr cur (Z : Nat → Prop) q, Fr (But g) W wr → Mem2 w g c L cur wr → Zeroed w2 cur Z → q < L → Calls Tryz.prog 147 #[rowV (some ⟨g, 0, none⟩) L c, v, .int .i64 (q : Nat)] wr fun e w' => e = .returned (.tuple #[]) ∧ ∃ cur', Mem2 w g c L cur' w' ∧ Zeroed w2 cur' (fun x => Z x ∨ (x = q ∧ idx l (wd w2 q) = none)) ∧ Fr (But g) wr w') := fun wr cur Z q hf hM hZ hq => mendHold_any v l q wr hM hZ HLN.out hq (HV.out wr hf) ha
  have HRC : Hid (∀ wr cur, Fr (But g) W wr → Mem2 w g c L cur wr → Zeroed w2 cur (rootZ w2 l 4) → Calls Tryz.prog 141 #[v, rowV (some ⟨g, 0, none⟩) L c] wr fun e w' => ∃ M : List Bool, e = .returned (.agg ((M.map Value.bool).toArray)) ∧ M.length = 33 ∧ (∀ i, i < l.length → (mkd l M i ↔ Reach w2 l i)) ∧ Fr New wr w') := fun wr cur hf hM hZ => by
    have hcl := hM.len
    have := reached2_any g 0 c cur v l wr (by omega) (by omega) (fun i hi => hM.cells i (by omega)) (HV.out wr hf) ha (fun o ho => by rw [hZ.len]; exact hwi o ho) hb32 hl32
    rw [hcl] at this
    refine this.mono ?_
    rintro e w' ⟨M, rfl, h1, h2, h3⟩
    exact ⟨M, rfl, h1, fun i hi => (h2 i hi).trans (reach_roots hZ i), h3⟩
  have HBO : Hid (∀ o ∈ l, o.block < 32 ∧ 106 + 8 * (o.block + o.span) ≤ L ∧ o.ptrs < 8 * o.span ∧ o.ptrs < 32) := by
    obtain ⟨_, _, _, _, hb, _⟩ := hlv
    exact fun o ho => ⟨hb32 o ho, by rw [← HLN.out]; exact (hwi o ho).1, (hwi o ho).2, (hb o ho).2.2⟩
  have hgW := M.glt
  obtain ⟨av, cv, rfl⟩ := own_slice ho
  clear hlen hn hn1 hn2 ha hwi hb32 hlv ho hl
  go_enter Tryz.func110, Tryz.ntmps110
  go_wp2
  go_loopg [9] 4 (fun gh t wr => ∃ (r : Nat) (cur : List Int), r ≤ 4 ∧ gh = 4 - r ∧ t = .int .i64 r ∧ Mem2 w g c L cur wr ∧ Fr (But g) W wr ∧ Zeroed w2 cur (rootZ w2 l r))
  case atStart => exact ⟨0, w2, by omega, rfl, rfl, M, Fr.refl _ _, zeroed_self w2 rootZ_zero⟩
  case round =>
    clear M
    obtain ⟨r, cur, hr4, rfl, rfl, hM, hF, hZ⟩ := hrel
    by_cases hr : r < 4
    · have HMX : Hid (Calls Tryz.prog 147 #[rowV (some ⟨g, 0, none⟩) L c, .slice av l.length cv, .int .i64 ((3 + r : Nat) : Int)] wr fun e w' => e = .returned (.tuple #[]) ∧ ∃ cur', Mem2 w g c L cur' w' ∧ Zeroed w2 cur' (rootZ w2 l (r + 1)) ∧ Fr (But g) wr w') := by
        refine (HMH.out wr cur _ (3 + r) hF hM hZ (by omega)).mono ?_
        rintro e w' ⟨rfl, cur', h1, h2, h3⟩
        exact ⟨rfl, cur', h1, h2.congr (fun q => rootZ_succ q), h3⟩
      go_wp2_with (go_at_call 147; refine HMX.out.mono ?_; rintro e w7 ⟨rfl, cur', hm7, hz7, hf7⟩)
      go_roundg (4 - (r + 1))
      case measure => omega
      case rel => exact ⟨r + 1, cur', by omega, rfl, by go_num, hm7, hF.trans hf7 (fun _ _ h => h), hz7⟩
    · obtain rfl : r = 4 := by omega
      have HRX : Hid (Calls Tryz.prog 141 #[.slice av l.length cv, rowV (some ⟨g, 0, none⟩) L c] wr fun e w' => ∃ M : List Bool, e = .returned (.agg ((M.map Value.bool).toArray)) ∧ M.length = 33 ∧ (∀ i, i < l.length → (mkd l M i ↔ Reach w2 l i)) ∧ Fr New wr w') := HRC.out wr cur hF hM hZ
      have hZ0 : Zeroed w2 cur (midZ w2 l 0) := hZ.congr midZ_zero
      clear hr hr4 hZ
      go_wp2_with (first
        | (go_at_call 141; refine HRX.out.mono ?_; rintro e w5 ⟨M, rfl, hM33, hMR, hf5⟩; have HSZ : Hid ((Tryz.prog.info? 201).map (·.size) = some (M.map Value.bool).length) := (by show _ = _; rw [List.length_map, hM33]; exact Tryz.sizeMarks); have HM33 : Hid (M.length = 33) := hM33; have HMR : Hid (∀ i, i < l.length → (mkd l M i ↔ Reach w2 l i)) := hMR; clear hM33 hMR)
        | (refine wpList_store_mid rfl 201 (.tmp 5) (.tmp 20) rfl w5.heap.size 0 ((M.map Value.bool).toArray) (by rfl) (by rfl) (MRow.there (M := List.replicate 33 false) (Go.Deep.blk_alloc_new w5 _) (by simp [HM33.out])) HSZ.out (marks_one M) ?_; obtain ⟨hmc, hf6⟩ := marks_kept HM33.out (Go.Deep.blk_alloc_new w5 _))
        | fail)
      have hM6 := (hM.grow hf5).grow hf6
      have hF6 := (hF.same hf5).same hf6
      have hg5 : g < w5.heap.size := (hM.grow hf5).glt
      go_loopg [23] l.length (fun gh t w6 => ∃ (i : Nat) (cur : List Int), i ≤ l.length ∧ gh = l.length - i ∧ t = .int .i64 i ∧ Mem2 w g c L cur w6 ∧ Fr (But g) W w6 ∧ (∀ j, j < 33 → w6.cell? ⟨w5.heap.size, j, none⟩ = some (.bool (M.getD j false))) ∧ Zeroed w2 cur (midZ w2 l i))
      case atStart => exact ⟨0, cur, by omega, rfl, rfl, hM6, hF6, hmc, hZ0⟩
      case round =>
        clear hM6 hF6 hmc hZ0 hf6 hf5 hF hM
        obtain ⟨i, cur, hil, rfl, rfl, hM, hF, hmc, hZ⟩ := hrel
        by_cases hi : i < l.length
        · have hd1 : decide ((i : Int) < (l.length : Int)) = true := by simp; omega
          obtain ⟨gl, rfl, e0, e1, e2, e3⟩ := (HV.out wr hF).at i hi
          obtain ⟨hb1, hb2, hb3, hb4⟩ := HBO.out l[i] (List.getElem_mem _)
          have hmi := hmc (hnd l i) (by rw [hnd_eq hi]; omega)
          rw [hnd_eq hi] at hmi
          have HMI := HMR.out i hi
          unfold mkd at HMI
          rw [hnd_eq hi] at HMI
          obtain ⟨o, ho⟩ : ∃ o, o = l[i] := ⟨_, rfl⟩
          have HO : Hid (o = l[i]) := ho
          rw [← ho] at e1 e2 e3 hb1 hb2 hb3 hb4 hmi HMI
          obtain ⟨b, sp, pt⟩ := o
          simp only at e1 e2 e3 hb1 hb2 hb3 hb4 hmi HMI
          obtain ⟨B', hB⟩ : ∃ B' : Nat, B' = b + 1 := ⟨_, rfl⟩
          have HBB : Hid (B' = b + 1) := hB
          rw [← hB] at e1 hmi HMI
          have hB33 : B' < 33 := by omega
          have hB0 : (0 : Int) ≤ (B' : Int) := by omega
          have hB1 : (B' : Int) < 33 := by omega
          have hlt5 : w5.heap.size < wr.heap.size := World.block_lt_of_cell? wr _ hmi
          have HMC : Hid (∀ w7, Fr (But g) wr w7 → ∀ j, j < 33 → w7.cell? ⟨w5.heap.size, j, none⟩ = some (.bool (M.getD j false))) := fun w7 hf j hj => hf.cell (hmc j hj) (fun (he : w5.heap.size = g) => by omega)
          clear ho hB hmc
          rcases hoi : M.getD B' false with _ | _
          · have hnr : ¬ Reach w2 l i := fun hx => by rw [HMI.2 hx] at hoi; cases hoi
            rw [hoi] at hmi
            have HCL : Hid (∀ wr', Mem2 w g c L cur wr' → Calls Tryz.prog 72 #[.agg #[.int .i64 1, .int .i64 B', .int .i64 sp, .int .i64 pt], rowV (some ⟨g, 0, none⟩) L c] wr' fun e w' => e = .returned (.tuple #[]) ∧ ∃ cur', Mem2 w g c L cur' w' ∧ Zeroed w2 cur' (midZ w2 l (i + 1)) ∧ Fr (But g) wr' w') := fun wr' hM' => by
              rw [HBB.out]
              refine (clear_any 1 ⟨b, sp, pt⟩ wr' hM' hZ HLN.out hb2 (by omega)).mono ?_
              rintro e w' ⟨rfl, cur', h1, h2, h3⟩
              refine ⟨rfl, cur', h1, h2.congr (fun q => ?_), h3⟩
              have := midZ_no hi hnr q
              rw [← HO.out] at this
              exact this
            clear hoi HMI hnr
            go_wp2_with (go_at_call 72; refine (HCL.out _ (hM.grow ((Fr.refl _ _).alloc _))).mono ?_; rintro e w7 ⟨rfl, cur', hm7, hz7, hf7⟩)
            have hf8 : Fr (But g) wr w7 := ((Fr.refl (But g) wr).alloc _).trans hf7 (fun _ _ h => h)
            go_roundg (l.length - (i + 1))
            case measure => omega
            case rel => exact ⟨i + 1, cur', by omega, rfl, by go_num, hm7, hF.trans hf8 (fun _ _ h => h), HMC.out w7 hf8, hz7⟩
          · have hrr : Reach w2 l i := HMI.1 hoi
            rw [hoi] at hmi
            clear hoi HMI
            go_wp2
            have htq : (wr.alloc (.cells #[.int .i64 1, .int .i64 B', .int .i64 sp, .int .i64 pt] 115)).heap[wr.heap.size]? = some (.cells #[.int .i64 1, .int .i64 B', .int .i64 sp, .int .i64 pt] 115 (0, 0)) := Go.Deep.blk_alloc_new wr _
            have hF3 : Fr (But g) W (wr.alloc (.cells #[.int .i64 1, .int .i64 B', .int .i64 sp, .int .i64 pt] 115)) := hF.alloc _
            have hM3 : Mem2 w g c L cur (wr.alloc (.cells #[.int .i64 1, .int .i64 B', .int .i64 sp, .int .i64 pt] 115)) := hM.grow ((Fr.refl _ _).alloc _)
            have hmc3 := HMC.out (wr.alloc (.cells #[.int .i64 1, .int .i64 B', .int .i64 sp, .int .i64 pt] 115)) ((Fr.refl _ _).alloc _)
            have hgr : g < wr.heap.size := hM.glt
            obtain ⟨gt, hgt⟩ : ∃ gt, gt = wr.heap.size := ⟨_, rfl⟩
            rw [← hgt] at htq hgr
            rw [← hgt]
            clear hgt e0 e1 e2 e3 hmi hlt5
            go_loopg [37] pt (fun gh t w8 => ∃ (p : Nat) (cur : List Int), p ≤ pt ∧ gh = pt - p ∧ t = .int .i64 p ∧ Mem2 w g c L cur w8 ∧ Fr (But g) W w8 ∧ (∀ j, j < 33 → w8.cell? ⟨w5.heap.size, j, none⟩ = some (.bool (M.getD j false))) ∧ w8.heap[gt]? = some (.cells #[.int .i64 1, .int .i64 B', .int .i64 sp, .int .i64 pt] 115 (0, 0)) ∧ Zeroed w2 cur (fun q => midZ w2 l i q ∨ ptrZ1 w2 l ⟨b, sp, pt⟩ p q))
            case atStart => exact ⟨0, cur, by omega, rfl, rfl, hM3, hF3, hmc3, htq, hZ.congr (fun q => ⟨.inl, fun h => h.resolve_right (ptrZ1_zero q)⟩)⟩
            case round =>
              clear htq hF3 hM3 hM hZ hF hmc3 HMC
              obtain ⟨p, cur, hpp, rfl, rfl, hM, hF, hmc, htq, hZ⟩ := hrel
              by_cases hp : p < pt
              · have HPL : Hid (∀ w9, Calls Tryz.prog 60 #[.agg #[.int .i64 1, .int .i64 B', .int .i64 sp, .int .i64 pt], .int .i64 p] w9 fun e w' => e = .returned (.int .i64 ((pl ⟨b, sp, pt⟩ p : Nat) : Int)) ∧ Fr New w9 w') := fun w9 => by rw [HBB.out]; exact twplace_any 1 sp pt b p w9 (by omega) (by omega)
                have HMX : Hid (∀ w9, Fr New wr w9 → Calls Tryz.prog 147 #[rowV (some ⟨g, 0, none⟩) L c, .slice (some ⟨gl, 0, none⟩) l.length cv, .int .i64 ((pl ⟨b, sp, pt⟩ p : Nat) : Int)] w9 fun e w' => e = .returned (.tuple #[]) ∧ ∃ cur', Mem2 w g c L cur' w' ∧ Zeroed w2 cur' (fun q => midZ w2 l i q ∨ ptrZ1 w2 l ⟨b, sp, pt⟩ (p + 1) q) ∧ Fr (But g) w9 w') := fun w9 hf9 => by
                  refine (HMH.out w9 cur _ (pl ⟨b, sp, pt⟩ p) (hF.same hf9) (hM.grow hf9) hZ (by unfold pl; simp only; omega)).mono ?_
                  rintro e w' ⟨rfl, cur', h1, h2, h3⟩
                  exact ⟨rfl, cur', h1, h2.congr (fun q => by rw [or_assoc]; exact or_congr Iff.rfl (ptrZ1_succ q)), h3⟩
                have HMC : Hid (∀ w7, Fr (But g) wr w7 → ∀ j, j < 33 → w7.cell? ⟨w5.heap.size, j, none⟩ = some (.bool (M.getD j false))) := fun w7 hf j hj => hf.cell (hmc j hj) (fun (he : w5.heap.size = g) => by omega)
                obtain ⟨pq, hpq⟩ : ∃ pq : Nat, pq = pl ⟨b, sp, pt⟩ p := ⟨_, rfl⟩
                rw [← hpq] at HPL HMX
                obtain ⟨ht, hz⟩ := block_cells htq
                clear hpq hmc
                go_wp2_with (first
                  | (go_at_call 60; refine (HPL.out _).mono ?_; rintro e w9 ⟨rfl, hf9⟩)
                  | (go_at_call 147; refine (HMX.out w9 hf9).mono ?_; rintro e w7 ⟨rfl, cur', hm7, hz7, hf7⟩)
                  | fail)
                have hf79 : Fr (But g) wr w7 := ((Fr.refl (But g) wr).same hf9).trans hf7 (fun _ _ h => h)
                go_roundg (pt - (p + 1))
                case measure => omega
                case rel => exact ⟨p + 1, cur', by omega, rfl, by go_num, hm7, hF.trans hf79 (fun _ _ h => h), HMC.out w7 hf79, hf79.heap htq (fun (he : gt = g) => by omega), hz7⟩
              · obtain rfl : p = pt := by omega
                have hZn : Zeroed w2 cur (midZ w2 l (i + 1)) := hZ.congr (fun q => by
                  have := midZ_yes hi hrr q
                  rw [← HO.out] at this
                  exact this)
                have HMC : Hid (∀ j, j < 33 → wr.cell? ⟨w5.heap.size, j, none⟩ = some (.bool (M.getD j false))) := hmc
                clear hmc
                go_wp2
                go_roundg (l.length - (i + 1))
                case measure => omega
                case rel => exact ⟨i + 1, cur, by omega, rfl, by go_num, hM, hF, HMC.out, hZn⟩
        · obtain rfl : i = l.length := by omega
          have hd1 : decide ((l.length : Int) < (l.length : Int)) = false := by simp
          go_wp2
          go_end0
          exact ⟨rfl, cur, hM, hZ, hF⟩
end Go.Proofs.YtbagcjlimdilpaaGreat
/- The walk of the program's Repair: it meets the document's mathematics. -/
namespace Go.Proofs.YtbagcjlimdilpaaGreat
open Go.RowKit

theorem head_not {ws : List Int} {n : Nat} (hn : nblk ws.length = n) : ((headS (loggedS ws) n).2 = true ∧ (headS (loggedS ws) n).1 ≠ 7) ↔ ¬ headOk ws := by
  unfold headS headOk
  rw [hn]
  by_cases h0 : wd (loggedS ws) 0 = 20261114
  · rw [if_neg (by simpa using h0)]
    by_cases h1 : wd (loggedS ws) 1 = n
    · rw [if_neg (by simpa using h1)]
      split <;> simp [h0, h1]
    · rw [if_pos h1]; simp [h1]
  · rw [if_pos h0]; simp [h0]
theorem bad_take {l : List Nat} {i : Nat} (hi : i < l.length) {b : Nat} (hb : l[i] = 106 + 8 * b) (q : Nat) : ((q ∈ l.take i) ∨ leakZ1 ⟨b, 1, 0⟩ 1 q) ↔ q ∈ l.take (i + 1) := by
  rw [List.take_succ_eq_append_getElem hi, List.mem_append, List.mem_singleton, hb]
  refine or_congr Iff.rfl ?_
  unfold leakZ1
  constructor
  · rintro ⟨b', h1, h2⟩
    obtain rfl : b' = 0 := by omega
    simpa using h2
  · intro h
    exact ⟨0, by omega, by simpa using h⟩
theorem LiesB.at {w : World} {a : Option Addr} {n c : Nat} {l : List Nat} (h : LiesB w (.slice a n c) l) (i : Nat) (hi : i < l.length) :
    ∃ g, a = some ⟨g, 0, none⟩ ∧ w.cell? ⟨g, i * 4, none⟩ = some (.int .i64 2) ∧ w.cell? ⟨g, i * 4 + 1, none⟩ = some (.int .i64 (((l[i] - 106) / 8 + 1 : Nat) : Int)) ∧ w.cell? ⟨g, i * 4 + 2, none⟩ = some (.int .i64 1) ∧ w.cell? ⟨g, i * 4 + 3, none⟩ = some (.int .i64 0) := by
  obtain ⟨a', c', e, hc⟩ := h
  cases e
  obtain ⟨g, e, hcc⟩ := hc (by omega)
  exact ⟨g, e, hcc i hi⟩

theorem head_index (x0 x1 x2 x3 x4 x5 x6 x7 : Int) (w : World) : (Instr.index 126 (.agg #[.int .u64 x0, .int .u64 x1, .int .u64 x2, .int .u64 x3, .int .u64 x4, .int .u64 x5, .int .u64 x6, .int .u64 x7]) (.int .i64 7)).run Tryz.prog w = .ok (.int .u64 x7) w := by kernel_rfl
set_option maxHeartbeats 4000000 in
set_option maxRecDepth 100000 in
theorem soundRepair_any {w : World} {g c : Nat} {ws : List Int} (W : World) (M : Mem2 w g c ws.length ws W) (hU : ∀ z ∈ ws, U z) (hn : nblk ws.length ≠ 0) :
    Calls Tryz.prog 61 #[rowV (some ⟨g, 0, none⟩) ws.length c] W fun e w' => ∃ (cd : Int) (r r' : List Int), e = .returned (.int .i64 cd) ∧ RepairIs ws r cd ∧ Mem2 w g c ws.length r' w' ∧ (cd = 0 → r' = r) ∧ (cd ≠ 0 → r = []) := by
  obtain ⟨hlen, hn1, hn2⟩ := nblk_some hn
  obtain ⟨n, hnn⟩ : ∃ n, n = nblk ws.length := ⟨_, rfl⟩
  rw [← hnn] at hlen hn1 hn2
  have HN : Hid (nblk ws.length ≠ 0 ∧ nblk ws.length = n) := ⟨hn, hnn.symm⟩
  have HAS : Hid (Calls Tryz.prog 96 #[rowV (some ⟨g, 0, none⟩) ws.length c] W fun e w' => ∃ v, e = .returned (.tuple #[v, .bool (asksS ws).2]) ∧ ((asksS ws).2 = true → OwnR W.heap.size w' v ws (asksS ws).1) ∧ Fr New W w') := asked_any g 0 c ws W (by omega) (by omega) hU M.cells
  have HRE : Hid (∀ v w1, Fr New W w1 → OwnR W.heap.size w1 v ws (asksS ws).1 → Calls Tryz.prog 109 #[rowV (some ⟨g, 0, none⟩) ws.length c, v] w1 fun e w' => e = .returned (.tuple #[]) ∧ Mem2 w g c ws.length (doneS ws (asksS ws).1) w' ∧ Fr (But g) w1 w') := fun v w1 hf ho => redo_any v w1 (M.grow hf) ho hU (asks_le ws) (fun i hi => asks_ok hi)
  obtain ⟨L, hL⟩ : ∃ L, L = ws.length := ⟨_, rfl⟩
  obtain ⟨lg, hlg⟩ : ∃ lg, lg = loggedS ws := ⟨_, rfl⟩
  have HLG : Hid (lg = loggedS ws) := hlg
  have hlgl : lg.length = L := by rw [hlg, loggedS_len, hL]
  have HPU : Hid (∀ (cur : List Int) (y : Int) (k : Nat) w1, Mem2 w g c L cur w1 → k < L → Calls Tryz.prog 152 #[.slice (some ⟨g, 0, none⟩) L c, .int .i64 (k : Nat), .int .u64 y] w1 fun e w' => e = .returned (.tuple #[]) ∧ Mem2 w g c L (cur.set k y) w' ∧ Fr (But g) w1 w') := fun cur y k w1 hM hk => put_any hM k y hk
  have HWH : Hid (∀ (cur : List Int) w1, Mem2 w g c L cur w1 → Calls Tryz.prog 98 #[rowV (some ⟨g, 0, none⟩) L c] w1 fun e w' => e = .returned (.tuple #[.int .i64 (headS cur n).1, .bool (headS cur n).2]) ∧ Fr New w1 w') := fun cur w1 hM => wrongHead_any g 0 L c n cur w1 hM.len (by rw [hL]; exact hlen) hn2 hM.cells
  have HSV : Hid (∀ w1, Mem2 w g c L lg w1 → Calls Tryz.prog 99 #[rowV (some ⟨g, 0, none⟩) L c] w1 fun e w' => ∃ vl vb, e = .returned (.tuple #[vl, vb]) ∧ OwnT w1.heap.size w' vl (objs lg) ∧ OwnB w1.heap.size w' vb (bads lg) ∧ Fr New w1 w') := fun w1 hM => by
    have := survey_any g 0 c n lg w1 (by rw [hlgl, hL]; exact hnn.symm) (by omega) (fun i hi => hM.cells i (by omega))
    rwa [hlgl] at this
  have HMH : Hid (∀ (v : Value) (cur : List Int) w1 B, Mem2 w g c L cur w1 → Zeroed lg cur (fun q => q ∈ bads lg) → OwnT B w1 v (objs lg) → Calls Tryz.prog 110 #[rowV (some ⟨g, 0, none⟩) L c, v] w1 fun e w' => e = .returned (.tuple #[]) ∧ ∃ cur', Mem2 w g c L cur' w' ∧ Zeroed cur cur' (fixZ cur (objs cur)) ∧ Fr (But g) w1 w') := fun v cur w1 B hM hZ ho => by
    have e := objs_zeroed hZ
    exact mendHolds_any v (objs cur) w1 hM rfl (by rw [e]; exact ho) (by rw [hZ.len, hlgl, hL, ← hnn]; omega)
  have HHO : Hid (∀ (cur : List Int) w1, Mem2 w g c L cur w1 → Calls Tryz.prog 111 #[rowV (some ⟨g, 0, none⟩) L c] w1 fun e w' => e = .returned (headA cur) ∧ Fr New w1 w') := fun cur w1 hM => headOf_any g 0 L c cur w1 hM.len (by omega) hM.cells
  have HBB : Hid (∀ i (hi : i < (bads lg).length), ∃ b, (bads lg)[i] = 106 + 8 * b ∧ 106 + 8 * (b + 1) ≤ L) := fun i hi => by
    obtain ⟨b, hb, e⟩ := walkF_bad (List.getElem_mem hi)
    refine ⟨b, e, ?_⟩
    rw [hlgl, hL, ← hnn] at hb
    omega
  have HBL : Hid ((bads lg).length ≤ 32) := bads_len lg
  have hmp := meth_put (some ⟨g, 0, none⟩) L c
  have hap := ahead_put (some ⟨g, 0, none⟩) L c
  have hmf : ∀ (fn : Fn) (first cap : Array Value) (w : World), (Instr.makeFunc fn first cap).run Tryz.prog w = .ok (.func fn first cap) w := fun _ _ _ _ => rfl
  rw [← hL] at HAS HRE M ⊢
  have hL1 : 114 ≤ L := by omega
  have hL2 : L ≤ 362 := by omega
  have HLG2 : Hid ((asksS ws).2 = true → (doneS ws (asksS ws).1).set 8 0 = lg) := fun h => by rw [hlg]; unfold loggedS; rw [if_pos h]
  have HLG3 : Hid ((asksS ws).2 = false → ws.set 8 0 = lg) := fun h => by rw [hlg]; unfold loggedS; rw [if_neg (by rw [h]; simp)]
  have HHN := head_not (ws := ws) (n := n) hnn.symm
  rw [← hlg] at HHN
  have HHN' : Hid (((headS lg n).2 = true ∧ (headS lg n).1 ≠ 7) ↔ ¬ headOk ws) := HHN
  have HLGL : Hid (lg.length = L) := hlgl
  clear hL hlg hlgl hnn hlen hn HHN
  obtain ⟨bo, hbo⟩ : ∃ bo, bo = (asksS ws).2 := ⟨_, rfl⟩
  rw [← hbo] at HAS HLG2 HLG3
  clear hbo
  go_enter Tryz.func61, Tryz.ntmps61
  go_upto_if 16 with (go_at_call 96; refine HAS.out.mono ?_; rintro e w1 ⟨v, rfl, hor, hf1⟩)
  go_cut [4] from 17 to 19 (fun s4 wx => s4 = .bool bo ∧ ∃ cur, Mem2 w g c L cur wx ∧ cur.set 8 0 = lg)
  case first =>
    cases bo with
    | true =>
      go_wp2_with (go_at_call 109; refine (HRE.out v w1 hf1 (hor rfl)).mono ?_; rintro e w2 ⟨rfl, hm2, hf2⟩)
      go_meet
      case rel => exact ⟨rfl, _, hm2, HLG2.out (by simp)⟩
    | false =>
      go_wp2_with fail
      go_meet
      case rel => exact ⟨rfl, _, M.grow hf1, HLG3.out (by simp)⟩
  case rest =>
    obtain ⟨rfl, cur, hmc, hcl⟩ := hcut
    have HCL : Hid (cur.set 8 0 = lg) := hcl
    have HP8 : Hid (Calls Tryz.prog 152 #[.slice (some ⟨g, 0, none⟩) L c, .int .i64 ((8 : Nat) : Int), .int .u64 0] wc fun e w' => e = .returned (.tuple #[]) ∧ Mem2 w g c L lg w' ∧ Fr (But g) wc w') := by rw [← hcl]; exact HPU.out cur 0 8 wc hmc (by omega)
    clear hcl hor hf1 M
    rcases hs : headS lg n with ⟨hp, hb⟩
    have HHD : Hid (headS lg n = (hp, hb)) := hs
    have HWX : Hid (∀ w1, Mem2 w g c L lg w1 → Calls Tryz.prog 98 #[rowV (some ⟨g, 0, none⟩) L c] w1 fun e w' => e = .returned (.tuple #[.int .i64 hp, .bool hb]) ∧ Fr New w1 w') := fun w1 hM => by have := HWH.out lg w1 hM; rwa [hs] at this
    rw [hs] at HHN'
    simp only at HHN'
    clear hs
    by_cases hbad : hb = true ∧ hp ≠ 7
    · obtain ⟨rfl, hp7⟩ := hbad
      have HT : Hid (RepairIs ws [] 3) := .inr ⟨HN.out.1, .inl ⟨HHN'.out.1 ⟨rfl, hp7⟩, rfl, rfl⟩⟩
      have hd7 : (hp != 7) = true := by simpa using hp7
      go_wp2_with (first
        | (go_at_call 152; refine HP8.out.mono ?_; rintro e w3 ⟨rfl, hm3, hf3⟩)
        | (go_at_call 98; refine (HWX.out w3 hm3).mono ?_; rintro e w4 ⟨rfl, hf4⟩))
      go_ret
      exact ⟨3, [], lg, rfl, HT.out, hm3.grow hf4, (fun h => by cases h), fun _ => rfl⟩
    · have HOKH : Hid (headOk ws) := by
        by_cases h : headOk ws
        · exact h
        · exact absurd (HHN'.out.2 h) hbad
      have hway : (hb = false) ∨ (hb = true ∧ hp = 7) := by
        cases hb with
        | false => exact .inl rfl
        | true => right; refine ⟨rfl, ?_⟩; by_cases h : hp = 7; exact h; exact absurd ⟨rfl, h⟩ hbad
      clear hbad HHN' HHD
      rcases hway with rfl | ⟨rfl, rfl⟩
      all_goals
        go_wp2_with (first
          | (go_at_call 152; refine HP8.out.mono ?_; rintro e w3 ⟨rfl, hm3, hf3⟩)
          | (go_at_call 98; refine (HWX.out w3 hm3).mono ?_; rintro e w4 ⟨rfl, hf4⟩)
          | (go_at_call 99; refine (HSV.out w4 (hm3.grow hf4)).mono ?_; rintro e w5 ⟨vl, vb, rfl, hol, hob, hf5⟩; have hm5 := (hm3.grow hf4).grow hf5; obtain ⟨ab, cb, rfl⟩ := own_slice hob)
          | fail)
        have HOB : Hid (∀ wr, Fr (But g) w5 wr → OwnB w4.heap.size wr (.slice ab (bads lg).length cb) (bads lg)) := fun wr hf => own_but hm5 hf hob (by decide)
        have HOL : Hid (∀ wr, Fr (But g) w5 wr → OwnT w4.heap.size wr vl (objs lg)) := fun wr hf => own_but hm5 hf hol (by decide)
        clear hol hob hmc
        obtain ⟨NB, hNB⟩ : ∃ NB, NB = (bads lg).length := ⟨_, rfl⟩
        have HNB : Hid (NB = (bads lg).length) := hNB
        have hNB32 : NB ≤ 32 := by rw [hNB]; exact HBL.out
        rw [← hNB]
        rw [← hNB] at HOB
        clear hNB
        go_loopg [39] NB (fun gh t wr => ∃ (i : Nat) (cur : List Int), i ≤ NB ∧ gh = NB - i ∧ t = .int .i64 i ∧ Mem2 w g c L cur wr ∧ Fr (But g) w5 wr ∧ Zeroed lg cur (fun q => q ∈ (bads lg).take i))
        case atStart => exact ⟨0, lg, by omega, rfl, rfl, hm5, Fr.refl _ _, zeroed_self lg (fun q h => by simp at h)⟩
        case round =>
          clear hm5
          obtain ⟨i, cur, hiN, rfl, rfl, hM, hF, hZ⟩ := hrel
          by_cases hi : i < NB
          · have hd0 : decide ((i : Int) < (NB : Int)) = true := by simp; omega
            have hi' : i < (bads lg).length := by rw [← HNB.out]; exact hi
            obtain ⟨b, hb, hbL⟩ := HBB.out i hi'
            obtain ⟨gb, rfl, e0, e1, e2, e3⟩ := (liesB_own (by rw [HNB.out] at HOB; exact HOB.out wr hF)).at i hi'
            rw [hb, show (106 + 8 * b - 106) / 8 = b by omega] at e1
            have HCL : Hid (∀ wr', Mem2 w g c L cur wr' → Calls Tryz.prog 72 #[.agg #[.int .i64 2, .int .i64 ((b + 1 : Nat) : Int), .int .i64 1, .int .i64 0], rowV (some ⟨g, 0, none⟩) L c] wr' fun e w' => e = .returned (.tuple #[]) ∧ ∃ cur', Mem2 w g c L cur' w' ∧ Zeroed lg cur' (fun q => q ∈ (bads lg).take (i + 1)) ∧ Fr (But g) wr' w') := fun wr' hM' => by
              refine (clear_any 2 ⟨b, 1, 0⟩ wr' hM' hZ HLGL.out hbL (by omega)).mono ?_
              rintro e w' ⟨rfl, cur', h1, h2, h3⟩
              exact ⟨rfl, cur', h1, h2.congr (fun q => bad_take hi' hb q), h3⟩
            obtain ⟨B', hB'⟩ : ∃ B' : Nat, B' = b + 1 := ⟨_, rfl⟩
            rw [← hB'] at e1 HCL
            clear hB' hb
            go_wp2_with (go_at_call 72; refine (HCL.out _ (hM.grow ((Fr.refl _ _).alloc _))).mono ?_; rintro e w7 ⟨rfl, cur', hm7, hz7, hf7⟩)
            have hf8 : Fr (But g) wr w7 := ((Fr.refl (But g) wr).alloc _).trans hf7 (fun _ _ h => h)
            go_roundg (NB - (i + 1))
            case measure => omega
            case rel => exact ⟨i + 1, cur', by omega, rfl, by go_num, hm7, hF.trans hf8 (fun _ _ h => h), hz7⟩
          · obtain rfl : i = NB := by omega
            have hd0 : decide ((i : Int) < (i : Int)) = false := by simp
            have hZ2 : Zeroed lg cur (fun q => q ∈ bads lg) := hZ.congr (fun q => by rw [HNB.out, List.take_length])
            have HMX : Hid (Calls Tryz.prog 110 #[rowV (some ⟨g, 0, none⟩) L c, vl] wr fun e w' => e = .returned (.tuple #[]) ∧ ∃ cur', Mem2 w g c L cur' w' ∧ Zeroed cur cur' (fixZ cur (objs cur)) ∧ Fr (But g) wr w') := HMH.out vl cur wr _ hM hZ2 (HOL.out wr hF)
            go_upto_region 15 with (go_at_call 110; refine HMX.out.mono ?_; rintro e w7 ⟨rfl, w3', hm7, hz7, hf7⟩)
            have HT : Hid (RepairIs ws (w3'.set 7 (sumL (w3'.take 7))) 0) := .inr ⟨HN.out.1, .inr ⟨HOKH.out, rfl, cur, w3', by rw [← HLG.out]; exact hZ2, hz7, rfl⟩⟩
            have h7 : w3'.take 7 = [wd w3' 0, wd w3' 1, wd w3' 2, wd w3' 3, wd w3' 4, wd w3' 5, wd w3' 6] := take_seven (by rw [hm7.len]; omega)
            have HP7 : Hid (∀ w8, Fr New w7 w8 → Calls Tryz.prog 152 #[.slice (some ⟨g, 0, none⟩) L c, .int .i64 ((7 : Nat) : Int), .int .u64 (sumL [wd w3' 0, wd w3' 1, wd w3' 2, wd w3' 3, wd w3' 4, wd w3' 5, wd w3' 6])] w8 fun e w' => e = .returned (.tuple #[]) ∧ Mem2 w g c L (w3'.set 7 (sumL (w3'.take 7))) w' ∧ Fr (But g) w8 w') := fun w8 hf => by rw [h7]; exact HPU.out w3' _ 7 w8 (hm7.grow hf) (by omega)
            have HHX : Hid (∀ w8, Fr New w7 w8 → Calls Tryz.prog 111 #[rowV (some ⟨g, 0, none⟩) L c] w8 fun e w' => e = .returned (headA w3') ∧ Fr New w8 w') := fun w8 hf => HHO.out w3' w8 (hm7.grow hf)
            have hix := head_index
            clear h7 hz7 hZ hZ2
            go_region_with (first
              | (go_at_call 111; refine (HHX.out _ (by first | exact (Fr.refl New w7).drew | exact Fr.refl New w7)).mono ?_; rintro e w8 ⟨rfl, hf8⟩; have hf8' : Fr New w7 w8 := (by first | exact (Fr.refl New w7).drew.same hf8 | exact hf8))
              | (go_at_call 112; refine (sealed_any _ _ _ _ _ _ _ _ _).mono ?_; rintro e w9 ⟨rfl, hf9⟩; have hf9' : Fr New w7 w9 := hf8'.same hf9)
              | (go_at_call 152; refine (HP7.out _ hf9').mono ?_; rintro e w10 ⟨rfl, hm10, hf10⟩))
            all_goals
              go_wp2_with fail
              go_ret
              exact ⟨0, _, _, rfl, HT.out, hm10, fun _ => rfl, fun h => absurd rfl h⟩
end Go.Proofs.YtbagcjlimdilpaaGreat
/- The walk of the program's Repair: it meets the document's mathematics. -/
namespace Go.Proofs.YtbagcjlimdilpaaGreat
open Go.RowKit

theorem mem2_row {w w4 : World} {ws : List Int} (hb : Row w4 w.heap.size ws) (hf : Fr New w w4) (hm : ws.length ≤ 1048576) : Mem2 w w.heap.size ws.length ws.length ws w4 :=
  ⟨⟨by simp, .inr ⟨w.heap.size, ws.length, _, rfl, Nat.le_refl _, hb, Nat.le_refl _, by unfold maxLen; omega, by simp, by simp [List.take_of_length_le]⟩⟩, rfl, hf⟩
theorem Mem2.row {w : World} {g L : Nat} {cur : List Int} {wr : World} (h : Mem2 w g L L cur wr) : Row wr g cur := Row.ofOwn h.own rfl

set_option maxHeartbeats 1000000 in
set_option maxRecDepth 100000 in
theorem prepair_any (a : Option Addr) (cap : Nat) (ws : List Int) (w : World) (hm : ws.length ≤ 1048576) (hU : ∀ z ∈ ws, U z) (hr : RowU w a ws) :
    Calls Tryz.prog 32 #[.slice a ws.length cap] w fun e w' => ∃ v r c, e = .returned (.tuple #[v, .int .i64 c]) ∧ RepairIs ws r c ∧ ((c ≠ 0 ∧ v = .slice none 0 0 ∧ r = []) ∨ (c = 0 ∧ v = .slice (some ⟨w.heap.size, 0, none⟩) ws.length ws.length ∧ Row w' w.heap.size r ∧ r.length = ws.length)) ∧ Fr New w w' := by
  by_cases hn : nblk ws.length = 0
  · have HT : Hid (RepairIs ws [] 2) := .inl ⟨hn, rfl, rfl⟩
    have HS : Hid (Calls Tryz.prog 46 #[.int .i64 ws.length] w fun e w' => e = .returned (.bool false) ∧ w' = w) := shaped_no _ w hm hn
    clear hn hr
    go_enter Tryz.func32, Tryz.ntmps32
    go_wp2_with (go_at_call 46; refine calls_same HS.out ?_)
    go_ret2
    exact ⟨_, [], 2, rfl, HT.out, .inl ⟨by decide, rfl, rfl⟩, Fr.refl _ _⟩
  · have HS : Hid (Calls Tryz.prog 46 #[.int .i64 ws.length] w fun e w' => e = .returned (.bool true) ∧ w' = w) := shaped_yes _ w hn
    have hp : 0 < ws.length := by have := (nblk_some hn).1; omega
    have HRP : Hid (∀ W, Row W w.heap.size ws → Fr New w W → Calls Tryz.prog 61 #[rowV (some ⟨w.heap.size, 0, none⟩) ws.length ws.length] W fun e w' => ∃ (cd : Int) (r r' : List Int), e = .returned (.int .i64 cd) ∧ RepairIs ws r cd ∧ Mem2 w w.heap.size ws.length ws.length r' w' ∧ (cd = 0 → r' = r) ∧ (cd ≠ 0 → r = [])) := fun W hR hF => soundRepair_any W (mem2_row hR hF hm) hU hn
    have HC : Hid (Calls Tryz.prog 51 #[.slice a ws.length cap] w fun e w' => e = .returned (.slice (some ⟨w.heap.size, 0, none⟩) ws.length ws.length) ∧ Row w' w.heap.size ws ∧ Fr New w w') := kcopy_any a cap ws w hm hp hr
    obtain ⟨L, hL⟩ : ∃ L, L = ws.length := ⟨_, rfl⟩
    rw [← hL] at HS HRP HC hm hp ⊢
    clear hn hr hL hU
    go_enter Tryz.func32, Tryz.ntmps32
    go_wp2_with (first
      | (go_at_call 46; refine calls_same HS.out ?_)
      | (go_at_call 51; refine HC.out.mono ?_; rintro e w4 ⟨rfl, hr4, hf4⟩)
      | (go_at_call 61; refine (HRP.out w4 hr4 hf4).mono ?_; rintro e w5 ⟨cd, r, r', rfl, hri, hm5, hc0, hc1⟩)
      | fail)
    · rename_i h
      go_ret2
      exact ⟨_, r, cd, rfl, hri, .inl ⟨by simpa using h, rfl, hc1 (by simpa using h)⟩, hm5.fr⟩
    · rename_i h
      have e0 : cd = 0 := by simpa using h
      obtain rfl := hc0 e0
      subst e0
      go_ret2
      exact ⟨_, _, 0, rfl, hri, .inr ⟨rfl, rfl, hm5.row, hm5.len⟩, hm5.fr⟩
end Go.Proofs.YtbagcjlimdilpaaGreat
/- The walk of the law's 'plain' for Check: the answer is the document's. -/
namespace Go.Proofs.YtbagcjlimdilpaaGreat
open Go.RowKit

theorem lpick_any (c n : Int) (w : World) (h0 : -9223372036854775808 ≤ c) (h1 : c ≤ 9223372036854775807) (hn : 0 < n) (hn1 : n ≤ 9223372036854775807) :
    Calls Tryz.prog 74 #[.int .i64 c, .int .i64 n] w fun e w' => e = .returned (.int .i64 (pickI c n)) ∧ w' = w := by
  by_cases hc : c < 0
  · go_enter Tryz.func74, Tryz.ntmps74
    go_wp2
    go_ret
    refine ⟨ret_i ?_, rfl⟩
    unfold pickI
    rw [if_pos hc, ← Int.neg_tmod, Int.tmod_eq_emod_of_nonneg (by omega)]
  · go_enter Tryz.func74, Tryz.ntmps74
    go_wp2
    go_ret
    refine ⟨ret_i ?_, rfl⟩
    unfold pickI
    rw [if_neg (by omega)]


/-- a step, as a value -/
abbrev opV (k A D C V : Int) (Wa : Option Addr) (Wl Wc : Nat) : Value := .agg #[.int .i64 k, .int .i64 A, .int .i64 D, .int .i64 C, .int .u64 V, .slice Wa Wl Wc]

end Go.Proofs.YtbagcjlimdilpaaGreat
/- The law's 'plain' for Check and Repair, beside heaps. -/
namespace Go.Proofs.YtbagcjlimdilpaaGreat
open Go.RowKit

theorem U_zeroX : U 0 := ⟨by decide, by decide⟩
theorem U_of_wdX {r : List Int} (h : ∀ q, U (wd r q)) : ∀ z ∈ r, U z := by
  intro z hz
  obtain ⟨i, hi, rfl⟩ := List.getElem_of_mem hz
  have := h i
  unfold wd at this
  rwa [List.getD_eq_getElem?_getD, List.getElem?_eq_getElem hi] at this
theorem set_UX {r : List Int} {q : Nat} {v : Int} (h : ∀ z ∈ r, U z) (hv : U v) : ∀ z ∈ r.set q v, U z := by
  intro z hz
  rcases List.mem_or_eq_of_mem_set hz with h' | rfl
  · exact h z h'
  · exact hv
theorem Zeroed.UX {w2 cur : List Int} {Z : Nat → Prop} (h : Zeroed w2 cur Z) (hU : ∀ z ∈ w2, Go.Proofs.YtbagcjlimdilpaaGreat.U z) : ∀ z ∈ cur, Go.Proofs.YtbagcjlimdilpaaGreat.U z :=
  U_of_wdX (fun q => by
    by_cases hz : Z q
    · rw [h.yes q hz]; exact U_zeroX
    · rw [h.no q hz]; exact wd_U hU q)
theorem repair_UX {ws r : List Int} (h : RepairIs ws r 0) (hU : ∀ z ∈ ws, U z) : (∀ z ∈ r, U z) ∧ r.length = ws.length ∧ 0 < ws.length := by
  rcases h with ⟨_, h, _⟩ | ⟨hn, ⟨_, h, _⟩ | ⟨_, _, w2, w3, z2, z3, rfl⟩⟩
  · cases h
  · cases h
  · have hlg : ∀ z ∈ loggedS ws, U z := by
      unfold loggedS
      refine set_UX ?_ U_zeroX
      split
      · exact doneS_U hU _
      · exact hU
    refine ⟨set_UX (z3.UX (z2.UX hlg)) (sumL_U _), ?_, by have := (nblk_some hn).1; omega⟩
    rw [List.length_set, z3.len, z2.len, loggedS_len]

theorem img_UX (n : Nat) (h : n ≤ 32) : ∀ z ∈ imgL n, U z := by
  intro z hz
  unfold imgL at hz
  rcases List.mem_append.1 hz with hz | hz
  · simp only [List.mem_cons, List.not_mem_nil, or_false] at hz
    rcases hz with rfl | rfl | rfl | rfl | rfl | rfl | rfl | rfl
    · exact ⟨by decide, by decide⟩
    · exact ⟨by omega, by omega⟩
    · exact U_zeroX
    · exact U_zeroX
    · exact U_zeroX
    · exact U_zeroX
    · exact U_zeroX
    · exact sumL_U _
  · rw [(List.mem_replicate.1 hz).2]; exact U_zeroX

/-- a step's numbers, as they come in -/
structure OpOkX (A D C V : Int) (zs : List Int) : Prop where
  a0 : -9223372036854775808 ≤ A
  a1 : A ≤ 9223372036854775807
  d0 : -9223372036854775808 ≤ D
  d1 : D ≤ 9223372036854775807
  c0 : -9223372036854775808 ≤ C
  c1 : C ≤ 9223372036854775807
  v : U V
  z : zs.length ≤ 1048576
  u : ∀ z ∈ zs, U z

set_option maxHeartbeats 4000000 in
set_option maxRecDepth 1000000 in
/-- no image: nothing is asked -/
theorem plain_noneX {K : Nat → Prop} {X : Rest} (B b c : Nat) (k A D C V : Int) (Wa : Option Addr) (Wl Wc : Nat) {vws : Value} {xs : List Value} {vb : Value} {es : List Entry} (w : World) (hk1 : k ≠ 1) (hk2 : k ≠ 2) (P : PartsX K X B b c vws 0 xs vb es w) :
    Calls Tryz.prog 73 #[.pointer (some ⟨b, 0, none⟩), opV k A D C V Wa Wl Wc] w fun e w' => e = .returned (.bool true) ∧ Fr New w w' := by
  obtain ⟨aw, cw, rfl⟩ := own_slice P.ws
  obtain ⟨hcb, hzb⟩ := block_cells P.bk
  have hd1 : (k == 1) = false := by simpa using hk1
  have hd2 : (k == 2) = false := by simpa using hk2
  have hbW := P.lt
  clear hk1 hk2
  go_enter Tryz.func73, Tryz.ntmps73
  go_wp2
  go_ret
  exact ⟨rfl, (Fr.refl _ _).alloc _⟩

set_option maxHeartbeats 8000000 in
set_option maxRecDepth 1000000 in
theorem plain_checkX {K : Nat → Prop} {X : Rest} (B b c : Nat) (A D C V : Int) (Wa : Option Addr) (Wl Wc : Nat) {vws : Value} {nw : Nat} {xs : List Value} {vb : Value} {es : List Entry} (w : World) (hA0 : -9223372036854775808 ≤ A) (hA1 : A ≤ 9223372036854775807) (hn : 0 < nw) (P : PartsX K X B b c vws nw xs vb es w) (I : ImgsX K w xs) :
    Calls Tryz.prog 73 #[.pointer (some ⟨b, 0, none⟩), opV 4 A D C V Wa Wl Wc] w fun e w' => e = .returned (.bool true) ∧ Fr New w w' := by
  have hn12 := P.few
  have hp0 := pickI_nonneg A nw (by omega)
  have hp1 := pickI_lt A nw (by omega)
  have HPK : Hid (∀ w, Calls Tryz.prog 74 #[.int .i64 A, .int .i64 nw] w fun e w' => e = .returned (.int .i64 (pickI A nw)) ∧ w' = w) := fun w => lpick_any A nw w hA0 hA1 (by omega) (by omega)
  obtain ⟨j, hj⟩ := Int.eq_ofNat_of_zero_le hp0
  rw [hj] at hp1 HPK
  have hjn : j < nw := by omega
  obtain ⟨gw, cw, av, cv, zs, rfl, hcj, hrz, hcz, hz1, hzU⟩ := P.pick I hn j hjn
  obtain ⟨hcb, hzb⟩ := block_cells P.bk
  have hbW := P.lt
  have hcb0 : w.cell? ⟨b, 0, none⟩ = some (.slice (some ⟨gw, 0, none⟩) nw cw) := (hcb 0).trans rfl
  have HRZ : Hid (∀ w', Fr New w w' → RowU w' av zs) := fun w' hf => rowU_fr hf hrz (fun _ _ h => h)
  have HLN : Hid (∀ w', Fr New w w' → Calls Tryz.prog 120 #[.slice av zs.length cv] w' fun e w'' => e = .returned (.slice (some ⟨w'.heap.size, 0, none⟩) (zs.length + 8) (zs.length + 8)) ∧ Row w'' w'.heap.size (withEight zs) ∧ Fr New w' w'') := fun w' hf => lent_any av cv zs w' (by omega) (HRZ.out w' hf)
  have HCK : Hid (∀ g w', Row w' g (withEight zs) → Calls Tryz.prog 33 #[.slice (some ⟨g, 0, none⟩) zs.length (zs.length + 8)] w' fun e w'' => ∃ c p, e = .returned (.tuple #[.int .i64 c, .int .i64 p]) ∧ CheckIs zs c p ∧ Fr New w' w'') := fun g w' hr => pcheck_any _ _ zs w' (by omega) (eight_row hr)
  have HCR : Hid (∀ w', Fr New w w' → Calls Tryz.prog 123 #[.slice av zs.length cv] w' fun e w'' => ∃ c p, e = .returned (.tuple #[.int .i64 c, .int .i64 p]) ∧ CheckIs zs c p ∧ Fr New w' w'') := fun w' hf => check_any av cv zs w' (by omega) hcz (HRZ.out w' hf)
  have HBK : Hid (∀ g w', Row w' g (withEight zs) → Fr New w w' → Calls Tryz.prog 122 #[.slice (some ⟨g, 0, none⟩) (zs.length + 8) (zs.length + 8), .slice av zs.length cv] w' fun e w'' => e = .returned (.bool true) ∧ Fr (fun k => k = g) w' w'') := fun g w' hr hf => back_true g av cv zs w' (by omega) hr (HRZ.out w' hf)
  have hnz : ((nw : Int) == 0) = false := by simp; omega
  have hj0 : (0 : Int) ≤ (j : Int) := by omega
  have hj1 : (j : Int) < (nw : Int) := by omega
  have hgw : gw < w.heap.size := World.block_lt_of_cell? w _ hcj
  obtain ⟨n, hnl⟩ : ∃ n, n = zs.length := ⟨_, rfl⟩
  rw [← hnl] at hcj HLN HCK HCR HBK hcz hz1
  clear hcb hzb hrz hzU hp0 hj hnl I
  go_enter Tryz.func73, Tryz.ntmps73
  go_upto_region 17 with fail
  go_quiet (first | (go_at_call 74; exact Calls.quiet_of_same (HPK.out _)) | fail)
  go_wp2_with (first
    | (go_at_call 120; refine (HLN.out _ (((Fr.refl New w).alloc _).drewN _)).mono ?_; rintro e w1 ⟨rfl, hr1, hf1⟩; have hf1' : Fr New w w1 := ((Fr.refl New w).alloc _).drewN _ |>.same hf1; obtain ⟨hcx, hzx⟩ := block_cells (hf1.heap (k := w.heap.size) (Go.Deep.blk_alloc_new w _) id); have hr1' : Row w1 (w.heap.size + 1) (withEight zs) := (by simpa using hr1))
    | (go_at_call 33; refine (HCK.out (w.heap.size + 1) w1 hr1').mono ?_; rintro e w2 ⟨cd, pp, rfl, hci, hf2⟩)
    | (go_at_call 123; refine (HCR.out w2 (hf1'.same hf2)).mono ?_; rintro e w3 ⟨cd', pp', rfl, hci', hf3⟩; obtain ⟨rfl, rfl⟩ := told_one hci hci')
    | (go_at_call 122; refine (HBK.out (w.heap.size + 1) w3 ((hr1'.fr hf2 id).fr hf3 id) ((hf1'.same hf2).same hf3)).mono ?_; rintro e w4 ⟨rfl, hf4⟩)
    | fail)
  go_ret
  exact ⟨rfl, ((hf1'.same hf2).same hf3).trans hf4 (fun j hj ht => by omega)⟩
set_option maxHeartbeats 8000000 in
set_option maxRecDepth 1000000 in
theorem plain_repairX {K : Nat → Prop} {X : Rest} (B b c : Nat) (A D C V : Int) (Wa : Option Addr) (Wl Wc : Nat) {vws : Value} {nw : Nat} {xs : List Value} {vb : Value} {es : List Entry} (w : World) (hA0 : -9223372036854775808 ≤ A) (hA1 : A ≤ 9223372036854775807) (hn : 0 < nw) (hc : c ≤ 1073741823) (P : PartsX K X B b c vws nw xs vb es w) (I : ImgsX K w xs) :
    Calls Tryz.prog 73 #[.pointer (some ⟨b, 0, none⟩), opV 5 A D C V Wa Wl Wc] w fun e w' => e = .returned (.bool true) ∧ Stay B w w' ∧ Inv2X K X B b (c + 1) w' := by
  have hn12 := P.few
  have hp0 := pickI_nonneg A nw (by omega)
  have hp1 := pickI_lt A nw (by omega)
  have HPK : Hid (∀ w, Calls Tryz.prog 74 #[.int .i64 A, .int .i64 nw] w fun e w' => e = .returned (.int .i64 (pickI A nw)) ∧ w' = w) := fun w => lpick_any A nw w hA0 hA1 (by omega) (by omega)
  obtain ⟨j, hj⟩ := Int.eq_ofNat_of_zero_le hp0
  rw [hj] at hp1 HPK
  have hjn : j < nw := by omega
  have P0 := P
  obtain ⟨gw, cw, av, cv, zs, rfl, hcj, hrz, hcz, hz1, hzU⟩ := P.pick I hn j hjn
  obtain ⟨hcb, hzb⟩ := block_cells P.bk
  have hbW := P.lt
  have hcb0 : w.cell? ⟨b, 0, none⟩ = some (.slice (some ⟨gw, 0, none⟩) nw cw) := (hcb 0).trans rfl
  have HRZ : Hid (∀ w', Fr New w w' → RowU w' av zs) := fun w' hf => rowU_fr hf hrz (fun _ _ h => h)
  have HLN : Hid (∀ w', Fr New w w' → Calls Tryz.prog 120 #[.slice av zs.length cv] w' fun e w'' => e = .returned (.slice (some ⟨w'.heap.size, 0, none⟩) (zs.length + 8) (zs.length + 8)) ∧ Row w'' w'.heap.size (withEight zs) ∧ Fr New w' w'') := fun w' hf => lent_any av cv zs w' (by omega) (HRZ.out w' hf)
  have HCK : Hid (∀ g w', Row w' g (withEight zs) → Calls Tryz.prog 32 #[.slice (some ⟨g, 0, none⟩) zs.length (zs.length + 8)] w' fun e w'' => ∃ v r c, e = .returned (.tuple #[v, .int .i64 c]) ∧ RepairIs zs r c ∧ ((c ≠ 0 ∧ v = .slice none 0 0 ∧ r = []) ∨ (c = 0 ∧ v = .slice (some ⟨w'.heap.size, 0, none⟩) zs.length zs.length ∧ Row w'' w'.heap.size r ∧ r.length = zs.length)) ∧ Fr New w' w'') := fun g w' hr => prepair_any _ _ zs w' (by omega) hzU (eight_row hr)
  have HCR : Hid (∀ w', Fr New w w' → Calls Tryz.prog 124 #[.slice av zs.length cv] w' fun e w'' => ∃ v r c, e = .returned (.tuple #[v, .int .i64 c]) ∧ RepairIs zs r c ∧ Own w'.heap.size w'' v r ∧ Fr New w' w'') := fun w' hf => repair_any av cv zs w' (by omega) hzU (HRZ.out w' hf)
  have HBK : Hid (∀ g w', Row w' g (withEight zs) → Fr New w w' → Calls Tryz.prog 122 #[.slice (some ⟨g, 0, none⟩) (zs.length + 8) (zs.length + 8), .slice av zs.length cv] w' fun e w'' => e = .returned (.bool true) ∧ Fr (fun k => k = g) w' w'') := fun g w' hr hf => back_true g av cv zs w' (by omega) hr (HRZ.out w' hf)
  have hnz : ((nw : Int) == 0) = false := by simp; omega
  have hj0 : (0 : Int) ≤ (j : Int) := by omega
  have hj1 : (j : Int) < (nw : Int) := by omega
  have hgw : gw < w.heap.size := World.block_lt_of_cell? w _ hcj
  have HU : Hid (∀ r, RepairIs zs r 0 → (∀ z ∈ r, U z) ∧ r.length = zs.length ∧ 0 < zs.length) := fun r h => repair_UX h hzU
  obtain ⟨n, hnl⟩ : ∃ n, n = zs.length := ⟨_, rfl⟩
  rw [← hnl] at hcj HLN HCK HCR HBK hcz hz1 HU
  clear hcb hzb hrz hzU hp0 hj hnl
  by_cases hex : ∃ r, RepairIs zs r 0
  · obtain ⟨r0, hr0⟩ := hex
    obtain ⟨hU0, hl0, hpos⟩ := HU.out r0 hr0
    have HR0 : Hid (RepairIs zs r0 0) := hr0
    have HL0 : Hid (r0.length = n) := hl0
    have HU0 : Hid (∀ z ∈ r0, U z) := hU0
    clear hr0 hU0 hl0 HU
    have HCK2 : Hid (∀ g w', Row w' g (withEight zs) → Calls Tryz.prog 32 #[.slice (some ⟨g, 0, none⟩) n (n + 8)] w' fun e w'' => e = .returned (.tuple #[.slice (some ⟨w'.heap.size, 0, none⟩) n n, .int .i64 0]) ∧ Row w'' w'.heap.size r0 ∧ Fr New w' w'') := fun g w' hr => by
      refine (HCK.out g w' hr).mono ?_
      rintro e w2 ⟨v, r, c, rfl, hri, hv, hf⟩
      obtain ⟨rfl, rfl⟩ := repair_one hri HR0.out
      rcases hv with ⟨h, _⟩ | ⟨_, rfl, hrow, _⟩
      · exact absurd rfl h
      · exact ⟨rfl, hrow, hf⟩
    have HCR2 : Hid (∀ w', Fr New w w' → Calls Tryz.prog 124 #[.slice av n cv] w' fun e w'' => ∃ gy cy, e = .returned (.tuple #[.slice (some ⟨gy, 0, none⟩) n cy, .int .i64 0]) ∧ w'.heap.size ≤ gy ∧ w''.ownsRow w'.heap.size 50 1 (.slice (some ⟨gy, 0, none⟩) n cy) n (r0.map (Value.int .u64)) ∧ Fr New w' w'') := fun w' hf => by
      refine (HCR.out w' hf).mono ?_
      rintro e w2 ⟨v, r, c, rfl, hri, ho, hf2⟩
      obtain ⟨rfl, rfl⟩ := repair_one hri HR0.out
      have ho' := ho
      unfold Own at ho'
      rw [HL0.out] at ho'
      obtain ⟨gy, cy, rfl, _, _⟩ := ho'.form hpos
      exact ⟨gy, cy, rfl, (own_block ho' rfl).1, ho', hf2⟩
    clear HCK HCR
    go_enter Tryz.func73, Tryz.ntmps73
    go_upto_region 17 with fail
    go_quiet (first | (go_at_call 74; exact Calls.quiet_of_same (HPK.out _)) | fail)
    go_wp2_with (first
      | (go_at_call 120; refine (HLN.out _ (((Fr.refl New w).alloc _).drewN _)).mono ?_; rintro e w1 ⟨rfl, hr1, hf1⟩; have hf1' : Fr New w w1 := ((Fr.refl New w).alloc _).drewN _ |>.same hf1; obtain ⟨hcx, hzx⟩ := block_cells (hf1.heap (k := w.heap.size) (Go.Deep.blk_alloc_new w _) id); have hr1' : Row w1 (w.heap.size + 1) (withEight zs) := (by simpa using hr1); have hs1 : w.heap.size + 1 < w1.heap.size := hr1'.lt)
      | (go_at_call 32; refine (HCK2.out (w.heap.size + 1) w1 hr1').mono ?_; rintro e w2 ⟨rfl, hx2, hf2⟩; have hs2 : w1.heap.size < w2.heap.size := hx2.lt)
      | (go_at_call 124; refine (HCR2.out w2 (hf1'.same hf2)).mono ?_; rintro e w3 ⟨gy, cy, rfl, hgy, hy3, hf3⟩; have hx3 := hx2.fr hf3 id; have hrl3 : Row w3 (w.heap.size + 1) (withEight zs) := (hr1'.fr hf2 id).fr hf3 id)
      | (go_at_call 87; refine (same_len _ _ _ _ r0 n w3 HL0.out (by unfold maxLen; omega) hx3.rowU (rowU_own hy3)).mono ?_; rintro e w4 ⟨rfl, n4, hw4⟩; have hf4 : Fr New w3 w4 := (by rw [hw4]; exact (Fr.refl New w3).drewN _); have hrl4 : Row w4 (w.heap.size + 1) (withEight zs) := (by rw [hw4]; exact hrl3); have hx4 : Row w4 w1.heap.size r0 := (by rw [hw4]; exact hx3); have hy4 := hf4.owns hy3 (fun _ _ h => h); have hw14 : Fr New w w4 := ((hf1'.same hf2).same hf3).same hf4; clear hw4)
      | (go_at_call 122; refine (HBK.out (w.heap.size + 1) w4 hrl4 hw14).mono ?_; rintro e w5 ⟨rfl, hf5⟩; have hw15 : Fr New w w5 := hw14.trans hf5 (fun j hj ht => by omega); have hx5 : Row w5 w1.heap.size r0 := hx4.fr hf5 (fun he => by omega); have hy5 := hf5.owns hy4 (fun g hg he => by simp [Value.ownBlock] at hg; omega))
      | (go_at_call 88; refine (words2_partsX P I hw15 hc (some ⟨w1.heap.size, 0, none⟩) (fun g hg => by simp only [Option.some.injEq, Addr.mk.injEq] at hg; omega) r0 n HL0.out (by omega) (.inr ⟨_, rfl, hx5⟩)).mono ?_; rintro e w6 ⟨rfl, vb', es', P6, I6, h6, h56⟩; have hy6 : w6.ownsRow w2.heap.size 50 1 (.slice (some ⟨gy, 0, none⟩) n cy) n (r0.map (Value.int .u64)) := h56.owns hy5 (fun g hg ht => by simp [Value.ownBlock] at hg; subst hg; obtain ⟨_, cur, hh⟩ := own_block hy5 rfl; rcases ht with h | h | h; exact type_ne hh (P.fr hw15).bk (by decide) h; (simp only [Option.some.injEq, Addr.mk.injEq] at h; omega); (obtain ⟨_, cur', hh'⟩ := own_block (P.fr hw15).own h; exact type_ne hh hh' (by decide) rfl)))
      | (go_at_call 89; refine (image2_partsX P6 I6 ⟨gy, 0, none⟩ r0 n cy HL0.out (by omega) HU0.out (rowU_own hy6)).mono ?_; rintro e w7 ⟨rfl, I7, h7⟩)
      | fail)
    go_ret
    exact ⟨rfl, P0.stay (Parts.imageFr h6 h7), I7⟩
  · have HNE : Hid (∀ r, ¬ RepairIs zs r 0) := fun r h => hex ⟨r, h⟩
    clear hex HU
    have HCK2 : Hid (∀ g w', Row w' g (withEight zs) → Calls Tryz.prog 32 #[.slice (some ⟨g, 0, none⟩) n (n + 8)] w' fun e w'' => ∃ c : Int, e = .returned (.tuple #[.slice none 0 0, .int .i64 c]) ∧ c ≠ 0 ∧ RepairIs zs [] c ∧ Fr New w' w'') := fun g w' hr => by
      refine (HCK.out g w' hr).mono ?_
      rintro e w2 ⟨v, r, c, rfl, hri, hv, hf⟩
      rcases hv with ⟨h, rfl, rfl⟩ | ⟨rfl, _⟩
      · exact ⟨c, rfl, h, hri, hf⟩
      · exact absurd hri (HNE.out r)
    have HCR2 : Hid (∀ c0, RepairIs zs [] c0 → ∀ w', Fr New w w' → Calls Tryz.prog 124 #[.slice av n cv] w' fun e w'' => ∃ ay cy, e = .returned (.tuple #[.slice ay 0 cy, .int .i64 c0]) ∧ Fr New w' w'') := fun c0 h0 w' hf => by
      refine (HCR.out w' hf).mono ?_
      rintro e w2 ⟨v, r, c, rfl, hri, ho, hf2⟩
      obtain ⟨rfl, rfl⟩ := repair_one hri h0
      obtain ⟨ay, cy, rfl⟩ := own_slice ho
      exact ⟨ay, cy, rfl, hf2⟩
    clear HCK HCR
    go_enter Tryz.func73, Tryz.ntmps73
    go_upto_region 17 with fail
    go_quiet (first | (go_at_call 74; exact Calls.quiet_of_same (HPK.out _)) | fail)
    go_wp2_with (first
      | (go_at_call 120; refine (HLN.out _ (((Fr.refl New w).alloc _).drewN _)).mono ?_; rintro e w1 ⟨rfl, hr1, hf1⟩; have hf1' : Fr New w w1 := ((Fr.refl New w).alloc _).drewN _ |>.same hf1; obtain ⟨hcx, hzx⟩ := block_cells (hf1.heap (k := w.heap.size) (Go.Deep.blk_alloc_new w _) id); have hr1' : Row w1 (w.heap.size + 1) (withEight zs) := (by simpa using hr1))
      | (go_at_call 32; refine (HCK2.out (w.heap.size + 1) w1 hr1').mono ?_; rintro e w2 ⟨cd, rfl, hcd, hri, hf2⟩; have hcd0 : (cd == 0) = false := (by simpa using hcd))
      | (go_at_call 124; refine (HCR2.out cd hri w2 (hf1'.same hf2)).mono ?_; rintro e w3 ⟨ay, cy, rfl, hf3⟩; have hrl3 : Row w3 (w.heap.size + 1) (withEight zs) := (hr1'.fr hf2 id).fr hf3 id)
      | (go_at_call 87; refine (same_len none ay 0 cy [] 0 w3 rfl (by decide) (rowU_nil _ _) (rowU_nil _ _)).mono ?_; rintro e w4 ⟨rfl, n4, hw4⟩; have hf4 : Fr New w3 w4 := (by rw [hw4]; exact (Fr.refl New w3).drewN _); have hrl4 : Row w4 (w.heap.size + 1) (withEight zs) := (by rw [hw4]; exact hrl3); have hw14 : Fr New w w4 := ((hf1'.same hf2).same hf3).same hf4; clear hw4)
      | (go_at_call 122; refine (HBK.out (w.heap.size + 1) w4 hrl4 hw14).mono ?_; rintro e w5 ⟨rfl, hf5⟩; have hw15 : Fr New w w5 := hw14.trans hf5 (fun j hj ht => by omega))
      | (go_at_call 88; refine (words2_partsX P I hw15 hc none (fun g hg => by cases hg) [] 0 rfl (by omega) (.inl ⟨rfl, rfl⟩)).mono ?_; rintro e w6 ⟨rfl, vb', es', P6, I6, h6, h56⟩)
      | fail)
    go_ret
    exact ⟨rfl, P0.stay h6, _, _, _, _, _, P6, I6⟩
end Go.Proofs.YtbagcjlimdilpaaGreat
