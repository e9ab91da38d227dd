/- Texts that follow one another, joined. -/
import Derived.Test.YtbagcjlimdilpabGreatKtPgH
import Derived.Test.YtbagcjlimdilpabGreatKtJ7
import Derived.Test.YtbagcjlimdilpabGreatKtJ10
import Derived.Test.YtbagcjlimdilpabGreatKtJ8
import Derived.Test.YtbagcjlimdilpabGreatKtJ0
import Derived.Test.YtbagcjlimdilpabGreatKtJ4
import Derived.Deep.CutRange
import Derived.Test.YtbagcjlimdilpabGreatKtJ3
/- The walk of the program's Holds: is a word held by a root or a pointer? -/
namespace Go.Proofs.YtbagcjlimdilpabGreat
open Go.RowKit

/-- is x held by a root below r? -/
def RootHeld (now : List Int) (x : Int) (r : Nat) : Prop := ∃ q, q < r ∧ wd now (3 + q) = x
/-- .. by an object below i? -/
def ObjHeld (now : List Int) (l : List Ob) (x : Int) (i : Nat) : Prop := ∃ j, ∃ hj : j < l.length, j < i ∧ ∃ p, p < (l[j]).ptrs ∧ wd now (pl l[j] p) = x
theorem held_parts {now : List Int} {l : List Ob} {x : Int} (h1 : ¬ RootHeld now x 4) (h2 : ¬ ObjHeld now l x l.length) : ¬ HeldBy now l x := by
  rintro (⟨r, hr, e⟩ | ⟨i, hi, p, hp, e⟩)
  · exact h1 ⟨r, hr, e⟩
  · exact h2 ⟨i, hi, hi, p, hp, e⟩

set_option maxHeartbeats 4000000 in
set_option maxRecDepth 100000 in
theorem holds_row (rt : Nat) (rx : Value) (fL fR : Nat) (ry : Value) (ws : List Int) (v : Value) (x : Int) (w : World) (hn : nblk ws.length ≠ 0) (hrow : RowAt w rt rx fL fR ry ws) (hv : LiesT w v (objs ws)) :
    Calls Tryz.prog 40 #[v, .iface rt rx, .int .u64 x] w fun e w' => ∃ b, e = .returned (.bool b) ∧ (b = true ↔ HeldBy ws (objs ws) x) ∧ Fr New w w' := by
  obtain ⟨hlen, hn1, hn2⟩ := nblk_some hn
  obtain ⟨l, hl⟩ : ∃ l, l = objs ws := ⟨_, rfl⟩
  have HL : Hid (l = objs ws) := hl
  rw [← hl] at hv ⊢
  have HV : Hid (∀ wr, Fr New w wr → LiesT wr v l) := fun wr hf => hv.fr hf (fun _ _ h => h)
  have HW : Hid (∀ wr, Fr New w wr → ∀ i, i < ws.length → Calls Tryz.prog fR #[ry, .int .i64 (i : Nat)] wr fun e w'' => e = .returned (.int .u64 (wd ws i)) ∧ w'' = wr) := hrow.read
  have HM : Hid (∀ w', Fr New w w' → (method 290 rt rx "Read").run Tryz.prog w' = .ok (fR, ry) w') := hrow.mread
  have HBO : Hid (∀ o ∈ l, o.block < 32 ∧ 106 + 8 * (o.block + o.span) ≤ ws.length ∧ o.ptrs < 8 * o.span ∧ o.ptrs < 32) := fun o ho => by
    rw [hl] at ho
    have := objs_in ho
    exact ⟨by omega, by omega, by omega, by omega⟩
  obtain ⟨av, cv, rfl, _⟩ := hv
  have hcf := hrow.cread
  have har := hrow.aread
  have hmf : ∀ (fn : Fn) (first cap : Array Value) (w : World), (Instr.makeFunc fn first cap).run Tryz.prog w = .ok (.func fn first cap) w := fun _ _ _ _ => rfl
  have hl32 : l.length ≤ 32 := by rw [hl]; exact objs_len ws
  have hL1 : 114 ≤ ws.length := by omega
  clear hrow hl hn hlen hn1 hn2
  go_enter Tryz.func40, Tryz.ntmps40
  go_wp2
  go_loopg [11] 4 (fun gh t wr => ∃ r : Nat, r ≤ 4 ∧ gh = 4 - r ∧ t = .int .i64 r ∧ Fr New w wr ∧ ¬ RootHeld ws x r)
  case atStart => exact ⟨0, by omega, rfl, rfl, Fr.refl _ _, fun ⟨q, hq, _⟩ => by omega⟩
  case round =>
    obtain ⟨r, hr4, rfl, rfl, hf, hno⟩ := hrel
    by_cases hr : r < 4
    · have HR : Hid (Calls Tryz.prog fR #[ry, .int .i64 ((3 + r : Nat) : Int)] wr fun e w'' => e = .returned (.int .u64 (wd ws (3 + r))) ∧ w'' = wr) := HW.out wr hf (3 + r) (by omega)
      have hmr := HM.out wr hf
      obtain ⟨y, hy⟩ : ∃ y, y = wd ws (3 + r) := ⟨_, rfl⟩
      rw [← hy] at HR
      by_cases he : y = x
      · have HT : Hid (HeldBy ws l x) := .inl ⟨r, hr, hy.symm.trans he⟩
        have hb : (y == x) = true := by simpa using he
        clear hy he
        go_wp2_with (first
          | (refine calls_same HR.out ?_)
          | fail)
        go_ret
        exact ⟨true, rfl, ⟨fun _ => HT.out, fun _ => rfl⟩, hf⟩
      · have hb : (y == x) = false := by simpa using he
        have hnx : ¬ RootHeld ws x (r + 1) := by
          rintro ⟨q, hq, e⟩
          by_cases hqr : q = r
          · subst hqr; exact he (hy.trans e)
          · exact hno ⟨q, by omega, e⟩
        clear hy he
        go_wp2_with (first
          | (refine calls_same HR.out ?_)
          | fail)
        go_roundg (4 - (r + 1))
        case measure => omega
        case rel => exact ⟨r + 1, by omega, rfl, by go_num, hf, hnx⟩
    · obtain rfl : r = 4 := by omega
      have HRT : Hid (¬ RootHeld ws x 4) := hno
      clear hno hr hr4
      go_wp2
      go_loopg [23] l.length (fun gh t wr => ∃ i : Nat, i ≤ l.length ∧ gh = l.length - i ∧ t = .int .i64 i ∧ Fr New w wr ∧ ¬ ObjHeld ws l x i)
      case atStart => exact ⟨0, by omega, rfl, rfl, hf, fun ⟨_, _, hj, _⟩ => by omega⟩
      case round =>
        clear hf
        obtain ⟨i, hil, rfl, rfl, hf2, hno⟩ := hrel
        by_cases hi : i < l.length
        · have hd0 : decide ((i : Int) < (l.length : Int)) = true := by simp; omega
          obtain ⟨g, rfl, e0, e1, e2, e3⟩ := (HV.out wr hf2).at i hi
          obtain ⟨hb1, hb2, hb3, hb4⟩ := HBO.out l[i] (List.getElem_mem _)
          obtain ⟨o, ho⟩ : ∃ o, o = l[i] := ⟨_, rfl⟩
          have HO : Hid (o = l[i]) := ho
          rw [← ho] at e1 e2 e3 hb1 hb2 hb3 hb4
          obtain ⟨b, sp, pt⟩ := o
          simp only at e1 e2 e3 hb1 hb2 hb3 hb4
          obtain ⟨B, hB⟩ : ∃ B : Nat, B = b + 1 := ⟨_, rfl⟩
          rw [← hB] at e1
          have HBB : Hid (B = b + 1) := hB
          have hB33 : B ≤ 32 := by omega
          clear ho hB
          go_wp2
          have htq : (wr.alloc (.cells #[.int .i64 1, .int .i64 B, .int .i64 sp, .int .i64 pt] 81)).heap[wr.heap.size]? = some (.cells #[.int .i64 1, .int .i64 B, .int .i64 sp, .int .i64 pt] 81 (0, 0)) := Go.Deep.blk_alloc_new wr _
          have hf3 : Fr New w (wr.alloc (.cells #[.int .i64 1, .int .i64 B, .int .i64 sp, .int .i64 pt] 81)) := hf2.alloc _
          obtain ⟨gt, hgt⟩ : ∃ gt, gt = wr.heap.size := ⟨_, rfl⟩
          rw [← hgt] at htq
          rw [← hgt]
          clear hgt e0 e1 e2 e3
          go_loopg [29] pt (fun gh t wr => ∃ p : Nat, p ≤ pt ∧ gh = pt - p ∧ t = .int .i64 p ∧ Fr New w wr ∧ wr.heap[gt]? = some (.cells #[.int .i64 1, .int .i64 B, .int .i64 sp, .int .i64 pt] 81 (0, 0)) ∧ ∀ q, q < p → wd ws (pl ⟨b, sp, pt⟩ q) ≠ x)
          case atStart => exact ⟨0, by omega, rfl, rfl, hf3, htq, fun q hq => by omega⟩
          case round =>
            clear hf3 htq hf2
            obtain ⟨p, hpp, rfl, rfl, hf3, htq, hne⟩ := hrel
            by_cases hp : p < pt
            · obtain ⟨y, hy⟩ : ∃ y, y = wd ws (pl ⟨b, sp, pt⟩ p) := ⟨_, rfl⟩
              have HPL : Hid (∀ w2, Calls Tryz.prog 45 #[.agg #[.int .i64 1, .int .i64 B, .int .i64 sp, .int .i64 pt], .int .i64 p] w2 fun e w' => e = .returned (.int .i64 ((pl ⟨b, sp, pt⟩ p : Nat) : Int)) ∧ Fr New w2 w') := fun w2 => by rw [HBB.out]; exact twplace_any 1 sp pt b p w2 (by omega) (by omega)
              have HR : Hid (∀ w2, Fr New w w2 → Calls Tryz.prog fR #[ry, .int .i64 ((pl ⟨b, sp, pt⟩ p : Nat) : Int)] w2 fun e w'' => e = .returned (.int .u64 y) ∧ w'' = w2) := fun w2 hf => by
                rw [hy]
                exact HW.out w2 hf _ (by unfold pl; simp only; omega)
              obtain ⟨pq, hpq⟩ : ∃ pq : Nat, pq = pl ⟨b, sp, pt⟩ p := ⟨_, rfl⟩
              rw [← hpq] at HPL HR
              obtain ⟨ht, hz⟩ := block_cells htq
              have ht0 : wr.cell? ⟨gt, 0, none⟩ = some (.int .i64 1) := (ht 0).trans rfl
              have ht1 : wr.cell? ⟨gt, 1, none⟩ = some (.int .i64 B) := (ht 1).trans rfl
              have ht2 : wr.cell? ⟨gt, 2, none⟩ = some (.int .i64 sp) := (ht 2).trans rfl
              have ht3 : wr.cell? ⟨gt, 3, none⟩ = some (.int .i64 pt) := (ht 3).trans rfl
              by_cases he : y = x
              · have HT : Hid (HeldBy ws l x) := .inr ⟨i, hi, p, by rw [← HO.out]; exact hp, by rw [← HO.out]; exact hy.symm.trans he⟩
                have hb : (y == x) = true := by simpa using he
                clear hpq hy he ht hz hne
                go_upto_region 13 with fail
                go_region_held3 (fun w' => w'.cell? ⟨gt, 0, none⟩ = some (.int .i64 1) ∧ w'.cell? ⟨gt, 1, none⟩ = some (.int .i64 B) ∧ w'.cell? ⟨gt, 2, none⟩ = some (.int .i64 sp) ∧ w'.cell? ⟨gt, 3, none⟩ = some (.int .i64 pt)) (first | go_keep | exact hkeep2)
                  (first
                    | (go_at_call 45; refine (HPL.out _).mono ?_; rintro e w2 ⟨rfl, hf2⟩; have hf2' : Fr New wr w2 := ((Fr.refl New wr).drew.same hf2); have hkeep2 : w2.cell? ⟨gt, 0, none⟩ = some (.int .i64 1) ∧ w2.cell? ⟨gt, 1, none⟩ = some (.int .i64 B) ∧ w2.cell? ⟨gt, 2, none⟩ = some (.int .i64 sp) ∧ w2.cell? ⟨gt, 3, none⟩ = some (.int .i64 pt) := ⟨hf2'.cell ht0 id, hf2'.cell ht1 id, hf2'.cell ht2 id, hf2'.cell ht3 id⟩)
                    | (rw [HM.out _ (hf3.same hf2')])
                    | (refine calls_same (HR.out _ (hf3.same hf2')) ?_))
                all_goals
                  clear hkeep2
                  go_wp2_with fail
                  go_ret
                  exact ⟨true, rfl, ⟨fun _ => HT.out, fun _ => rfl⟩, hf3.same hf2'⟩
              · have hb : (y == x) = false := by simpa using he
                have hnx : ∀ q, q < p + 1 → wd ws (pl ⟨b, sp, pt⟩ q) ≠ x := fun q hq => by
                  by_cases hqp : q = p
                  · subst hqp; rw [← hy]; exact he
                  · exact hne q (by omega)
                have HNX : Hid (∀ q, q < p + 1 → wd ws (pl ⟨b, sp, pt⟩ q) ≠ x) := hnx
                clear hpq hy he ht hz hne hnx
                go_upto_region 13 with fail
                go_region_held3 (fun w' => w'.cell? ⟨gt, 0, none⟩ = some (.int .i64 1) ∧ w'.cell? ⟨gt, 1, none⟩ = some (.int .i64 B) ∧ w'.cell? ⟨gt, 2, none⟩ = some (.int .i64 sp) ∧ w'.cell? ⟨gt, 3, none⟩ = some (.int .i64 pt)) (first | go_keep | exact hkeep2)
                  (first
                    | (go_at_call 45; refine (HPL.out _).mono ?_; rintro e w2 ⟨rfl, hf2⟩; have hf2' : Fr New wr w2 := ((Fr.refl New wr).drew.same hf2); have hkeep2 : w2.cell? ⟨gt, 0, none⟩ = some (.int .i64 1) ∧ w2.cell? ⟨gt, 1, none⟩ = some (.int .i64 B) ∧ w2.cell? ⟨gt, 2, none⟩ = some (.int .i64 sp) ∧ w2.cell? ⟨gt, 3, none⟩ = some (.int .i64 pt) := ⟨hf2'.cell ht0 id, hf2'.cell ht1 id, hf2'.cell ht2 id, hf2'.cell ht3 id⟩)
                    | (rw [HM.out _ (hf3.same hf2')])
                    | (refine calls_same (HR.out _ (hf3.same hf2')) ?_))
                all_goals
                  clear hkeep2
                  go_wp2_with fail
                  go_roundg (pt - (p + 1))
                  case measure => omega
                  case rel => exact ⟨p + 1, by omega, rfl, by go_num, hf3.same hf2', hf2'.heap htq id, HNX.out⟩
            · obtain rfl : p = pt := by omega
              have hnx : ¬ ObjHeld ws l x (i + 1) := by
                rintro ⟨j, hj, hji, q, hq, e⟩
                by_cases hij : j = i
                · subst hij
                  rw [← HO.out] at hq e
                  exact hne q hq e
                · exact hno ⟨j, hj, by omega, q, hq, e⟩
              go_wp2
              go_roundg (l.length - (i + 1))
              case measure => omega
              case rel => exact ⟨i + 1, by omega, rfl, by go_num, hf3, hnx⟩
        · obtain rfl : i = l.length := by omega
          have hd0 : decide ((l.length : Int) < (l.length : Int)) = false := by simp
          have HT : Hid (¬ HeldBy ws l x) := held_parts HRT.out hno
          clear hno hi hil
          go_wp2
          go_ret
          exact ⟨false, rfl, ⟨(fun h => by cases h), fun h => absurd h HT.out⟩, hf2⟩
end Go.Proofs.YtbagcjlimdilpabGreat

/- Walks of the program's Redo and mendHolds. -/
namespace Go.Proofs.YtbagcjlimdilpabGreat
open Go.RowKit

theorem Mem2.glt {w : World} {g c L : Nat} {cur : List Int} {wr : World} (h : Mem2 w g c L cur wr) : g < wr.heap.size := by
  obtain ⟨_, _, hc⟩ := own_block h.own rfl
  exact lt_of_block hc
/-- a row of another kind stays -/
theorem own_but {w wr w' : World} {g c L : Nat} {cur : List Int} (h : Mem2 w g c L cur wr) (hf : Fr (But g) wr w') {B : Nat} {e : TypeId} {sz : Nat} {v : Value} {n : Nat} {xs : List Value} (ho : wr.ownsRow B e sz v n xs) (he : e ≠ 41) : w'.ownsRow B e sz v n xs :=
  hf.owns ho (fun g' hg' hh => by
    obtain ⟨_, c1, h1⟩ := own_block ho hg'
    obtain ⟨_, c2, h2⟩ := own_block h.own rfl
    exact type_ne h1 h2 he hh)

set_option maxHeartbeats 1000000 in
set_option maxRecDepth 100000 in
theorem redo_any {w : World} {g c L B n : Nat} {ws : List Int} (v : Value) (W : World) (M : Mem2 w g c L ws W) (ho : OwnR B W v ws n) (hU : ∀ z ∈ ws, U z) (hn : n ≤ 48) (hok : ∀ i, i < n → okAt ws.length (wd ws (10 + 2 * i)) = true) :
    Calls Tryz.prog 56 #[rowV (some ⟨g, 0, none⟩) L c, v] W fun e w' => e = .returned (.tuple #[]) ∧ Mem2 w g c L (doneS ws n) w' ∧ Fr (But g) W w' := by
  obtain ⟨av, cv, rfl⟩ := own_slice ho
  have HO : Hid (∀ wr, Fr (But g) W wr → OwnR B wr (.slice av n cv) ws n) := fun wr hf => own_but M hf ho (by decide)
  have HU : Hid (∀ z ∈ ws, U z) := hU
  have HOK : Hid (∀ i, i < n → okAt ws.length (wd ws (10 + 2 * i)) = true) := hok
  have hmp := meth_put (some ⟨g, 0, none⟩) L c
  have HLN : Hid (ws.length = L) := M.len
  clear hok hU ho
  go_enter Tryz.func56, Tryz.ntmps56
  go_wp2
  go_loopg [8] n (fun gh t wr => ∃ i : Nat, i ≤ n ∧ gh = n - i ∧ t = .int .i64 i ∧ Mem2 w g c L (doneS ws i) wr ∧ Fr (But g) W wr)
  case atStart => exact ⟨0, by omega, rfl, rfl, M, Fr.refl _ _⟩
  case round =>
    clear M
    obtain ⟨i, hin, rfl, rfl, hM, hF⟩ := hrel
    by_cases hi : i < n
    · have hd0 : decide ((i : Int) < (n : Int)) = true := by simp; omega
      have hown := HO.out wr hF
      obtain ⟨gr, c', hv, _, _⟩ := hown.form (by omega)
      have hv1 : av = some ⟨gr, 0, none⟩ := by simp only [Value.slice.injEq] at hv; exact hv.1
      clear hv
      subst hv1
      have e0 : wr.cell? ⟨gr, i * 2, none⟩ = some (.int .i64 (wd ws (10 + 2 * i))) := (hown.cellAt (i * 2) (by omega)).trans (recCells_get ws hi).1
      have e1 : wr.cell? ⟨gr, i * 2 + 1, none⟩ = some (.int .u64 (wd ws (11 + 2 * i))) := (hown.cellAt (i * 2 + 1) (by omega)).trans (recCells_get ws hi).2
      obtain ⟨k, hk⟩ := Int.eq_ofNat_of_zero_le (wd_U HU.out (10 + 2 * i)).1
      have hkL : k < L := by have := (okAt_iff.1 (HOK.out i hi)).1; rw [HLN.out] at this; omega
      have hds := done_set ws i
      rw [hk] at e0 hds
      simp only [Int.toNat_natCast] at hds
      obtain ⟨y, hy⟩ : ∃ y, y = wd ws (11 + 2 * i) := ⟨_, rfl⟩
      rw [← hy] at e1 hds
      have HPU : Hid (∀ W', Fr New wr W' → Calls Tryz.prog 85 #[.slice (some ⟨g, 0, none⟩) L c, .int .i64 k, .int .u64 y] W' fun e w' => e = .returned (.tuple #[]) ∧ Mem2 w g c L (doneS ws (i + 1)) w' ∧ Fr (But g) W' w') := fun W' hf => by rw [← hds]; exact put_any (hM.grow hf) k y hkL
      clear hds hy hk hown
      go_wp2_with (go_at_call 85; refine (HPU.out _ ((Fr.refl New wr).alloc _)).mono ?_; rintro e w7 ⟨rfl, hm7, hf7⟩)
      go_roundg (n - (i + 1))
      case measure => omega
      case rel => exact ⟨i + 1, by omega, rfl, by go_num, hm7, (hF.alloc _).trans hf7 (fun _ _ h => h)⟩
    · obtain rfl : i = n := by omega
      have hd0 : decide ((i : Int) < (i : Int)) = false := by simp
      go_wp2
      go_end0
      exact ⟨rfl, hM, hF⟩

/-- where the mending stands: i objects are done -/
def midZ (w2 : List Int) (l : List Ob) (i q : Nat) : Prop := (rootZ w2 l 4 q ∨ ptrZ w2 l i q) ∨ leakZ w2 l i q
theorem midZ_zero {w2 : List Int} {l : List Ob} (q : Nat) : rootZ w2 l 4 q ↔ midZ w2 l 0 q := by
  unfold midZ
  exact ⟨fun h => .inl (.inl h), fun h => by
    rcases h with (h | h) | h
    · exact h
    · exact absurd h (ptrZ_zero q)
    · exact absurd h (leakZ_zero q)⟩
theorem midZ_yes {w2 : List Int} {l : List Ob} {i : Nat} (hi : i < l.length) (hr : Reach w2 l i) (q : Nat) : (midZ w2 l i q ∨ ptrZ1 w2 l l[i] (l[i]).ptrs q) ↔ midZ w2 l (i + 1) q := by
  unfold midZ
  rw [← ptrZ_yes hi hr q, ← leakZ_no hr q]
  constructor
  · rintro (((h | h) | h) | h)
    · exact .inl (.inl h)
    · exact .inl (.inr (.inl h))
    · exact .inr h
    · exact .inl (.inr (.inr h))
  · rintro ((h | h | h) | h)
    · exact .inl (.inl (.inl h))
    · exact .inl (.inl (.inr h))
    · exact .inr h
    · exact .inl (.inr h)
theorem midZ_no {w2 : List Int} {l : List Ob} {i : Nat} (hi : i < l.length) (hr : ¬ Reach w2 l i) (q : Nat) : (midZ w2 l i q ∨ leakZ1 l[i] (l[i]).span q) ↔ midZ w2 l (i + 1) q := by
  unfold midZ
  rw [← leakZ_yes hi hr q, ← ptrZ_no hr q, or_assoc]

set_option maxHeartbeats 4000000 in
set_option maxRecDepth 100000 in
theorem mendHolds_any {w : World} {g c L B : Nat} {w2 : List Int} (v : Value) (l : List Ob) (W : World) (M : Mem2 w g c L w2 W) (hl : l = objs w2) (ho : OwnT B W v l) (hn : nblk w2.length ≠ 0) :
    Calls Tryz.prog 57 #[rowV (some ⟨g, 0, none⟩) L c, v] W fun e w' => e = .returned (.tuple #[]) ∧ ∃ cur', Mem2 w g c L cur' w' ∧ Zeroed w2 cur' (fixZ w2 l) ∧ Fr (But g) W w' := by
  obtain ⟨hlen, hn1, hn2⟩ := nblk_some hn
  have ha : Asc l := by rw [hl]; exact objs_asc w2
  have HA : Hid (Asc l) := ha
  have hwi : Within w2 l := by rw [hl]; exact within_objs w2
  have hb32 : ∀ o ∈ l, o.block < 32 := fun o ho => by rw [hl] at ho; have := (objs_in ho).2.2.2.2; omega
  have hl32 : l.length ≤ 32 := by rw [hl]; exact objs_len w2
  have hlv : LiesT W v l := by rw [hl]; rw [hl] at ho; exact liesT_objs ho
  have HLN : Hid (w2.length = L) := M.len
  have hL1 : L ≤ 362 := by rw [← HLN.out]; omega
  have hL7 : 114 ≤ L := by rw [← HLN.out]; omega
  have HNB : Hid (∀ g', v.ownBlock = some g' → ¬ g' = g) := fun g' hg' hh => by
    obtain ⟨_, c1, h1⟩ := own_block ho hg'
    obtain ⟨_, c2, h2⟩ := own_block M.own rfl
    exact type_ne h1 h2 (by decide) hh
  have HV : Hid (∀ wr, Fr (But g) W wr → LiesT wr v l) := fun wr hf => hlv.fr hf HNB.out
  have HMH : Hid (∀ wr cur (Z : Nat → Prop) q, Fr (But g) W wr → Mem2 w g c L cur wr → Zeroed w2 cur Z → q < L → Calls Tryz.prog 77 #[rowV (some ⟨g, 0, none⟩) L c, v, .int .i64 (q : Nat)] wr fun e w' => e = .returned (.tuple #[]) ∧ ∃ cur', Mem2 w g c L cur' w' ∧ Zeroed w2 cur' (fun x => Z x ∨ (x = q ∧ idx l (wd w2 q) = none)) ∧ Fr (But g) wr w') := fun wr cur Z q hf hM hZ hq => mendHold_any v l q wr hM hZ HLN.out hq (HV.out wr hf) ha
  have HRC : Hid (∀ wr cur, Fr (But g) W wr → Mem2 w g c L cur wr → Zeroed w2 cur (rootZ w2 l 4) → Calls Tryz.prog 76 #[v, rowV (some ⟨g, 0, none⟩) L c] wr fun e w' => ∃ M : List Bool, e = .returned (.agg ((M.map Value.bool).toArray)) ∧ M.length = 33 ∧ (∀ i, i < l.length → (mkd l M i ↔ Reach w2 l i)) ∧ Fr New wr w') := fun wr cur hf hM hZ => by
    have hcl := hM.len
    have := reached2_any g 0 c cur v l wr (by omega) (by omega) (fun i hi => hM.cells i (by omega)) (HV.out wr hf) ha (fun o ho => by rw [hZ.len]; exact hwi o ho) hb32 hl32
    rw [hcl] at this
    refine this.mono ?_
    rintro e w' ⟨M, rfl, h1, h2, h3⟩
    exact ⟨M, rfl, h1, fun i hi => (h2 i hi).trans (reach_roots hZ i), h3⟩
  have HBO : Hid (∀ o ∈ l, o.block < 32 ∧ 106 + 8 * (o.block + o.span) ≤ L ∧ o.ptrs < 8 * o.span ∧ o.ptrs < 32) := by
    obtain ⟨_, _, _, _, hb, _⟩ := hlv
    exact fun o ho => ⟨hb32 o ho, by rw [← HLN.out]; exact (hwi o ho).1, (hwi o ho).2, (hb o ho).2.2⟩
  have hgW := M.glt
  obtain ⟨av, cv, rfl⟩ := own_slice ho
  clear hlen hn hn1 hn2 ha hwi hb32 hlv ho hl
  go_enter Tryz.func57, Tryz.ntmps57
  go_wp2
  go_loopg [9] 4 (fun gh t wr => ∃ (r : Nat) (cur : List Int), r ≤ 4 ∧ gh = 4 - r ∧ t = .int .i64 r ∧ Mem2 w g c L cur wr ∧ Fr (But g) W wr ∧ Zeroed w2 cur (rootZ w2 l r))
  case atStart => exact ⟨0, w2, by omega, rfl, rfl, M, Fr.refl _ _, zeroed_self w2 rootZ_zero⟩
  case round =>
    clear M
    obtain ⟨r, cur, hr4, rfl, rfl, hM, hF, hZ⟩ := hrel
    by_cases hr : r < 4
    · have HMX : Hid (Calls Tryz.prog 77 #[rowV (some ⟨g, 0, none⟩) L c, .slice av l.length cv, .int .i64 ((3 + r : Nat) : Int)] wr fun e w' => e = .returned (.tuple #[]) ∧ ∃ cur', Mem2 w g c L cur' w' ∧ Zeroed w2 cur' (rootZ w2 l (r + 1)) ∧ Fr (But g) wr w') := by
        refine (HMH.out wr cur _ (3 + r) hF hM hZ (by omega)).mono ?_
        rintro e w' ⟨rfl, cur', h1, h2, h3⟩
        exact ⟨rfl, cur', h1, h2.congr (fun q => rootZ_succ q), h3⟩
      go_wp2_with (go_at_call 77; refine HMX.out.mono ?_; rintro e w7 ⟨rfl, cur', hm7, hz7, hf7⟩)
      go_roundg (4 - (r + 1))
      case measure => omega
      case rel => exact ⟨r + 1, cur', by omega, rfl, by go_num, hm7, hF.trans hf7 (fun _ _ h => h), hz7⟩
    · obtain rfl : r = 4 := by omega
      have HRX : Hid (Calls Tryz.prog 76 #[.slice av l.length cv, rowV (some ⟨g, 0, none⟩) L c] wr fun e w' => ∃ M : List Bool, e = .returned (.agg ((M.map Value.bool).toArray)) ∧ M.length = 33 ∧ (∀ i, i < l.length → (mkd l M i ↔ Reach w2 l i)) ∧ Fr New wr w') := HRC.out wr cur hF hM hZ
      have hZ0 : Zeroed w2 cur (midZ w2 l 0) := hZ.congr midZ_zero
      clear hr hr4 hZ
      go_wp2_with (first
        | (go_at_call 76; refine HRX.out.mono ?_; rintro e w5 ⟨M, rfl, hM33, hMR, hf5⟩; have HSZ : Hid ((Tryz.prog.info? 131).map (·.size) = some (M.map Value.bool).length) := (by show _ = _; rw [List.length_map, hM33]; exact Tryz.sizeMarks); have HM33 : Hid (M.length = 33) := hM33; have HMR : Hid (∀ i, i < l.length → (mkd l M i ↔ Reach w2 l i)) := hMR; clear hM33 hMR)
        | (refine wpList_store_mid rfl 131 (.tmp 5) (.tmp 20) rfl w5.heap.size 0 ((M.map Value.bool).toArray) (by rfl) (by rfl) (MRow.there (M := List.replicate 33 false) (Go.Deep.blk_alloc_new w5 _) (by simp [HM33.out])) HSZ.out (marks_one M) ?_; obtain ⟨hmc, hf6⟩ := marks_kept HM33.out (Go.Deep.blk_alloc_new w5 _))
        | fail)
      have hM6 := (hM.grow hf5).grow hf6
      have hF6 := (hF.same hf5).same hf6
      have hg5 : g < w5.heap.size := (hM.grow hf5).glt
      go_loopg [23] l.length (fun gh t w6 => ∃ (i : Nat) (cur : List Int), i ≤ l.length ∧ gh = l.length - i ∧ t = .int .i64 i ∧ Mem2 w g c L cur w6 ∧ Fr (But g) W w6 ∧ (∀ j, j < 33 → w6.cell? ⟨w5.heap.size, j, none⟩ = some (.bool (M.getD j false))) ∧ Zeroed w2 cur (midZ w2 l i))
      case atStart => exact ⟨0, cur, by omega, rfl, rfl, hM6, hF6, hmc, hZ0⟩
      case round =>
        clear hM6 hF6 hmc hZ0 hf6 hf5 hF hM
        obtain ⟨i, cur, hil, rfl, rfl, hM, hF, hmc, hZ⟩ := hrel
        by_cases hi : i < l.length
        · have hd1 : decide ((i : Int) < (l.length : Int)) = true := by simp; omega
          obtain ⟨gl, rfl, e0, e1, e2, e3⟩ := (HV.out wr hF).at i hi
          obtain ⟨hb1, hb2, hb3, hb4⟩ := HBO.out l[i] (List.getElem_mem _)
          have hmi := hmc (hnd l i) (by rw [hnd_eq hi]; omega)
          rw [hnd_eq hi] at hmi
          have HMI := HMR.out i hi
          unfold mkd at HMI
          rw [hnd_eq hi] at HMI
          obtain ⟨o, ho⟩ : ∃ o, o = l[i] := ⟨_, rfl⟩
          have HO : Hid (o = l[i]) := ho
          rw [← ho] at e1 e2 e3 hb1 hb2 hb3 hb4 hmi HMI
          obtain ⟨b, sp, pt⟩ := o
          simp only at e1 e2 e3 hb1 hb2 hb3 hb4 hmi HMI
          obtain ⟨B', hB⟩ : ∃ B' : Nat, B' = b + 1 := ⟨_, rfl⟩
          have HBB : Hid (B' = b + 1) := hB
          rw [← hB] at e1 hmi HMI
          have hB33 : B' < 33 := by omega
          have hB0 : (0 : Int) ≤ (B' : Int) := by omega
          have hB1 : (B' : Int) < 33 := by omega
          have hlt5 : w5.heap.size < wr.heap.size := World.block_lt_of_cell? wr _ hmi
          have HMC : Hid (∀ w7, Fr (But g) wr w7 → ∀ j, j < 33 → w7.cell? ⟨w5.heap.size, j, none⟩ = some (.bool (M.getD j false))) := fun w7 hf j hj => hf.cell (hmc j hj) (fun (he : w5.heap.size = g) => by omega)
          clear ho hB hmc
          rcases hoi : M.getD B' false with _ | _
          · have hnr : ¬ Reach w2 l i := fun hx => by rw [HMI.2 hx] at hoi; cases hoi
            rw [hoi] at hmi
            have HCL : Hid (∀ wr', Mem2 w g c L cur wr' → Calls Tryz.prog 41 #[.agg #[.int .i64 1, .int .i64 B', .int .i64 sp, .int .i64 pt], rowV (some ⟨g, 0, none⟩) L c] wr' fun e w' => e = .returned (.tuple #[]) ∧ ∃ cur', Mem2 w g c L cur' w' ∧ Zeroed w2 cur' (midZ w2 l (i + 1)) ∧ Fr (But g) wr' w') := fun wr' hM' => by
              rw [HBB.out]
              refine (clear_any 1 ⟨b, sp, pt⟩ wr' hM' hZ HLN.out hb2 (by omega)).mono ?_
              rintro e w' ⟨rfl, cur', h1, h2, h3⟩
              refine ⟨rfl, cur', h1, h2.congr (fun q => ?_), h3⟩
              have := midZ_no hi hnr q
              rw [← HO.out] at this
              exact this
            clear hoi HMI hnr
            go_wp2_with (go_at_call 41; refine (HCL.out _ (hM.grow ((Fr.refl _ _).alloc _))).mono ?_; rintro e w7 ⟨rfl, cur', hm7, hz7, hf7⟩)
            have hf8 : Fr (But g) wr w7 := ((Fr.refl (But g) wr).alloc _).trans hf7 (fun _ _ h => h)
            go_roundg (l.length - (i + 1))
            case measure => omega
            case rel => exact ⟨i + 1, cur', by omega, rfl, by go_num, hm7, hF.trans hf8 (fun _ _ h => h), HMC.out w7 hf8, hz7⟩
          · have hrr : Reach w2 l i := HMI.1 hoi
            rw [hoi] at hmi
            clear hoi HMI
            go_wp2
            have htq : (wr.alloc (.cells #[.int .i64 1, .int .i64 B', .int .i64 sp, .int .i64 pt] 81)).heap[wr.heap.size]? = some (.cells #[.int .i64 1, .int .i64 B', .int .i64 sp, .int .i64 pt] 81 (0, 0)) := Go.Deep.blk_alloc_new wr _
            have hF3 : Fr (But g) W (wr.alloc (.cells #[.int .i64 1, .int .i64 B', .int .i64 sp, .int .i64 pt] 81)) := hF.alloc _
            have hM3 : Mem2 w g c L cur (wr.alloc (.cells #[.int .i64 1, .int .i64 B', .int .i64 sp, .int .i64 pt] 81)) := hM.grow ((Fr.refl _ _).alloc _)
            have hmc3 := HMC.out (wr.alloc (.cells #[.int .i64 1, .int .i64 B', .int .i64 sp, .int .i64 pt] 81)) ((Fr.refl _ _).alloc _)
            have hgr : g < wr.heap.size := hM.glt
            obtain ⟨gt, hgt⟩ : ∃ gt, gt = wr.heap.size := ⟨_, rfl⟩
            rw [← hgt] at htq hgr
            rw [← hgt]
            clear hgt e0 e1 e2 e3 hmi hlt5
            go_loopg [37] pt (fun gh t w8 => ∃ (p : Nat) (cur : List Int), p ≤ pt ∧ gh = pt - p ∧ t = .int .i64 p ∧ Mem2 w g c L cur w8 ∧ Fr (But g) W w8 ∧ (∀ j, j < 33 → w8.cell? ⟨w5.heap.size, j, none⟩ = some (.bool (M.getD j false))) ∧ w8.heap[gt]? = some (.cells #[.int .i64 1, .int .i64 B', .int .i64 sp, .int .i64 pt] 81 (0, 0)) ∧ Zeroed w2 cur (fun q => midZ w2 l i q ∨ ptrZ1 w2 l ⟨b, sp, pt⟩ p q))
            case atStart => exact ⟨0, cur, by omega, rfl, rfl, hM3, hF3, hmc3, htq, hZ.congr (fun q => ⟨.inl, fun h => h.resolve_right (ptrZ1_zero q)⟩)⟩
            case round =>
              clear htq hF3 hM3 hM hZ hF hmc3 HMC
              obtain ⟨p, cur, hpp, rfl, rfl, hM, hF, hmc, htq, hZ⟩ := hrel
              by_cases hp : p < pt
              · have HPL : Hid (∀ w9, Calls Tryz.prog 45 #[.agg #[.int .i64 1, .int .i64 B', .int .i64 sp, .int .i64 pt], .int .i64 p] w9 fun e w' => e = .returned (.int .i64 ((pl ⟨b, sp, pt⟩ p : Nat) : Int)) ∧ Fr New w9 w') := fun w9 => by rw [HBB.out]; exact twplace_any 1 sp pt b p w9 (by omega) (by omega)
                have HMX : Hid (∀ w9, Fr New wr w9 → Calls Tryz.prog 77 #[rowV (some ⟨g, 0, none⟩) L c, .slice (some ⟨gl, 0, none⟩) l.length cv, .int .i64 ((pl ⟨b, sp, pt⟩ p : Nat) : Int)] w9 fun e w' => e = .returned (.tuple #[]) ∧ ∃ cur', Mem2 w g c L cur' w' ∧ Zeroed w2 cur' (fun q => midZ w2 l i q ∨ ptrZ1 w2 l ⟨b, sp, pt⟩ (p + 1) q) ∧ Fr (But g) w9 w') := fun w9 hf9 => by
                  refine (HMH.out w9 cur _ (pl ⟨b, sp, pt⟩ p) (hF.same hf9) (hM.grow hf9) hZ (by unfold pl; simp only; omega)).mono ?_
                  rintro e w' ⟨rfl, cur', h1, h2, h3⟩
                  exact ⟨rfl, cur', h1, h2.congr (fun q => by rw [or_assoc]; exact or_congr Iff.rfl (ptrZ1_succ q)), h3⟩
                have HMC : Hid (∀ w7, Fr (But g) wr w7 → ∀ j, j < 33 → w7.cell? ⟨w5.heap.size, j, none⟩ = some (.bool (M.getD j false))) := fun w7 hf j hj => hf.cell (hmc j hj) (fun (he : w5.heap.size = g) => by omega)
                obtain ⟨pq, hpq⟩ : ∃ pq : Nat, pq = pl ⟨b, sp, pt⟩ p := ⟨_, rfl⟩
                rw [← hpq] at HPL HMX
                obtain ⟨ht, hz⟩ := block_cells htq
                clear hpq hmc
                go_wp2_with (first
                  | (go_at_call 45; refine (HPL.out _).mono ?_; rintro e w9 ⟨rfl, hf9⟩)
                  | (go_at_call 77; refine (HMX.out w9 hf9).mono ?_; rintro e w7 ⟨rfl, cur', hm7, hz7, hf7⟩)
                  | fail)
                have hf79 : Fr (But g) wr w7 := ((Fr.refl (But g) wr).same hf9).trans hf7 (fun _ _ h => h)
                go_roundg (pt - (p + 1))
                case measure => omega
                case rel => exact ⟨p + 1, cur', by omega, rfl, by go_num, hm7, hF.trans hf79 (fun _ _ h => h), HMC.out w7 hf79, hf79.heap htq (fun (he : gt = g) => by omega), hz7⟩
              · obtain rfl : p = pt := by omega
                have hZn : Zeroed w2 cur (midZ w2 l (i + 1)) := hZ.congr (fun q => by
                  have := midZ_yes hi hrr q
                  rw [← HO.out] at this
                  exact this)
                have HMC : Hid (∀ j, j < 33 → wr.cell? ⟨w5.heap.size, j, none⟩ = some (.bool (M.getD j false))) := hmc
                clear hmc
                go_wp2
                go_roundg (l.length - (i + 1))
                case measure => omega
                case rel => exact ⟨i + 1, cur, by omega, rfl, by go_num, hM, hF, HMC.out, hZn⟩
        · obtain rfl : i = l.length := by omega
          have hd1 : decide ((l.length : Int) < (l.length : Int)) = false := by simp
          go_wp2
          go_end0
          exact ⟨rfl, cur, hM, hZ, hF⟩
end Go.Proofs.YtbagcjlimdilpabGreat

/- The walk of the program's Repair: it meets the document's mathematics. -/
namespace Go.Proofs.YtbagcjlimdilpabGreat
open Go.RowKit

theorem head_not {ws : List Int} {n : Nat} (hn : nblk ws.length = n) : ((headS (loggedS ws) n).2 = true ∧ (headS (loggedS ws) n).1 ≠ 7) ↔ ¬ headOk ws := by
  unfold headS headOk
  rw [hn]
  by_cases h0 : wd (loggedS ws) 0 = 20261114
  · rw [if_neg (by simpa using h0)]
    by_cases h1 : wd (loggedS ws) 1 = n
    · rw [if_neg (by simpa using h1)]
      split <;> simp [h0, h1]
    · rw [if_pos h1]; simp [h1]
  · rw [if_pos h0]; simp [h0]
theorem bad_take {l : List Nat} {i : Nat} (hi : i < l.length) {b : Nat} (hb : l[i] = 106 + 8 * b) (q : Nat) : ((q ∈ l.take i) ∨ leakZ1 ⟨b, 1, 0⟩ 1 q) ↔ q ∈ l.take (i + 1) := by
  rw [List.take_succ_eq_append_getElem hi, List.mem_append, List.mem_singleton, hb]
  refine or_congr Iff.rfl ?_
  unfold leakZ1
  constructor
  · rintro ⟨b', h1, h2⟩
    obtain rfl : b' = 0 := by omega
    simpa using h2
  · intro h
    exact ⟨0, by omega, by simpa using h⟩
theorem LiesB.at {w : World} {a : Option Addr} {n c : Nat} {l : List Nat} (h : LiesB w (.slice a n c) l) (i : Nat) (hi : i < l.length) :
    ∃ g, a = some ⟨g, 0, none⟩ ∧ w.cell? ⟨g, i * 4, none⟩ = some (.int .i64 2) ∧ w.cell? ⟨g, i * 4 + 1, none⟩ = some (.int .i64 (((l[i] - 106) / 8 + 1 : Nat) : Int)) ∧ w.cell? ⟨g, i * 4 + 2, none⟩ = some (.int .i64 1) ∧ w.cell? ⟨g, i * 4 + 3, none⟩ = some (.int .i64 0) := by
  obtain ⟨a', c', e, hc⟩ := h
  cases e
  obtain ⟨g, e, hcc⟩ := hc (by omega)
  exact ⟨g, e, hcc i hi⟩

theorem head_index (x0 x1 x2 x3 x4 x5 x6 x7 : Int) (w : World) : (Instr.index 89 (.agg #[.int .u64 x0, .int .u64 x1, .int .u64 x2, .int .u64 x3, .int .u64 x4, .int .u64 x5, .int .u64 x6, .int .u64 x7]) (.int .i64 7)).run Tryz.prog w = .ok (.int .u64 x7) w := by kernel_rfl
/-- what is behind the log -/
theorem logged_step {ws : List Int} : ((if (asksS ws).2 then doneS ws (asksS ws).1 else ws).set 8 0) = loggedS ws := rfl

set_option maxHeartbeats 4000000 in
set_option maxRecDepth 100000 in
theorem soundRepair_any {w : World} {g c : Nat} {ws : List Int} (W : World) (M : Mem2 w g c ws.length ws W) (hU : ∀ z ∈ ws, U z) (hn : nblk ws.length ≠ 0) :
    Calls Tryz.prog 29 #[rowV (some ⟨g, 0, none⟩) ws.length c] W fun e w' => ∃ (cd : Int) (r r' : List Int), e = .returned (.int .i64 cd) ∧ RepairIs ws r cd ∧ Mem2 w g c ws.length r' w' ∧ (cd = 0 → r' = r) ∧ (cd ≠ 0 → r = []) := by
  obtain ⟨hlen, hn1, hn2⟩ := nblk_some hn
  obtain ⟨n, hnn⟩ : ∃ n, n = nblk ws.length := ⟨_, rfl⟩
  rw [← hnn] at hlen hn1 hn2
  have HN : Hid (nblk ws.length ≠ 0 ∧ nblk ws.length = n) := ⟨hn, hnn.symm⟩
  have HAS : Hid (Calls Tryz.prog 50 #[rowV (some ⟨g, 0, none⟩) ws.length c] W fun e w' => ∃ v, e = .returned (.tuple #[v, .bool (asksS ws).2]) ∧ ((asksS ws).2 = true → OwnR W.heap.size w' v ws (asksS ws).1) ∧ Fr New W w') := asked_any g 0 c ws W (by omega) (by omega) hU M.cells
  have HRE : Hid (∀ v w1, Fr New W w1 → OwnR W.heap.size w1 v ws (asksS ws).1 → Calls Tryz.prog 56 #[rowV (some ⟨g, 0, none⟩) ws.length c, v] w1 fun e w' => e = .returned (.tuple #[]) ∧ Mem2 w g c ws.length (doneS ws (asksS ws).1) w' ∧ Fr (But g) w1 w') := fun v w1 hf ho => redo_any v w1 (M.grow hf) ho hU (asks_le ws) (fun i hi => asks_ok hi)
  obtain ⟨L, hL⟩ : ∃ L, L = ws.length := ⟨_, rfl⟩
  obtain ⟨lg, hlg⟩ : ∃ lg, lg = loggedS ws := ⟨_, rfl⟩
  have HLG : Hid (lg = loggedS ws) := hlg
  have hlgl : lg.length = L := by rw [hlg, loggedS_len, hL]
  have HPU : Hid (∀ (cur : List Int) (y : Int) (k : Nat) w1, Mem2 w g c L cur w1 → k < L → Calls Tryz.prog 85 #[.slice (some ⟨g, 0, none⟩) L c, .int .i64 (k : Nat), .int .u64 y] w1 fun e w' => e = .returned (.tuple #[]) ∧ Mem2 w g c L (cur.set k y) w' ∧ Fr (But g) w1 w') := fun cur y k w1 hM hk => put_any hM k y hk
  have HWH : Hid (∀ (cur : List Int) w1, Mem2 w g c L cur w1 → Calls Tryz.prog 52 #[rowV (some ⟨g, 0, none⟩) L c] w1 fun e w' => e = .returned (.tuple #[.int .i64 (headS cur n).1, .bool (headS cur n).2]) ∧ Fr New w1 w') := fun cur w1 hM => wrongHead_any g 0 L c n cur w1 hM.len (by rw [hL]; exact hlen) hn2 hM.cells
  have HSV : Hid (∀ w1, Mem2 w g c L lg w1 → Calls Tryz.prog 53 #[rowV (some ⟨g, 0, none⟩) L c] w1 fun e w' => ∃ vl vb, e = .returned (.tuple #[vl, vb]) ∧ OwnT w1.heap.size w' vl (objs lg) ∧ OwnB w1.heap.size w' vb (bads lg) ∧ Fr New w1 w') := fun w1 hM => by
    have := survey_any g 0 c n lg w1 (by rw [hlgl, hL]; exact hnn.symm) (by omega) (fun i hi => hM.cells i (by omega))
    rwa [hlgl] at this
  have HMH : Hid (∀ (v : Value) (cur : List Int) w1 B, Mem2 w g c L cur w1 → Zeroed lg cur (fun q => q ∈ bads lg) → OwnT B w1 v (objs lg) → Calls Tryz.prog 57 #[rowV (some ⟨g, 0, none⟩) L c, v] w1 fun e w' => e = .returned (.tuple #[]) ∧ ∃ cur', Mem2 w g c L cur' w' ∧ Zeroed cur cur' (fixZ cur (objs cur)) ∧ Fr (But g) w1 w') := fun v cur w1 B hM hZ ho => by
    have e := objs_zeroed hZ
    exact mendHolds_any v (objs cur) w1 hM rfl (by rw [e]; exact ho) (by rw [hZ.len, hlgl, hL, ← hnn]; omega)
  have HHO : Hid (∀ (cur : List Int) w1, Mem2 w g c L cur w1 → Calls Tryz.prog 58 #[rowV (some ⟨g, 0, none⟩) L c] w1 fun e w' => e = .returned (headA cur) ∧ Fr New w1 w') := fun cur w1 hM => headOf_any g 0 L c cur w1 hM.len (by omega) hM.cells
  have HBB : Hid (∀ i (hi : i < (bads lg).length), ∃ b, (bads lg)[i] = 106 + 8 * b ∧ 106 + 8 * (b + 1) ≤ L) := fun i hi => by
    obtain ⟨b, hb, e⟩ := walkF_bad (List.getElem_mem hi)
    refine ⟨b, e, ?_⟩
    rw [hlgl, hL, ← hnn] at hb
    omega
  have HBL : Hid ((bads lg).length ≤ 32) := bads_len lg
  have hmp := meth_put (some ⟨g, 0, none⟩) L c
  have hap := ahead_put (some ⟨g, 0, none⟩) L c
  have hmf : ∀ (fn : Fn) (first cap : Array Value) (w : World), (Instr.makeFunc fn first cap).run Tryz.prog w = .ok (.func fn first cap) w := fun _ _ _ _ => rfl
  rw [← hL] at HAS HRE M ⊢
  have hL1 : 114 ≤ L := by omega
  have hL2 : L ≤ 362 := by omega
  have HLG2 : Hid ((asksS ws).2 = true → (doneS ws (asksS ws).1).set 8 0 = lg) := fun h => by rw [hlg]; unfold loggedS; rw [if_pos h]
  have HLG3 : Hid ((asksS ws).2 = false → ws.set 8 0 = lg) := fun h => by rw [hlg]; unfold loggedS; rw [if_neg (by rw [h]; simp)]
  have HHN := head_not (ws := ws) (n := n) hnn.symm
  rw [← hlg] at HHN
  have HHN' : Hid (((headS lg n).2 = true ∧ (headS lg n).1 ≠ 7) ↔ ¬ headOk ws) := HHN
  have HLGL : Hid (lg.length = L) := hlgl
  clear hL hlg hlgl hnn hlen hn HHN
  obtain ⟨bo, hbo⟩ : ∃ bo, bo = (asksS ws).2 := ⟨_, rfl⟩
  rw [← hbo] at HAS HLG2 HLG3
  clear hbo
  go_enter Tryz.func29, Tryz.ntmps29
  go_upto_if 16 with (go_at_call 50; refine HAS.out.mono ?_; rintro e w1 ⟨v, rfl, hor, hf1⟩)
  go_cut [4] from 17 to 19 (fun s4 wx => s4 = .bool bo ∧ ∃ cur, Mem2 w g c L cur wx ∧ cur.set 8 0 = lg)
  case first =>
    cases bo with
    | true =>
      go_wp2_with (go_at_call 56; refine (HRE.out v w1 hf1 (hor rfl)).mono ?_; rintro e w2 ⟨rfl, hm2, hf2⟩)
      go_meet
      case rel => exact ⟨rfl, _, hm2, HLG2.out (by simp)⟩
    | false =>
      go_wp2_with fail
      go_meet
      case rel => exact ⟨rfl, _, M.grow hf1, HLG3.out (by simp)⟩
  case rest =>
    obtain ⟨rfl, cur, hmc, hcl⟩ := hcut
    have HCL : Hid (cur.set 8 0 = lg) := hcl
    have HP8 : Hid (Calls Tryz.prog 85 #[.slice (some ⟨g, 0, none⟩) L c, .int .i64 ((8 : Nat) : Int), .int .u64 0] wc fun e w' => e = .returned (.tuple #[]) ∧ Mem2 w g c L lg w' ∧ Fr (But g) wc w') := by rw [← hcl]; exact HPU.out cur 0 8 wc hmc (by omega)
    clear hcl hor hf1 M
    rcases hs : headS lg n with ⟨hp, hb⟩
    have HHD : Hid (headS lg n = (hp, hb)) := hs
    have HWX : Hid (∀ w1, Mem2 w g c L lg w1 → Calls Tryz.prog 52 #[rowV (some ⟨g, 0, none⟩) L c] w1 fun e w' => e = .returned (.tuple #[.int .i64 hp, .bool hb]) ∧ Fr New w1 w') := fun w1 hM => by have := HWH.out lg w1 hM; rwa [hs] at this
    rw [hs] at HHN'
    simp only at HHN'
    clear hs
    by_cases hbad : hb = true ∧ hp ≠ 7
    · obtain ⟨rfl, hp7⟩ := hbad
      have HT : Hid (RepairIs ws [] 3) := .inr ⟨HN.out.1, .inl ⟨HHN'.out.1 ⟨rfl, hp7⟩, rfl, rfl⟩⟩
      have hd7 : (hp != 7) = true := by simpa using hp7
      go_wp2_with (first
        | (go_at_call 85; refine HP8.out.mono ?_; rintro e w3 ⟨rfl, hm3, hf3⟩)
        | (go_at_call 52; refine (HWX.out w3 hm3).mono ?_; rintro e w4 ⟨rfl, hf4⟩))
      go_ret
      exact ⟨3, [], lg, rfl, HT.out, hm3.grow hf4, (fun h => by cases h), fun _ => rfl⟩
    · have HOKH : Hid (headOk ws) := by
        by_cases h : headOk ws
        · exact h
        · exact absurd (HHN'.out.2 h) hbad
      have hway : (hb = false) ∨ (hb = true ∧ hp = 7) := by
        cases hb with
        | false => exact .inl rfl
        | true => right; refine ⟨rfl, ?_⟩; by_cases h : hp = 7; exact h; exact absurd ⟨rfl, h⟩ hbad
      clear hbad HHN' HHD
      rcases hway with rfl | ⟨rfl, rfl⟩
      all_goals
        go_wp2_with (first
          | (go_at_call 85; refine HP8.out.mono ?_; rintro e w3 ⟨rfl, hm3, hf3⟩)
          | (go_at_call 52; refine (HWX.out w3 hm3).mono ?_; rintro e w4 ⟨rfl, hf4⟩)
          | (go_at_call 53; refine (HSV.out w4 (hm3.grow hf4)).mono ?_; rintro e w5 ⟨vl, vb, rfl, hol, hob, hf5⟩; have hm5 := (hm3.grow hf4).grow hf5; obtain ⟨ab, cb, rfl⟩ := own_slice hob)
          | fail)
        have HOB : Hid (∀ wr, Fr (But g) w5 wr → OwnB w4.heap.size wr (.slice ab (bads lg).length cb) (bads lg)) := fun wr hf => own_but hm5 hf hob (by decide)
        have HOL : Hid (∀ wr, Fr (But g) w5 wr → OwnT w4.heap.size wr vl (objs lg)) := fun wr hf => own_but hm5 hf hol (by decide)
        clear hol hob hmc
        obtain ⟨NB, hNB⟩ : ∃ NB, NB = (bads lg).length := ⟨_, rfl⟩
        have HNB : Hid (NB = (bads lg).length) := hNB
        have hNB32 : NB ≤ 32 := by rw [hNB]; exact HBL.out
        rw [← hNB]
        rw [← hNB] at HOB
        clear hNB
        go_loopg [39] NB (fun gh t wr => ∃ (i : Nat) (cur : List Int), i ≤ NB ∧ gh = NB - i ∧ t = .int .i64 i ∧ Mem2 w g c L cur wr ∧ Fr (But g) w5 wr ∧ Zeroed lg cur (fun q => q ∈ (bads lg).take i))
        case atStart => exact ⟨0, lg, by omega, rfl, rfl, hm5, Fr.refl _ _, zeroed_self lg (fun q h => by simp at h)⟩
        case round =>
          clear hm5
          obtain ⟨i, cur, hiN, rfl, rfl, hM, hF, hZ⟩ := hrel
          by_cases hi : i < NB
          · have hd0 : decide ((i : Int) < (NB : Int)) = true := by simp; omega
            have hi' : i < (bads lg).length := by rw [← HNB.out]; exact hi
            obtain ⟨b, hb, hbL⟩ := HBB.out i hi'
            obtain ⟨gb, rfl, e0, e1, e2, e3⟩ := (liesB_own (by rw [HNB.out] at HOB; exact HOB.out wr hF)).at i hi'
            rw [hb, show (106 + 8 * b - 106) / 8 = b by omega] at e1
            have HCL : Hid (∀ wr', Mem2 w g c L cur wr' → Calls Tryz.prog 41 #[.agg #[.int .i64 2, .int .i64 ((b + 1 : Nat) : Int), .int .i64 1, .int .i64 0], rowV (some ⟨g, 0, none⟩) L c] wr' fun e w' => e = .returned (.tuple #[]) ∧ ∃ cur', Mem2 w g c L cur' w' ∧ Zeroed lg cur' (fun q => q ∈ (bads lg).take (i + 1)) ∧ Fr (But g) wr' w') := fun wr' hM' => by
              refine (clear_any 2 ⟨b, 1, 0⟩ wr' hM' hZ HLGL.out hbL (by omega)).mono ?_
              rintro e w' ⟨rfl, cur', h1, h2, h3⟩
              exact ⟨rfl, cur', h1, h2.congr (fun q => bad_take hi' hb q), h3⟩
            obtain ⟨B', hB'⟩ : ∃ B' : Nat, B' = b + 1 := ⟨_, rfl⟩
            rw [← hB'] at e1 HCL
            clear hB' hb
            go_wp2_with (go_at_call 41; refine (HCL.out _ (hM.grow ((Fr.refl _ _).alloc _))).mono ?_; rintro e w7 ⟨rfl, cur', hm7, hz7, hf7⟩)
            have hf8 : Fr (But g) wr w7 := ((Fr.refl (But g) wr).alloc _).trans hf7 (fun _ _ h => h)
            go_roundg (NB - (i + 1))
            case measure => omega
            case rel => exact ⟨i + 1, cur', by omega, rfl, by go_num, hm7, hF.trans hf8 (fun _ _ h => h), hz7⟩
          · obtain rfl : i = NB := by omega
            have hd0 : decide ((i : Int) < (i : Int)) = false := by simp
            have hZ2 : Zeroed lg cur (fun q => q ∈ bads lg) := hZ.congr (fun q => by rw [HNB.out, List.take_length])
            have HMX : Hid (Calls Tryz.prog 57 #[rowV (some ⟨g, 0, none⟩) L c, vl] wr fun e w' => e = .returned (.tuple #[]) ∧ ∃ cur', Mem2 w g c L cur' w' ∧ Zeroed cur cur' (fixZ cur (objs cur)) ∧ Fr (But g) wr w') := HMH.out vl cur wr _ hM hZ2 (HOL.out wr hF)
            go_upto_region 15 with (go_at_call 57; refine HMX.out.mono ?_; rintro e w7 ⟨rfl, w3', hm7, hz7, hf7⟩)
            have HT : Hid (RepairIs ws (w3'.set 7 (sumL (w3'.take 7))) 0) := .inr ⟨HN.out.1, .inr ⟨HOKH.out, rfl, cur, w3', by rw [← HLG.out]; exact hZ2, hz7, rfl⟩⟩
            have h7 : w3'.take 7 = [wd w3' 0, wd w3' 1, wd w3' 2, wd w3' 3, wd w3' 4, wd w3' 5, wd w3' 6] := take_seven (by rw [hm7.len]; omega)
            have HP7 : Hid (∀ w8, Fr New w7 w8 → Calls Tryz.prog 85 #[.slice (some ⟨g, 0, none⟩) L c, .int .i64 ((7 : Nat) : Int), .int .u64 (sumL [wd w3' 0, wd w3' 1, wd w3' 2, wd w3' 3, wd w3' 4, wd w3' 5, wd w3' 6])] w8 fun e w' => e = .returned (.tuple #[]) ∧ Mem2 w g c L (w3'.set 7 (sumL (w3'.take 7))) w' ∧ Fr (But g) w8 w') := fun w8 hf => by rw [h7]; exact HPU.out w3' _ 7 w8 (hm7.grow hf) (by omega)
            have HHX : Hid (∀ w8, Fr New w7 w8 → Calls Tryz.prog 58 #[rowV (some ⟨g, 0, none⟩) L c] w8 fun e w' => e = .returned (headA w3') ∧ Fr New w8 w') := fun w8 hf => HHO.out w3' w8 (hm7.grow hf)
            have hix := head_index
            clear h7 hz7 hZ hZ2
            go_region_with (first
              | (go_at_call 58; refine (HHX.out _ (by first | exact (Fr.refl New w7).drew | exact Fr.refl New w7)).mono ?_; rintro e w8 ⟨rfl, hf8⟩; have hf8' : Fr New w7 w8 := (by first | exact (Fr.refl New w7).drew.same hf8 | exact hf8))
              | (go_at_call 59; refine (sealed_any _ _ _ _ _ _ _ _ _).mono ?_; rintro e w9 ⟨rfl, hf9⟩; have hf9' : Fr New w7 w9 := hf8'.same hf9)
              | (go_at_call 85; refine (HP7.out _ hf9').mono ?_; rintro e w10 ⟨rfl, hm10, hf10⟩))
            all_goals
              go_wp2_with fail
              go_ret
              exact ⟨0, _, _, rfl, HT.out, hm10, fun _ => rfl, fun h => absurd rfl h⟩
end Go.Proofs.YtbagcjlimdilpabGreat

/- The walk of the program's Repair: it meets the document's mathematics. -/
namespace Go.Proofs.YtbagcjlimdilpabGreat
open Go.RowKit

theorem mem2_row {w w4 : World} {ws : List Int} (hb : Row w4 w.heap.size ws) (hf : Fr New w w4) (hm : ws.length ≤ 1048576) : Mem2 w w.heap.size ws.length ws.length ws w4 :=
  ⟨⟨by simp, .inr ⟨w.heap.size, ws.length, _, rfl, Nat.le_refl _, hb, Nat.le_refl _, by unfold maxLen; omega, by simp, by simp [List.take_of_length_le]⟩⟩, rfl, hf⟩
theorem Mem2.row {w : World} {g L : Nat} {cur : List Int} {wr : World} (h : Mem2 w g L L cur wr) : Row wr g cur := Row.ofOwn h.own rfl

set_option maxHeartbeats 1000000 in
set_option maxRecDepth 100000 in
theorem prepair_any (a : Option Addr) (cap : Nat) (ws : List Int) (w : World) (hm : ws.length ≤ 1048576) (hU : ∀ z ∈ ws, U z) (hr : RowU w a ws) :
    Calls Tryz.prog 8 #[.slice a ws.length cap] w fun e w' => ∃ v r c, e = .returned (.tuple #[v, .int .i64 c]) ∧ RepairIs ws r c ∧ ((c ≠ 0 ∧ v = .slice none 0 0 ∧ r = []) ∨ (c = 0 ∧ v = .slice (some ⟨w.heap.size, 0, none⟩) ws.length ws.length ∧ Row w' w.heap.size r ∧ r.length = ws.length)) ∧ Fr New w w' := by
  by_cases hn : nblk ws.length = 0
  · have HT : Hid (RepairIs ws [] 2) := .inl ⟨hn, rfl, rfl⟩
    have HS : Hid (Calls Tryz.prog 24 #[.int .i64 ws.length] w fun e w' => e = .returned (.bool false) ∧ w' = w) := shaped_no _ w hm hn
    clear hn hr
    go_enter Tryz.func8, Tryz.ntmps8
    go_wp2_with (go_at_call 24; refine calls_same HS.out ?_)
    go_ret2
    exact ⟨_, [], 2, rfl, HT.out, .inl ⟨by decide, rfl, rfl⟩, Fr.refl _ _⟩
  · have HS : Hid (Calls Tryz.prog 24 #[.int .i64 ws.length] w fun e w' => e = .returned (.bool true) ∧ w' = w) := shaped_yes _ w hn
    have hp : 0 < ws.length := by have := (nblk_some hn).1; omega
    have HRP : Hid (∀ W, Row W w.heap.size ws → Fr New w W → Calls Tryz.prog 29 #[rowV (some ⟨w.heap.size, 0, none⟩) ws.length ws.length] W fun e w' => ∃ (cd : Int) (r r' : List Int), e = .returned (.int .i64 cd) ∧ RepairIs ws r cd ∧ Mem2 w w.heap.size ws.length ws.length r' w' ∧ (cd = 0 → r' = r) ∧ (cd ≠ 0 → r = [])) := fun W hR hF => soundRepair_any W (mem2_row hR hF hm) hU hn
    have HC : Hid (Calls Tryz.prog 23 #[.slice a ws.length cap] w fun e w' => e = .returned (.slice (some ⟨w.heap.size, 0, none⟩) ws.length ws.length) ∧ Row w' w.heap.size ws ∧ Fr New w w') := kcopy_any a cap ws w hm hp hr
    obtain ⟨L, hL⟩ : ∃ L, L = ws.length := ⟨_, rfl⟩
    rw [← hL] at HS HRP HC hm hp ⊢
    clear hn hr hL hU
    go_enter Tryz.func8, Tryz.ntmps8
    go_wp2_with (first
      | (go_at_call 24; refine calls_same HS.out ?_)
      | (go_at_call 23; refine HC.out.mono ?_; rintro e w4 ⟨rfl, hr4, hf4⟩)
      | (go_at_call 29; refine (HRP.out w4 hr4 hf4).mono ?_; rintro e w5 ⟨cd, r, r', rfl, hri, hm5, hc0, hc1⟩)
      | fail)
    · rename_i h
      go_ret2
      exact ⟨_, r, cd, rfl, hri, .inl ⟨by simpa using h, rfl, hc1 (by simpa using h)⟩, hm5.fr⟩
    · rename_i h
      have e0 : cd = 0 := by simpa using h
      obtain rfl := hc0 e0
      subst e0
      go_ret2
      exact ⟨_, _, 0, rfl, hri, .inr ⟨rfl, rfl, hm5.row, hm5.len⟩, hm5.fr⟩
end Go.Proofs.YtbagcjlimdilpabGreat

