/- Walks of the program's Clear and mendHold: some words become 0. -/
import Derived.Test.YtbagcjlimdilpaaGreatHhPgF
import Derived.Test.YtbagcjlimdilpaaGreatHhJ4
import Derived.Deep.RegionHeld3
namespace Go.Proofs.YtbagcjlimdilpaaGreat
open Go.RowKit

/-- another block than the words' own is as it was -/
abbrev But (g : Nat) : Nat → Prop := fun k => k = g
theorem Mem2.cells {w : World} {g c L : Nat} {cur : List Int} {wr : World} (h : Mem2 w g c L cur wr) : ∀ i, i < L → wr.cell? ⟨g, 0 + i, none⟩ = some (.int .u64 (wd cur i)) := fun i hi => by rw [Nat.zero_add]; exact h.cell i hi
theorem Mem2.put2 {w : World} {g c L : Nat} {cur : List Int} {wr : World} (h : Mem2 w g c L cur wr) (k : Nat) (y : Int) : Mem2 w g c L (cur.set k y) (wr.setCell ⟨g, k, none⟩ (.int .u64 y)) ∧ Fr (But g) wr (wr.setCell ⟨g, k, none⟩ (.int .u64 y)) :=
  ⟨h.put k y, (Fr.refl (But g) wr).setCell (p := ⟨g, k, none⟩) (fun _ => rfl) _⟩
theorem put_any {w : World} {g c L : Nat} {cur : List Int} {W : World} (M : Mem2 w g c L cur W) (i : Nat) (y : Int) (hi : i < L) :
    Calls Tryz.prog 152 #[.slice (some ⟨g, 0, none⟩) L c, .int .i64 i, .int .u64 y] W fun e w' => e = .returned (.tuple #[]) ∧ Mem2 w g c L (cur.set i y) w' ∧ Fr (But g) W w' := by
  refine (kput_any g L c i (wd cur i) y W hi (M.cell i hi) (M.free i)).mono ?_
  rintro e w' ⟨rfl, rfl⟩
  exact ⟨rfl, M.put2 i y⟩

set_option maxHeartbeats 1000000 in
set_option maxRecDepth 100000 in
theorem clear_any (k : Int) (o : Ob) {w : World} {g c L : Nat} {w2 cur : List Int} {Z : Nat → Prop} (W : World) (M : Mem2 w g c L cur W) (hZ : Zeroed w2 cur Z) (hL : w2.length = L) (hb : 106 + 8 * (o.block + o.span) ≤ L) (hL2 : L ≤ 1048576) :
    Calls Tryz.prog 72 #[.agg #[.int .i64 k, .int .i64 ((o.block + 1 : Nat) : Int), .int .i64 o.span, .int .i64 o.ptrs], rowV (some ⟨g, 0, none⟩) L c] W fun e w' => e = .returned (.tuple #[]) ∧ ∃ cur', Mem2 w g c L cur' w' ∧ Zeroed w2 cur' (fun q => Z q ∨ leakZ1 o o.span q) ∧ Fr (But g) W w' := by
  obtain ⟨b, sp, pt⟩ := o
  simp only at hb ⊢
  have HP : Hid (∀ i, i < sp → ∀ w, Calls Tryz.prog 118 #[.int .i64 ((b + 1 : Nat) + (i : Int))] w fun e w' => e = .returned (.int .i64 ((106 + 8 * (b + i) : Nat) : Int)) ∧ w' = w) := fun i hi w => by
    have := place_of (b + i) w (by omega)
    rwa [show ((b + i + 1 : Nat) : Int) = ((b + 1 : Nat) : Int) + (i : Int) by omega] at this
  obtain ⟨B, hB⟩ : ∃ B : Nat, B = b + 1 := ⟨_, rfl⟩
  rw [← hB] at HP ⊢
  have hBL : B ≤ 1048576 := by omega
  have hmp := meth_put (some ⟨g, 0, none⟩) L c
  have hap := ahead_put (some ⟨g, 0, none⟩) L c
  have hmf : ∀ (fn : Fn) (first cap : Array Value) (w : World), (Instr.makeFunc fn first cap).run Tryz.prog w = .ok (.func fn first cap) w := fun _ _ _ _ => rfl
  have HL : Hid (w2.length = L) := hL
  have hgW : g < W.heap.size := (own_block M.own rfl).2.elim (fun _ h => lt_of_block h)
  clear hB hL
  go_enter Tryz.func72, Tryz.ntmps72
  go_wp2
  have hM0 : Mem2 w g c L cur (W.alloc (.cells #[.int .i64 k, .int .i64 B, .int .i64 sp, .int .i64 pt] 115)) := M.grow ((Fr.refl _ _).alloc _)
  have hF0 : Fr (But g) W (W.alloc (.cells #[.int .i64 k, .int .i64 B, .int .i64 sp, .int .i64 pt] 115)) := (Fr.refl _ _).alloc _
  have hT0 : (W.alloc (.cells #[.int .i64 k, .int .i64 B, .int .i64 sp, .int .i64 pt] 115)).heap[W.heap.size]? = some (.cells #[.int .i64 k, .int .i64 B, .int .i64 sp, .int .i64 pt] 115 (0, 0)) := Go.Deep.blk_alloc_new W _
  go_loopg [7] sp (fun gh t wr => ∃ (i : Nat) (cur' : List Int), i ≤ sp ∧ gh = sp - i ∧ t = .int .i64 i ∧ Mem2 w g c L cur' wr ∧ Fr (But g) W wr ∧ wr.heap[W.heap.size]? = some (.cells #[.int .i64 k, .int .i64 B, .int .i64 sp, .int .i64 pt] 115 (0, 0)) ∧ Zeroed w2 cur' (fun q => Z q ∨ leakZ1 ⟨b, sp, pt⟩ i q))
  case atStart => exact ⟨0, cur, by omega, rfl, rfl, hM0, hF0, hT0, hZ.congr (fun q => ⟨.inl, fun h => h.resolve_right (leakZ1_zero q)⟩)⟩
  case round =>
    clear hM0 hF0 hT0 M hZ
    obtain ⟨i, cur', his, rfl, rfl, hM, hF, hT, hZ⟩ := hrel
    by_cases hi : i < sp
    · have HPI : Hid (∀ w, Calls Tryz.prog 118 #[.int .i64 (B + (i : Int))] w fun e w' => e = .returned (.int .i64 ((106 + 8 * (b + i) : Nat) : Int)) ∧ w' = w) := HP.out i hi
      have hq : 106 + 8 * (b + i) < L := by omega
      have hZn : Zeroed w2 (cur'.set (106 + 8 * (b + i)) 0) (fun q => Z q ∨ leakZ1 ⟨b, sp, pt⟩ (i + 1) q) := (hZ.set (by rw [HL.out]; exact hq)).congr (fun q => by
        rw [or_assoc]
        exact or_congr Iff.rfl (leakZ1_succ (o := ⟨b, sp, pt⟩) q))
      obtain ⟨pq, hpq⟩ : ∃ pq : Nat, pq = 106 + 8 * (b + i) := ⟨_, rfl⟩
      rw [← hpq] at HPI hq hZn
      obtain ⟨ht, hz⟩ := block_cells hT
      have ht1 : wr.cell? ⟨W.heap.size, 1, none⟩ = some (.int .i64 B) := (ht 1).trans rfl
      have HPU : Hid (∀ W', Fr New wr W' → Calls Tryz.prog 152 #[.slice (some ⟨g, 0, none⟩) L c, .int .i64 pq, .int .u64 0] W' fun e w' => e = .returned (.tuple #[]) ∧ Mem2 w g c L (cur'.set pq 0) w' ∧ Fr (But g) W' w') := fun W' hf => put_any (hM.grow hf) pq 0 hq
      have HPW : Hid (∀ w, Calls Tryz.prog 118 #[.int .i64 (IntKind.i64.wrap (B + (i : Int)))] w fun e w' => e = .returned (.int .i64 (pq : Int)) ∧ w' = w) := by rw [show IntKind.i64.wrap (B + (i : Int)) = B + (i : Int) by rw [IntKind.wrap_i64]; omega]; exact HPI.out
      clear hpq ht hz
      go_upto_region 4 with fail
      go_region_held3 (fun w' => w'.cell? ⟨W.heap.size, 1, none⟩ = some (.int .i64 B)) (first | go_keep | exact hkeep2)
        (first
          | (go_at_call 118; refine calls_same (HPI.out _) ?_)
          | (go_at_call 118; refine calls_same (HPW.out _) ?_)
          | (go_at_call 152; refine (HPU.out _ (by first | exact (Fr.refl New wr).drew | exact Fr.refl New wr)).mono ?_; rintro e w7 ⟨rfl, hm7, hf7⟩; have hf7' : Fr (But g) wr w7 := ((Fr.refl (But g) wr).drew.trans hf7 (fun _ _ h => h)); have ht7 := hf7'.heap hT (by show ¬ _ = g; omega); have hkeep2 : w7.cell? ⟨W.heap.size, 1, none⟩ = some (.int .i64 B) := ((block_cells ht7).1 1).trans rfl))
      all_goals
        go_wp2_with fail
        go_roundg (sp - (i + 1))
        case measure => omega
        case rel => exact ⟨i + 1, _, by omega, rfl, by go_num, hm7, hF.trans hf7' (fun _ _ h => h), ht7, hZn⟩
    · obtain rfl : i = sp := by omega
      go_wp2
      go_end0
      exact ⟨rfl, cur', hM, hZ, hF⟩

set_option maxRecDepth 100000 in
theorem mendHold_any {w : World} {g c L : Nat} {w2 cur : List Int} {Z : Nat → Prop} (v : Value) (l : List Ob) (q : Nat) (W : World) (M : Mem2 w g c L cur W) (hZ : Zeroed w2 cur Z) (hL : w2.length = L) (hq : q < L) (hv : LiesT W v l) (ha : Asc l) :
    Calls Tryz.prog 147 #[rowV (some ⟨g, 0, none⟩) L c, v, .int .i64 q] W fun e w' => e = .returned (.tuple #[]) ∧ ∃ cur', Mem2 w g c L cur' w' ∧ Zeroed w2 cur' (fun x => Z x ∨ (x = q ∧ idx l (wd w2 q) = none)) ∧ Fr (But g) W w' := by
  have HR : Hid (Calls Tryz.prog 197 #[.slice (some ⟨g, 0, none⟩) L c, .int .i64 q] W fun e w'' => e = .returned (.int .u64 (wd cur q)) ∧ w'' = W) := kread_any g 0 L c q _ W hq (M.cells q hq)
  have HD : Hid (Calls Tryz.prog 58 #[v, .int .u64 (wd cur q)] W fun e w' => e = .returned (.bool (dang l (wd cur q))) ∧ Fr New W w') := dangling_any v l _ W hv ha
  have HPU : Hid (∀ W', Fr New W W' → Calls Tryz.prog 152 #[.slice (some ⟨g, 0, none⟩) L c, .int .i64 q, .int .u64 0] W' fun e w' => e = .returned (.tuple #[]) ∧ Mem2 w g c L (cur.set q 0) w' ∧ Fr (But g) W' w') := fun W' hf => put_any (M.grow hf) q 0 hq
  have hmp := meth_put (some ⟨g, 0, none⟩) L c
  have hmr := meth_read (some ⟨g, 0, none⟩) L c
  obtain ⟨a, cp, rfl, _⟩ := hv
  rcases hd : dang l (wd cur q) with _ | _
  · have hZ2 : Zeroed w2 cur (fun x => Z x ∨ (x = q ∧ idx l (wd w2 q) = none)) := by
      rcases hx : idx l (wd cur q) with _ | k
      · have h0 : wd cur q = 0 := by
          by_cases h0 : wd cur q = 0
          · exact h0
          · rw [dang_yes h0 hx] at hd; cases hd
        refine ⟨hZ.len, fun x hx' => ?_, fun x hx' => hZ.no x (fun h => hx' (.inl h))⟩
        rcases hx' with h | ⟨rfl, _⟩
        · exact hZ.yes x h
        · exact h0
      · exact hZ.miss hx
    rw [hd] at HD
    obtain ⟨x, hx⟩ : ∃ x, x = wd cur q := ⟨_, rfl⟩
    rw [← hx] at HR HD
    clear hd hx
    go_enter Tryz.func147, Tryz.ntmps147
    go_wp2_with (first
      | (go_at_call 197; refine calls_same HR.out ?_)
      | (go_at_call 58; refine HD.out.mono ?_; rintro e w1 ⟨rfl, hf1⟩))
    go_end0
    exact ⟨rfl, cur, M.grow hf1, hZ2, (Fr.refl _ _).same hf1⟩
  · have hZ2 := hZ.hit (by rw [hL]; exact hq) (dang_iff.1 hd).2
    rw [hd] at HD
    obtain ⟨x, hx⟩ : ∃ x, x = wd cur q := ⟨_, rfl⟩
    rw [← hx] at HR HD
    clear hd hx
    go_enter Tryz.func147, Tryz.ntmps147
    go_wp2_with (first
      | (go_at_call 197; refine calls_same HR.out ?_)
      | (go_at_call 58; refine HD.out.mono ?_; rintro e w1 ⟨rfl, hf1⟩)
      | (go_at_call 152; refine (HPU.out w1 hf1).mono ?_; rintro e w7 ⟨rfl, hm7, hf7⟩))
    go_end0
    exact ⟨rfl, _, hm7, hZ2, ((Fr.refl (But g) W).same hf1).trans hf7 (fun _ _ h => h)⟩
end Go.Proofs.YtbagcjlimdilpaaGreat
