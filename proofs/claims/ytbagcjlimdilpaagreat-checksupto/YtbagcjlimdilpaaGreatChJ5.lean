/- Texts that follow one another, joined. -/
import Derived.Test.YtbagcjlimdilpaaGreatChPgF
import Derived.Test.YtbagcjlimdilpaaGreatChJ4
import Derived.Deep.RegionHeld3
/- The walk of the program's survey: all objects, and the wrong headers. -/
namespace Go.Proofs.YtbagcjlimdilpaaGreat
open Go.RowKit

theorem thsCells_get (l : List Ob) (i j : Nat) (hi : i < l.length) (hj : j < 4) : (thsCells l)[i * 4 + j]? = (thCells l[i])[j]? := by
  induction l generalizing i with
  | nil => simp at hi
  | cons e r ih =>
    simp only [thsCells, List.flatMap_cons]
    cases i with
    | zero => rw [List.getElem?_append_left (by simp [thCells]; omega)]; simp
    | succ i =>
      rw [List.getElem?_append_right (by simp [thCells]; omega)]
      have := ih i (by simpa using hi)
      rw [show (i + 1) * 4 + j - (thCells e).length = i * 4 + j by simp [thCells]; omega]
      exact this
theorem liesT_own {w : World} {B : Nat} {v : Value} {l : List Ob} (h : OwnT B w v l) (hl : l.length ≤ 1048576) (hb : ∀ o ∈ l, o.block ≤ 1048576 ∧ o.span ≤ 4 ∧ o.ptrs < 32) : LiesT w v l := by
  obtain ⟨a, c, rfl⟩ := own_slice h
  refine ⟨a, c, rfl, hl, hb, fun hp => ?_⟩
  obtain ⟨g, c', hv, _, hg⟩ := h.form hp
  cases hv
  have key : ∀ i (hi : i < l.length) j, j < 4 → w.cell? ⟨g, i * 4 + j, none⟩ = (thCells l[i])[j]? := fun i hi j hj => (h.cellAt (i * 4 + j) (by omega)).trans (thsCells_get l i j hi hj)
  exact ⟨g, rfl, hg, fun i hi => ⟨key i hi 0 (by omega), key i hi 1 (by omega), key i hi 2 (by omega), key i hi 3 (by omega)⟩⟩
theorem liesT_objs {w : World} {B : Nat} {v : Value} {ws : List Int} (h : OwnT B w v (objs ws)) : LiesT w v (objs ws) :=
  liesT_own h (by have := objs_len ws; omega) (fun o ho => by have := objs_in ho; have := nblk_le ws.length; exact ⟨by omega, by omega, by omega⟩)
theorem bdsCells_get (l : List Nat) (i j : Nat) (hi : i < l.length) (hj : j < 4) : (bdsCells l)[i * 4 + j]? = (bdCells l[i])[j]? := by
  induction l generalizing i with
  | nil => simp at hi
  | cons e r ih =>
    simp only [bdsCells, List.flatMap_cons]
    cases i with
    | zero => rw [List.getElem?_append_left (by simp [bdCells]; omega)]; simp
    | succ i =>
      rw [List.getElem?_append_right (by simp [bdCells]; omega)]
      have := ih i (by simpa using hi)
      rw [show (i + 1) * 4 + j - (bdCells e).length = i * 4 + j by simp [bdCells]; omega]
      exact this
/-- the wrong headers' things, as they lie -/
def LiesB (w : World) (v : Value) (l : List Nat) : Prop := ∃ a cap, v = .slice a l.length cap ∧
  (0 < l.length → ∃ g, a = some ⟨g, 0, none⟩ ∧ ∀ i (hi : i < l.length), w.cell? ⟨g, i * 4, none⟩ = some (.int .i64 2) ∧ w.cell? ⟨g, i * 4 + 1, none⟩ = some (.int .i64 (((l[i] - 106) / 8 + 1 : Nat) : Int)) ∧ w.cell? ⟨g, i * 4 + 2, none⟩ = some (.int .i64 1) ∧ w.cell? ⟨g, i * 4 + 3, none⟩ = some (.int .i64 0))
theorem liesB_own {w : World} {B : Nat} {v : Value} {l : List Nat} (h : OwnB B w v l) : LiesB w v l := by
  obtain ⟨a, c, rfl⟩ := own_slice h
  refine ⟨a, c, rfl, fun hp => ?_⟩
  obtain ⟨g, c', hv, _, hg⟩ := h.form hp
  cases hv
  have key : ∀ i (hi : i < l.length) j, j < 4 → w.cell? ⟨g, i * 4 + j, none⟩ = (bdCells l[i])[j]? := fun i hi j hj => (h.cellAt (i * 4 + j) (by omega)).trans (bdsCells_get l i j hi hj)
  exact ⟨g, rfl, fun i hi => ⟨key i hi 0 (by omega), key i hi 1 (by omega), key i hi 2 (by omega), key i hi 3 (by omega)⟩⟩

theorem Surv.fin {w0 : World} {H : Nat} {os : List Ob} {bs : List Nat} {vl vb : Value} {w1 : World} (h : Surv w0 H os bs vl vb w1) :
    OwnT w0.heap.size ((w1.setCell ⟨w0.heap.size, 0, none⟩ vl).setCell ⟨w0.heap.size + 1, 0, none⟩ vb).drew vl os ∧ OwnB w0.heap.size ((w1.setCell ⟨w0.heap.size, 0, none⟩ vl).setCell ⟨w0.heap.size + 1, 0, none⟩ vb).drew vb bs ∧
      Fr New w0 ((w1.setCell ⟨w0.heap.size, 0, none⟩ vl).setCell ⟨w0.heap.size + 1, 0, none⟩ vb).drew ∧
      ((w1.setCell ⟨w0.heap.size, 0, none⟩ vl).setCell ⟨w0.heap.size + 1, 0, none⟩ vb).cell? ⟨w0.heap.size, 0, none⟩ = some vl ∧ ((w1.setCell ⟨w0.heap.size, 0, none⟩ vl).setCell ⟨w0.heap.size + 1, 0, none⟩ vb).cell? ⟨w0.heap.size + 1, 0, none⟩ = some vb := by
  have hF : Fr (fun k => k = w0.heap.size ∨ k = w0.heap.size + 1) w1 ((w1.setCell ⟨w0.heap.size, 0, none⟩ vl).setCell ⟨w0.heap.size + 1, 0, none⟩ vb).drew :=
    (((Fr.refl (fun k => k = w0.heap.size ∨ k = w0.heap.size + 1) w1).setCell (p := ⟨w0.heap.size, 0, none⟩) (fun _ => .inl rfl) vl).setCell (p := ⟨w0.heap.size + 1, 0, none⟩) (fun _ => .inr rfl) vb).drew
  have hne : ∀ {B : Nat} {v : Value} {n : Nat} {ys : List Value}, w1.ownsRow B 115 4 v n ys → ∀ g, v.ownBlock = some g → ¬ (g = w0.heap.size ∨ g = w0.heap.size + 1) := fun hw g hg he => by
    obtain ⟨_, c, hc⟩ := own_block hw hg
    rcases he with he | he
    · exact type_ne hc h.cl (by decide) he
    · exact type_ne hc h.cb (by decide) he
  have c1 : (w1.setCell ⟨w0.heap.size, 0, none⟩ vl).heap[w0.heap.size]? = some (.cells #[vl] 111 (0, 0)) := (heap_setCell_same w1 _ 0 _ _ _ h.cl).trans (by simp)
  have c2 : ((w1.setCell ⟨w0.heap.size, 0, none⟩ vl).setCell ⟨w0.heap.size + 1, 0, none⟩ vb).heap[w0.heap.size]? = some (.cells #[vl] 111 (0, 0)) := (Go.Deep.blk_setCell_other _ _ _ _ (by simp)).trans c1
  have c3 : (w1.setCell ⟨w0.heap.size, 0, none⟩ vl).heap[w0.heap.size + 1]? = some (.cells #[vb] 110 (0, 0)) := (Go.Deep.blk_setCell_other _ _ _ _ (by simp)).trans h.cb
  have c4 : ((w1.setCell ⟨w0.heap.size, 0, none⟩ vl).setCell ⟨w0.heap.size + 1, 0, none⟩ vb).heap[w0.heap.size + 1]? = some (.cells #[vb] 110 (0, 0)) := (heap_setCell_same _ _ 0 _ _ _ c3).trans (by simp)
  exact ⟨hF.owns h.l (hne h.l), hF.owns h.b (hne h.b), h.fr.trans hF (fun j hj he => by omega), ((block_cells c2).1 0).trans rfl, ((block_cells c4).1 0).trans rfl⟩

set_option maxHeartbeats 1000000 in
set_option maxRecDepth 100000 in
theorem survey_row (t : Nat) (x : Value) (fL fR : Nat) (y : Value) (n : Nat) (ws : List Int) (w : World) (hn : nblk ws.length = n) (hn0 : n ≠ 0) (hrow : RowAt w t x fL fR y ws) :
    Calls Tryz.prog 99 #[.iface t x] w fun e w' => ∃ vl vb, e = .returned (.tuple #[vl, vb]) ∧ OwnT w.heap.size w' vl (objs ws) ∧ OwnB w.heap.size w' vb (bads ws) ∧ Fr New w w' := by
  obtain ⟨hlen, hn1, hn2⟩ := nblk_some (len := ws.length) (by omega)
  rw [hn] at hlen hn1 hn2
  have HWK : Hid (∀ W, Walk2 w ws n 0 [] [] W → Calls Tryz.prog 115 #[Value.iface t x, .func (.func 140) #[] #[.pointer (some ⟨w.heap.size, 0, none⟩), .pointer (some ⟨w.heap.size + 1, 0, none⟩)]] W fun e w' => e = .returned (.tuple #[]) ∧ ∃ vl vb, Surv w w'.heap.size (objs ws) (bads ws) vl vb w') := fun W hW => by
    unfold objs bads
    rw [hn]
    exact walk2_any w t x fL fR y ws.length n ws W rfl hlen hn2 hrow hW
  have HS0 : Hid (Walk2 w ws n 0 [] [] ((w.alloc (.cells #[.slice none 0 0] 111)).alloc (.cells #[.slice none 0 0] 110))) :=
    ⟨⟨.slice none 0 0, .slice none 0 0, ⟨(Go.Deep.blk_alloc_lt _ _ _ (by simp)).trans (Go.Deep.blk_alloc_new w _), new_at2 w _ _, World.ownsRow_nil _ _ _ _, World.ownsRow_nil _ _ _ _, (fun g h => by cases h), (fun g h => by cases h), (fun g h => by cases h), by simp, ((Fr.refl _ _).alloc _).alloc _⟩⟩, by simp, by simp, by simp⟩
  have hmf : ∀ (fn : Fn) (first cap : Array Value) (w : World), (Instr.makeFunc fn first cap).run Tryz.prog w = .ok (.func fn first cap) w := fun _ _ _ _ => rfl
  have hL := hn1
  clear hlen hn hn0 hrow hL
  go_enter Tryz.func99, Tryz.ntmps99
  go_upto_region 2 with (go_at_call 115; refine (HWK.out _ HS0.out).mono ?_; rintro e w1 ⟨rfl, vl, vb, hS⟩; obtain ⟨hcl, hzl⟩ := block_cells hS.cl; obtain ⟨hcb, hzb⟩ := block_cells hS.cb; obtain ⟨al, cl, rfl⟩ := own_slice hS.l; obtain ⟨ab, cb, rfl⟩ := own_slice hS.b)
  have hl0 : w1.cell? ⟨w.heap.size, 0, none⟩ = some (.slice al (objs ws).length cl) := (hcl 0).trans rfl
  have hb0 : w1.cell? ⟨w.heap.size + 1, 0, none⟩ = some (.slice ab (bads ws).length cb) := (hcb 0).trans rfl
  clear hcl hcb
  go_region
  all_goals (try go_wp2)
  all_goals
    obtain ⟨f1, f2, f3, f4, f5⟩ := hS.fin
    exact bodyPost_ret (v := .tuple #[.slice al (objs ws).length cl, .slice ab (bads ws).length cb]) (by simp [results, Tryz.results99, go_sem, f4, f5]) rfl ⟨_, _, rfl, f1, f2, f3⟩
theorem survey_any (sb so c n : Nat) (ws : List Int) (w : World) (hn : nblk ws.length = n) (hn0 : n ≠ 0) (hcw : ∀ i, i < ws.length → w.cell? ⟨sb, so + i, none⟩ = some (.int .u64 (wd ws i))) :
    Calls Tryz.prog 99 #[rowV (some ⟨sb, so, none⟩) ws.length c] w fun e w' => ∃ vl vb, e = .returned (.tuple #[vl, vb]) ∧ OwnT w.heap.size w' vl (objs ws) ∧ OwnB w.heap.size w' vb (bads ws) ∧ Fr New w w' :=
  survey_row _ _ _ _ _ n ws w hn hn0 (kept_row rfl hcw)
end Go.Proofs.YtbagcjlimdilpaaGreat
/- Walks of the program's Clear and mendHold: some words become 0. -/
namespace Go.Proofs.YtbagcjlimdilpaaGreat
open Go.RowKit

/-- another block than the words' own is as it was -/
abbrev But (g : Nat) : Nat → Prop := fun k => k = g
theorem Mem2.cells {w : World} {g c L : Nat} {cur : List Int} {wr : World} (h : Mem2 w g c L cur wr) : ∀ i, i < L → wr.cell? ⟨g, 0 + i, none⟩ = some (.int .u64 (wd cur i)) := fun i hi => by rw [Nat.zero_add]; exact h.cell i hi
theorem Mem2.put2 {w : World} {g c L : Nat} {cur : List Int} {wr : World} (h : Mem2 w g c L cur wr) (k : Nat) (y : Int) : Mem2 w g c L (cur.set k y) (wr.setCell ⟨g, k, none⟩ (.int .u64 y)) ∧ Fr (But g) wr (wr.setCell ⟨g, k, none⟩ (.int .u64 y)) :=
  ⟨h.put k y, (Fr.refl (But g) wr).setCell (p := ⟨g, k, none⟩) (fun _ => rfl) _⟩
theorem put_any {w : World} {g c L : Nat} {cur : List Int} {W : World} (M : Mem2 w g c L cur W) (i : Nat) (y : Int) (hi : i < L) :
    Calls Tryz.prog 152 #[.slice (some ⟨g, 0, none⟩) L c, .int .i64 i, .int .u64 y] W fun e w' => e = .returned (.tuple #[]) ∧ Mem2 w g c L (cur.set i y) w' ∧ Fr (But g) W w' := by
  refine (kput_any g L c i (wd cur i) y W hi (M.cell i hi) (M.free i)).mono ?_
  rintro e w' ⟨rfl, rfl⟩
  exact ⟨rfl, M.put2 i y⟩

set_option maxHeartbeats 1000000 in
set_option maxRecDepth 100000 in
theorem clear_any (k : Int) (o : Ob) {w : World} {g c L : Nat} {w2 cur : List Int} {Z : Nat → Prop} (W : World) (M : Mem2 w g c L cur W) (hZ : Zeroed w2 cur Z) (hL : w2.length = L) (hb : 106 + 8 * (o.block + o.span) ≤ L) (hL2 : L ≤ 1048576) :
    Calls Tryz.prog 72 #[.agg #[.int .i64 k, .int .i64 ((o.block + 1 : Nat) : Int), .int .i64 o.span, .int .i64 o.ptrs], rowV (some ⟨g, 0, none⟩) L c] W fun e w' => e = .returned (.tuple #[]) ∧ ∃ cur', Mem2 w g c L cur' w' ∧ Zeroed w2 cur' (fun q => Z q ∨ leakZ1 o o.span q) ∧ Fr (But g) W w' := by
  obtain ⟨b, sp, pt⟩ := o
  simp only at hb ⊢
  have HP : Hid (∀ i, i < sp → ∀ w, Calls Tryz.prog 118 #[.int .i64 ((b + 1 : Nat) + (i : Int))] w fun e w' => e = .returned (.int .i64 ((106 + 8 * (b + i) : Nat) : Int)) ∧ w' = w) := fun i hi w => by
    have := place_of (b + i) w (by omega)
    rwa [show ((b + i + 1 : Nat) : Int) = ((b + 1 : Nat) : Int) + (i : Int) by omega] at this
  obtain ⟨B, hB⟩ : ∃ B : Nat, B = b + 1 := ⟨_, rfl⟩
  rw [← hB] at HP ⊢
  have hBL : B ≤ 1048576 := by omega
  have hmp := meth_put (some ⟨g, 0, none⟩) L c
  have hap := ahead_put (some ⟨g, 0, none⟩) L c
  have hmf : ∀ (fn : Fn) (first cap : Array Value) (w : World), (Instr.makeFunc fn first cap).run Tryz.prog w = .ok (.func fn first cap) w := fun _ _ _ _ => rfl
  have HL : Hid (w2.length = L) := hL
  have hgW : g < W.heap.size := (own_block M.own rfl).2.elim (fun _ h => lt_of_block h)
  clear hB hL
  go_enter Tryz.func72, Tryz.ntmps72
  go_wp2
  have hM0 : Mem2 w g c L cur (W.alloc (.cells #[.int .i64 k, .int .i64 B, .int .i64 sp, .int .i64 pt] 115)) := M.grow ((Fr.refl _ _).alloc _)
  have hF0 : Fr (But g) W (W.alloc (.cells #[.int .i64 k, .int .i64 B, .int .i64 sp, .int .i64 pt] 115)) := (Fr.refl _ _).alloc _
  have hT0 : (W.alloc (.cells #[.int .i64 k, .int .i64 B, .int .i64 sp, .int .i64 pt] 115)).heap[W.heap.size]? = some (.cells #[.int .i64 k, .int .i64 B, .int .i64 sp, .int .i64 pt] 115 (0, 0)) := Go.Deep.blk_alloc_new W _
  go_loopg [7] sp (fun gh t wr => ∃ (i : Nat) (cur' : List Int), i ≤ sp ∧ gh = sp - i ∧ t = .int .i64 i ∧ Mem2 w g c L cur' wr ∧ Fr (But g) W wr ∧ wr.heap[W.heap.size]? = some (.cells #[.int .i64 k, .int .i64 B, .int .i64 sp, .int .i64 pt] 115 (0, 0)) ∧ Zeroed w2 cur' (fun q => Z q ∨ leakZ1 ⟨b, sp, pt⟩ i q))
  case atStart => exact ⟨0, cur, by omega, rfl, rfl, hM0, hF0, hT0, hZ.congr (fun q => ⟨.inl, fun h => h.resolve_right (leakZ1_zero q)⟩)⟩
  case round =>
    clear hM0 hF0 hT0 M hZ
    obtain ⟨i, cur', his, rfl, rfl, hM, hF, hT, hZ⟩ := hrel
    by_cases hi : i < sp
    · have HPI : Hid (∀ w, Calls Tryz.prog 118 #[.int .i64 (B + (i : Int))] w fun e w' => e = .returned (.int .i64 ((106 + 8 * (b + i) : Nat) : Int)) ∧ w' = w) := HP.out i hi
      have hq : 106 + 8 * (b + i) < L := by omega
      have hZn : Zeroed w2 (cur'.set (106 + 8 * (b + i)) 0) (fun q => Z q ∨ leakZ1 ⟨b, sp, pt⟩ (i + 1) q) := (hZ.set (by rw [HL.out]; exact hq)).congr (fun q => by
        rw [or_assoc]
        exact or_congr Iff.rfl (leakZ1_succ (o := ⟨b, sp, pt⟩) q))
      obtain ⟨pq, hpq⟩ : ∃ pq : Nat, pq = 106 + 8 * (b + i) := ⟨_, rfl⟩
      rw [← hpq] at HPI hq hZn
      obtain ⟨ht, hz⟩ := block_cells hT
      have ht1 : wr.cell? ⟨W.heap.size, 1, none⟩ = some (.int .i64 B) := (ht 1).trans rfl
      have HPU : Hid (∀ W', Fr New wr W' → Calls Tryz.prog 152 #[.slice (some ⟨g, 0, none⟩) L c, .int .i64 pq, .int .u64 0] W' fun e w' => e = .returned (.tuple #[]) ∧ Mem2 w g c L (cur'.set pq 0) w' ∧ Fr (But g) W' w') := fun W' hf => put_any (hM.grow hf) pq 0 hq
      have HPW : Hid (∀ w, Calls Tryz.prog 118 #[.int .i64 (IntKind.i64.wrap (B + (i : Int)))] w fun e w' => e = .returned (.int .i64 (pq : Int)) ∧ w' = w) := by rw [show IntKind.i64.wrap (B + (i : Int)) = B + (i : Int) by rw [IntKind.wrap_i64]; omega]; exact HPI.out
      clear hpq ht hz
      go_upto_region 4 with fail
      go_region_held3 (fun w' => w'.cell? ⟨W.heap.size, 1, none⟩ = some (.int .i64 B)) (first | go_keep | exact hkeep2)
        (first
          | (go_at_call 118; refine calls_same (HPI.out _) ?_)
          | (go_at_call 118; refine calls_same (HPW.out _) ?_)
          | (go_at_call 152; refine (HPU.out _ (by first | exact (Fr.refl New wr).drew | exact Fr.refl New wr)).mono ?_; rintro e w7 ⟨rfl, hm7, hf7⟩; have hf7' : Fr (But g) wr w7 := ((Fr.refl (But g) wr).drew.trans hf7 (fun _ _ h => h)); have ht7 := hf7'.heap hT (by show ¬ _ = g; omega); have hkeep2 : w7.cell? ⟨W.heap.size, 1, none⟩ = some (.int .i64 B) := ((block_cells ht7).1 1).trans rfl))
      all_goals
        go_wp2_with fail
        go_roundg (sp - (i + 1))
        case measure => omega
        case rel => exact ⟨i + 1, _, by omega, rfl, by go_num, hm7, hF.trans hf7' (fun _ _ h => h), ht7, hZn⟩
    · obtain rfl : i = sp := by omega
      go_wp2
      go_end0
      exact ⟨rfl, cur', hM, hZ, hF⟩

set_option maxRecDepth 100000 in
theorem mendHold_any {w : World} {g c L : Nat} {w2 cur : List Int} {Z : Nat → Prop} (v : Value) (l : List Ob) (q : Nat) (W : World) (M : Mem2 w g c L cur W) (hZ : Zeroed w2 cur Z) (hL : w2.length = L) (hq : q < L) (hv : LiesT W v l) (ha : Asc l) :
    Calls Tryz.prog 147 #[rowV (some ⟨g, 0, none⟩) L c, v, .int .i64 q] W fun e w' => e = .returned (.tuple #[]) ∧ ∃ cur', Mem2 w g c L cur' w' ∧ Zeroed w2 cur' (fun x => Z x ∨ (x = q ∧ idx l (wd w2 q) = none)) ∧ Fr (But g) W w' := by
  have HR : Hid (Calls Tryz.prog 197 #[.slice (some ⟨g, 0, none⟩) L c, .int .i64 q] W fun e w'' => e = .returned (.int .u64 (wd cur q)) ∧ w'' = W) := kread_any g 0 L c q _ W hq (M.cells q hq)
  have HD : Hid (Calls Tryz.prog 58 #[v, .int .u64 (wd cur q)] W fun e w' => e = .returned (.bool (dang l (wd cur q))) ∧ Fr New W w') := dangling_any v l _ W hv ha
  have HPU : Hid (∀ W', Fr New W W' → Calls Tryz.prog 152 #[.slice (some ⟨g, 0, none⟩) L c, .int .i64 q, .int .u64 0] W' fun e w' => e = .returned (.tuple #[]) ∧ Mem2 w g c L (cur.set q 0) w' ∧ Fr (But g) W' w') := fun W' hf => put_any (M.grow hf) q 0 hq
  have hmp := meth_put (some ⟨g, 0, none⟩) L c
  have hmr := meth_read (some ⟨g, 0, none⟩) L c
  obtain ⟨a, cp, rfl, _⟩ := hv
  rcases hd : dang l (wd cur q) with _ | _
  · have hZ2 : Zeroed w2 cur (fun x => Z x ∨ (x = q ∧ idx l (wd w2 q) = none)) := by
      rcases hx : idx l (wd cur q) with _ | k
      · have h0 : wd cur q = 0 := by
          by_cases h0 : wd cur q = 0
          · exact h0
          · rw [dang_yes h0 hx] at hd; cases hd
        refine ⟨hZ.len, fun x hx' => ?_, fun x hx' => hZ.no x (fun h => hx' (.inl h))⟩
        rcases hx' with h | ⟨rfl, _⟩
        · exact hZ.yes x h
        · exact h0
      · exact hZ.miss hx
    rw [hd] at HD
    obtain ⟨x, hx⟩ : ∃ x, x = wd cur q := ⟨_, rfl⟩
    rw [← hx] at HR HD
    clear hd hx
    go_enter Tryz.func147, Tryz.ntmps147
    go_wp2_with (first
      | (go_at_call 197; refine calls_same HR.out ?_)
      | (go_at_call 58; refine HD.out.mono ?_; rintro e w1 ⟨rfl, hf1⟩))
    go_end0
    exact ⟨rfl, cur, M.grow hf1, hZ2, (Fr.refl _ _).same hf1⟩
  · have hZ2 := hZ.hit (by rw [hL]; exact hq) (dang_iff.1 hd).2
    rw [hd] at HD
    obtain ⟨x, hx⟩ : ∃ x, x = wd cur q := ⟨_, rfl⟩
    rw [← hx] at HR HD
    clear hd hx
    go_enter Tryz.func147, Tryz.ntmps147
    go_wp2_with (first
      | (go_at_call 197; refine calls_same HR.out ?_)
      | (go_at_call 58; refine HD.out.mono ?_; rintro e w1 ⟨rfl, hf1⟩)
      | (go_at_call 152; refine (HPU.out w1 hf1).mono ?_; rintro e w7 ⟨rfl, hm7, hf7⟩))
    go_end0
    exact ⟨rfl, _, hm7, hZ2, ((Fr.refl (But g) W).same hf1).trans hf7 (fun _ _ h => h)⟩
end Go.Proofs.YtbagcjlimdilpaaGreat
