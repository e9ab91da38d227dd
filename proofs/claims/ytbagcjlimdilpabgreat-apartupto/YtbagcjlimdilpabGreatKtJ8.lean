/- Texts that follow one another, joined. -/
import Derived.Test.YtbagcjlimdilpabGreatKtJ7
import Derived.Maps.AppendAt
import Derived.Deep.AppendLies
import Derived.Test.YtbagcjlimdilpabGreatKtJ3
import Derived.Deep.RegionHeld3
import Derived.Deep.CutRange
import Derived.Test.YtbagcjlimdilpabGreatKtPgF
/- The document's heap whole: its words, its words now, its stores; walks of put, flush, Rollback. -/
namespace Go.Proofs.YtbagcjlimdilpabGreat
open Go.RowKit

/-- a store -/
structure St where
  k : Int
  at' : Int
  v : Int
def stCells (s : St) : List Value := [.int .i64 s.k, .int .i64 s.at', .int .u64 s.v]
def stsCells (l : List St) : List Value := l.flatMap stCells
theorem stsCells_snoc (l : List St) (s : St) : stsCells (l ++ [s]) = stsCells l ++ stCells s := by simp [stsCells]
theorem stCells_one (s : St) : ∀ u ∈ stCells s, u.oneCell' = true := by
  intro u hu
  simp only [stCells, List.mem_cons, List.not_mem_nil, or_false] at hu
  rcases hu with rfl | rfl | rfl <;> rfl
theorem Tryz.info140 : (Tryz.prog.info? 140).map (fun i => (i.zero, i.size, i.bytes)) = some (some (.agg #[.int .i64 0, .int .i64 0, .int .u64 0]), 3, 24) := by kernel_rfl

/-- which old blocks a store turns -/
def TurnedH (hb gw : Nat) (vs : Value) (k : Nat) : Prop := k = hb ∨ k = gw ∨ vs.ownBlock = some k
end Go.Proofs.YtbagcjlimdilpabGreat

/- The document's Open: what it answers, and a heap while it is opened. -/
namespace Go.Proofs.YtbagcjlimdilpabGreat
open Go.RowKit

/-- the words of a heap that is opened, and its stores -/
def openW (ws : List Int) : List Int := if (asksS ws).1 = 0 then ws else (doneS ws (asksS ws).1).set 8 0
def putsS (ws : List Int) (i : Nat) : List St := (List.range i).map (fun j => ⟨1, wd ws (10 + 2 * j), wd ws (11 + 2 * j)⟩)
theorem putsS_succ (ws : List Int) (i : Nat) : putsS ws (i + 1) = putsS ws i ++ [⟨1, wd ws (10 + 2 * i), wd ws (11 + 2 * i)⟩] := by simp [putsS, List.range_succ]
theorem putsS_len (ws : List Int) (i : Nat) : (putsS ws i).length = i := by simp [putsS]
def openSt (ws : List Int) : List St := if (asksS ws).1 = 0 then [] else putsS ws (asksS ws).1 ++ [⟨2, 0, 0⟩] ++ [⟨1, 8, 0⟩] ++ [⟨2, 0, 0⟩]
def OpenErr (ws : List Int) (c : Int) : Prop := (nblk ws.length = 0 ∧ c = 2) ∨ (nblk ws.length ≠ 0 ∧ (((asksS ws).2 = false ∧ c = 4) ∨ ((asksS ws).2 = true ∧ c ≠ 0 ∧ c ≠ 8 ∧ ∃ p, CheckIs (openW ws) c p)))
def OpenOk (ws : List Int) : Prop := nblk ws.length ≠ 0 ∧ (asksS ws).2 = true ∧ ∃ c p, CheckIs (openW ws) c p ∧ (c = 0 ∨ c = 8)
theorem open_not {ws : List Int} {c : Int} (h : OpenErr ws c) (h' : OpenOk ws) : False := by
  obtain ⟨h1, h2, c', p', h3, h4⟩ := h'
  rcases h with ⟨g1, _⟩ | ⟨_, ⟨g2, _⟩ | ⟨_, g3, g4, p, g5⟩⟩
  · exact h1 g1
  · rw [h2] at g2; cases g2
  · obtain ⟨rfl, _⟩ := told_one g5 h3
    rcases h4 with h4 | h4
    · exact g3 h4
    · exact g4 h4

end Go.Proofs.YtbagcjlimdilpabGreat

/- The walk of the document's Open. -/
namespace Go.Proofs.YtbagcjlimdilpabGreat
open Go.RowKit

end Go.Proofs.YtbagcjlimdilpabGreat

/- The document's Commit: its parts. -/
namespace Go.Proofs.YtbagcjlimdilpabGreat
open Go.RowKit

/-- the words that a Commit makes -/
def countS (now : List Int) : List Int := now.set 2 (IntKind.u64.wrap (wd now 2 + 1))
def nextS (now : List Int) : List Int := (countS now).set 7 (sumL ((countS now).take 7))
theorem nextS_len (now : List Int) : (nextS now).length = now.length := by simp [nextS, countS]
/-- the places of its records -/
def diffAt (cur nx : List Int) (q : Nat) : Bool := decide (wd nx q ≠ wd cur q) && (decide (q < 8) || decide (106 ≤ q))
def diffS (cur nx : List Int) (k : Nat) : List Nat := (List.range k).filter (diffAt cur nx)
theorem diffS_succ (cur nx : List Int) (k : Nat) : diffS cur nx (k + 1) = diffS cur nx k ++ (if diffAt cur nx k then [k] else []) := by
  unfold diffS
  rw [List.range_succ, List.filter_append]
  congr 1
  cases h : diffAt cur nx k <;> simp [h]
theorem diffS_mem {cur nx : List Int} {k q : Nat} : q ∈ diffS cur nx k ↔ q < k ∧ wd nx q ≠ wd cur q ∧ (q < 8 ∨ 106 ≤ q) := by
  simp [diffS, diffAt]
theorem diffS_le (cur nx : List Int) (k : Nat) : (diffS cur nx k).length ≤ k := by
  have := List.length_filter_le (diffAt cur nx) (List.range k)
  simpa [diffS] using this
/-- the stores that lay the records into the log, and those that lay them over the words -/
def recSt (nx : List Int) (ps : List Nat) (i : Nat) : List St := (List.range i).flatMap (fun j => [⟨1, ((10 + 2 * j : Nat) : Int), ((ps.getD j 0 : Nat) : Int)⟩, ⟨1, ((11 + 2 * j : Nat) : Int), wd nx (ps.getD j 0)⟩])
def laySt (nx : List Int) (ps : List Nat) (i : Nat) : List St := (List.range i).map (fun j => ⟨1, ((ps.getD j 0 : Nat) : Int), wd nx (ps.getD j 0)⟩)
def recW (cur nx : List Int) (ps : List Nat) : Nat → List Int
  | 0 => cur
  | i + 1 => ((recW cur nx ps i).set (10 + 2 * i) ((ps.getD i 0 : Nat) : Int)).set (11 + 2 * i) (wd nx (ps.getD i 0))
def layW (cur nx : List Int) (ps : List Nat) : Nat → List Int
  | 0 => cur
  | i + 1 => (layW cur nx ps i).set (ps.getD i 0) (wd nx (ps.getD i 0))
theorem recSt_succ (nx : List Int) (ps : List Nat) (i : Nat) : recSt nx ps (i + 1) = recSt nx ps i ++ [⟨1, ((10 + 2 * i : Nat) : Int), ((ps.getD i 0 : Nat) : Int)⟩] ++ [⟨1, ((11 + 2 * i : Nat) : Int), wd nx (ps.getD i 0)⟩] := by simp [recSt, List.range_succ]
theorem laySt_succ (nx : List Int) (ps : List Nat) (i : Nat) : laySt nx ps (i + 1) = laySt nx ps i ++ [⟨1, ((ps.getD i 0 : Nat) : Int), wd nx (ps.getD i 0)⟩] := by simp [laySt, List.range_succ]
theorem recSt_len (nx : List Int) (ps : List Nat) (i : Nat) : (recSt nx ps i).length = 2 * i := by
  induction i with
  | zero => rfl
  | succ i ih => rw [recSt_succ]; simp [ih]; omega
theorem laySt_len (nx : List Int) (ps : List Nat) (i : Nat) : (laySt nx ps i).length = i := by simp [laySt]
theorem recW_len (cur nx : List Int) (ps : List Nat) (i : Nat) : (recW cur nx ps i).length = cur.length := by
  induction i with
  | zero => rfl
  | succ i ih => simp [recW, ih]
theorem layW_len (cur nx : List Int) (ps : List Nat) (i : Nat) : (layW cur nx ps i).length = cur.length := by
  induction i with
  | zero => rfl
  | succ i ih => simp [layW, ih]
/-- the log's sum, and all of a Commit: its words, its stores -/
def recSum (nx : List Int) (ps : List Nat) : Int := sumL ((ps.length : Int) :: (List.range ps.length).flatMap (fun j => [((ps.getD j 0 : Nat) : Int), wd nx (ps.getD j 0)]))
def commitW (cur now : List Int) : List Int :=
  let nx := nextS now
  let ps := diffS cur nx nx.length
  ((layW (((recW cur nx ps ps.length).set 9 (recSum nx ps)).set 8 (ps.length : Int)) nx ps ps.length)).set 8 0
def commitSt (cur now : List Int) : List St :=
  let nx := nextS now
  let ps := diffS cur nx nx.length
  recSt nx ps ps.length ++ [⟨1, 9, recSum nx ps⟩] ++ [⟨2, 0, 0⟩] ++ [⟨1, 8, (ps.length : Int)⟩] ++ [⟨2, 0, 0⟩] ++ laySt nx ps ps.length ++ [⟨2, 0, 0⟩] ++ [⟨1, 8, 0⟩] ++ [⟨2, 0, 0⟩]

end Go.Proofs.YtbagcjlimdilpabGreat

/- Walks of the program's Clear and mendHold: some words become 0. -/
namespace Go.Proofs.YtbagcjlimdilpabGreat
open Go.RowKit

/-- another block than the words' own is as it was -/
abbrev But (g : Nat) : Nat → Prop := fun k => k = g
theorem Mem2.cells {w : World} {g c L : Nat} {cur : List Int} {wr : World} (h : Mem2 w g c L cur wr) : ∀ i, i < L → wr.cell? ⟨g, 0 + i, none⟩ = some (.int .u64 (wd cur i)) := fun i hi => by rw [Nat.zero_add]; exact h.cell i hi
theorem Mem2.put2 {w : World} {g c L : Nat} {cur : List Int} {wr : World} (h : Mem2 w g c L cur wr) (k : Nat) (y : Int) : Mem2 w g c L (cur.set k y) (wr.setCell ⟨g, k, none⟩ (.int .u64 y)) ∧ Fr (But g) wr (wr.setCell ⟨g, k, none⟩ (.int .u64 y)) :=
  ⟨h.put k y, (Fr.refl (But g) wr).setCell (p := ⟨g, k, none⟩) (fun _ => rfl) _⟩
theorem put_any {w : World} {g c L : Nat} {cur : List Int} {W : World} (M : Mem2 w g c L cur W) (i : Nat) (y : Int) (hi : i < L) :
    Calls Tryz.prog 85 #[.slice (some ⟨g, 0, none⟩) L c, .int .i64 i, .int .u64 y] W fun e w' => e = .returned (.tuple #[]) ∧ Mem2 w g c L (cur.set i y) w' ∧ Fr (But g) W w' := by
  refine (kput_any g L c i (wd cur i) y W hi (M.cell i hi) (M.free i)).mono ?_
  rintro e w' ⟨rfl, rfl⟩
  exact ⟨rfl, M.put2 i y⟩

set_option maxHeartbeats 1000000 in
set_option maxRecDepth 100000 in
theorem clear_any (k : Int) (o : Ob) {w : World} {g c L : Nat} {w2 cur : List Int} {Z : Nat → Prop} (W : World) (M : Mem2 w g c L cur W) (hZ : Zeroed w2 cur Z) (hL : w2.length = L) (hb : 106 + 8 * (o.block + o.span) ≤ L) (hL2 : L ≤ 1048576) :
    Calls Tryz.prog 41 #[.agg #[.int .i64 k, .int .i64 ((o.block + 1 : Nat) : Int), .int .i64 o.span, .int .i64 o.ptrs], rowV (some ⟨g, 0, none⟩) L c] W fun e w' => e = .returned (.tuple #[]) ∧ ∃ cur', Mem2 w g c L cur' w' ∧ Zeroed w2 cur' (fun q => Z q ∨ leakZ1 o o.span q) ∧ Fr (But g) W w' := by
  obtain ⟨b, sp, pt⟩ := o
  simp only at hb ⊢
  have HP : Hid (∀ i, i < sp → ∀ w, Calls Tryz.prog 69 #[.int .i64 ((b + 1 : Nat) + (i : Int))] w fun e w' => e = .returned (.int .i64 ((106 + 8 * (b + i) : Nat) : Int)) ∧ w' = w) := fun i hi w => by
    have := place_of (b + i) w (by omega)
    rwa [show ((b + i + 1 : Nat) : Int) = ((b + 1 : Nat) : Int) + (i : Int) by omega] at this
  obtain ⟨B, hB⟩ : ∃ B : Nat, B = b + 1 := ⟨_, rfl⟩
  rw [← hB] at HP ⊢
  have hBL : B ≤ 1048576 := by omega
  have hmp := meth_put (some ⟨g, 0, none⟩) L c
  have hap := ahead_put (some ⟨g, 0, none⟩) L c
  have hmf : ∀ (fn : Fn) (first cap : Array Value) (w : World), (Instr.makeFunc fn first cap).run Tryz.prog w = .ok (.func fn first cap) w := fun _ _ _ _ => rfl
  have HL : Hid (w2.length = L) := hL
  have hgW : g < W.heap.size := (own_block M.own rfl).2.elim (fun _ h => lt_of_block h)
  clear hB hL
  go_enter Tryz.func41, Tryz.ntmps41
  go_wp2
  have hM0 : Mem2 w g c L cur (W.alloc (.cells #[.int .i64 k, .int .i64 B, .int .i64 sp, .int .i64 pt] 81)) := M.grow ((Fr.refl _ _).alloc _)
  have hF0 : Fr (But g) W (W.alloc (.cells #[.int .i64 k, .int .i64 B, .int .i64 sp, .int .i64 pt] 81)) := (Fr.refl _ _).alloc _
  have hT0 : (W.alloc (.cells #[.int .i64 k, .int .i64 B, .int .i64 sp, .int .i64 pt] 81)).heap[W.heap.size]? = some (.cells #[.int .i64 k, .int .i64 B, .int .i64 sp, .int .i64 pt] 81 (0, 0)) := Go.Deep.blk_alloc_new W _
  go_loopg [7] sp (fun gh t wr => ∃ (i : Nat) (cur' : List Int), i ≤ sp ∧ gh = sp - i ∧ t = .int .i64 i ∧ Mem2 w g c L cur' wr ∧ Fr (But g) W wr ∧ wr.heap[W.heap.size]? = some (.cells #[.int .i64 k, .int .i64 B, .int .i64 sp, .int .i64 pt] 81 (0, 0)) ∧ Zeroed w2 cur' (fun q => Z q ∨ leakZ1 ⟨b, sp, pt⟩ i q))
  case atStart => exact ⟨0, cur, by omega, rfl, rfl, hM0, hF0, hT0, hZ.congr (fun q => ⟨.inl, fun h => h.resolve_right (leakZ1_zero q)⟩)⟩
  case round =>
    clear hM0 hF0 hT0 M hZ
    obtain ⟨i, cur', his, rfl, rfl, hM, hF, hT, hZ⟩ := hrel
    by_cases hi : i < sp
    · have HPI : Hid (∀ w, Calls Tryz.prog 69 #[.int .i64 (B + (i : Int))] w fun e w' => e = .returned (.int .i64 ((106 + 8 * (b + i) : Nat) : Int)) ∧ w' = w) := HP.out i hi
      have hq : 106 + 8 * (b + i) < L := by omega
      have hZn : Zeroed w2 (cur'.set (106 + 8 * (b + i)) 0) (fun q => Z q ∨ leakZ1 ⟨b, sp, pt⟩ (i + 1) q) := (hZ.set (by rw [HL.out]; exact hq)).congr (fun q => by
        rw [or_assoc]
        exact or_congr Iff.rfl (leakZ1_succ (o := ⟨b, sp, pt⟩) q))
      obtain ⟨pq, hpq⟩ : ∃ pq : Nat, pq = 106 + 8 * (b + i) := ⟨_, rfl⟩
      rw [← hpq] at HPI hq hZn
      obtain ⟨ht, hz⟩ := block_cells hT
      have ht1 : wr.cell? ⟨W.heap.size, 1, none⟩ = some (.int .i64 B) := (ht 1).trans rfl
      have HPU : Hid (∀ W', Fr New wr W' → Calls Tryz.prog 85 #[.slice (some ⟨g, 0, none⟩) L c, .int .i64 pq, .int .u64 0] W' fun e w' => e = .returned (.tuple #[]) ∧ Mem2 w g c L (cur'.set pq 0) w' ∧ Fr (But g) W' w') := fun W' hf => put_any (hM.grow hf) pq 0 hq
      have HPW : Hid (∀ w, Calls Tryz.prog 69 #[.int .i64 (IntKind.i64.wrap (B + (i : Int)))] w fun e w' => e = .returned (.int .i64 (pq : Int)) ∧ w' = w) := by rw [show IntKind.i64.wrap (B + (i : Int)) = B + (i : Int) by rw [IntKind.wrap_i64]; omega]; exact HPI.out
      clear hpq ht hz
      go_upto_region 4 with fail
      go_region_held3 (fun w' => w'.cell? ⟨W.heap.size, 1, none⟩ = some (.int .i64 B)) (first | go_keep | exact hkeep2)
        (first
          | (go_at_call 69; refine calls_same (HPI.out _) ?_)
          | (go_at_call 69; refine calls_same (HPW.out _) ?_)
          | (go_at_call 85; refine (HPU.out _ (by first | exact (Fr.refl New wr).drew | exact Fr.refl New wr)).mono ?_; rintro e w7 ⟨rfl, hm7, hf7⟩; have hf7' : Fr (But g) wr w7 := ((Fr.refl (But g) wr).drew.trans hf7 (fun _ _ h => h)); have ht7 := hf7'.heap hT (by show ¬ _ = g; omega); have hkeep2 : w7.cell? ⟨W.heap.size, 1, none⟩ = some (.int .i64 B) := ((block_cells ht7).1 1).trans rfl))
      all_goals
        go_wp2_with fail
        go_roundg (sp - (i + 1))
        case measure => omega
        case rel => exact ⟨i + 1, _, by omega, rfl, by go_num, hm7, hF.trans hf7' (fun _ _ h => h), ht7, hZn⟩
    · obtain rfl : i = sp := by omega
      go_wp2
      go_end0
      exact ⟨rfl, cur', hM, hZ, hF⟩

set_option maxRecDepth 100000 in
theorem mendHold_any {w : World} {g c L : Nat} {w2 cur : List Int} {Z : Nat → Prop} (v : Value) (l : List Ob) (q : Nat) (W : World) (M : Mem2 w g c L cur W) (hZ : Zeroed w2 cur Z) (hL : w2.length = L) (hq : q < L) (hv : LiesT W v l) (ha : Asc l) :
    Calls Tryz.prog 77 #[rowV (some ⟨g, 0, none⟩) L c, v, .int .i64 q] W fun e w' => e = .returned (.tuple #[]) ∧ ∃ cur', Mem2 w g c L cur' w' ∧ Zeroed w2 cur' (fun x => Z x ∨ (x = q ∧ idx l (wd w2 q) = none)) ∧ Fr (But g) W w' := by
  have HR : Hid (Calls Tryz.prog 137 #[.slice (some ⟨g, 0, none⟩) L c, .int .i64 q] W fun e w'' => e = .returned (.int .u64 (wd cur q)) ∧ w'' = W) := kread_any g 0 L c q _ W hq (M.cells q hq)
  have HD : Hid (Calls Tryz.prog 43 #[v, .int .u64 (wd cur q)] W fun e w' => e = .returned (.bool (dang l (wd cur q))) ∧ Fr New W w') := dangling_any v l _ W hv ha
  have HPU : Hid (∀ W', Fr New W W' → Calls Tryz.prog 85 #[.slice (some ⟨g, 0, none⟩) L c, .int .i64 q, .int .u64 0] W' fun e w' => e = .returned (.tuple #[]) ∧ Mem2 w g c L (cur.set q 0) w' ∧ Fr (But g) W' w') := fun W' hf => put_any (M.grow hf) q 0 hq
  have hmp := meth_put (some ⟨g, 0, none⟩) L c
  have hmr := meth_read (some ⟨g, 0, none⟩) L c
  obtain ⟨a, cp, rfl, _⟩ := hv
  rcases hd : dang l (wd cur q) with _ | _
  · have hZ2 : Zeroed w2 cur (fun x => Z x ∨ (x = q ∧ idx l (wd w2 q) = none)) := by
      rcases hx : idx l (wd cur q) with _ | k
      · have h0 : wd cur q = 0 := by
          by_cases h0 : wd cur q = 0
          · exact h0
          · rw [dang_yes h0 hx] at hd; cases hd
        refine ⟨hZ.len, fun x hx' => ?_, fun x hx' => hZ.no x (fun h => hx' (.inl h))⟩
        rcases hx' with h | ⟨rfl, _⟩
        · exact hZ.yes x h
        · exact h0
      · exact hZ.miss hx
    rw [hd] at HD
    obtain ⟨x, hx⟩ : ∃ x, x = wd cur q := ⟨_, rfl⟩
    rw [← hx] at HR HD
    clear hd hx
    go_enter Tryz.func77, Tryz.ntmps77
    go_wp2_with (first
      | (go_at_call 137; refine calls_same HR.out ?_)
      | (go_at_call 43; refine HD.out.mono ?_; rintro e w1 ⟨rfl, hf1⟩))
    go_end0
    exact ⟨rfl, cur, M.grow hf1, hZ2, (Fr.refl _ _).same hf1⟩
  · have hZ2 := hZ.hit (by rw [hL]; exact hq) (dang_iff.1 hd).2
    rw [hd] at HD
    obtain ⟨x, hx⟩ : ∃ x, x = wd cur q := ⟨_, rfl⟩
    rw [← hx] at HR HD
    clear hd hx
    go_enter Tryz.func77, Tryz.ntmps77
    go_wp2_with (first
      | (go_at_call 137; refine calls_same HR.out ?_)
      | (go_at_call 43; refine HD.out.mono ?_; rintro e w1 ⟨rfl, hf1⟩)
      | (go_at_call 85; refine (HPU.out w1 hf1).mono ?_; rintro e w7 ⟨rfl, hm7, hf7⟩))
    go_end0
    exact ⟨rfl, _, hm7, hZ2, ((Fr.refl (But g) W).same hf1).trans hf7 (fun _ _ h => h)⟩
end Go.Proofs.YtbagcjlimdilpabGreat

