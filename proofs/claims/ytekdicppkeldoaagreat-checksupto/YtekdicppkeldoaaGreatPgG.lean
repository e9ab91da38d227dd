/- The walk of the program's survey: all objects, and the wrong headers. -/
import Derived.Test.YtekdicppkeldoaaGreatPgF
namespace Go.Proofs.YtekdicppkeldoaaGreat
open Go.RowKit

theorem thsCells_get (l : List Ob) (i j : Nat) (hi : i < l.length) (hj : j < 4) : (thsCells l)[i * 4 + j]? = (thCells l[i])[j]? := by
  induction l generalizing i with
  | nil => simp at hi
  | cons e r ih =>
    simp only [thsCells, List.flatMap_cons]
    cases i with
    | zero => rw [List.getElem?_append_left (by simp [thCells]; omega)]; simp
    | succ i =>
      rw [List.getElem?_append_right (by simp [thCells]; omega)]
      have := ih i (by simpa using hi)
      rw [show (i + 1) * 4 + j - (thCells e).length = i * 4 + j by simp [thCells]; omega]
      exact this
theorem liesT_own {w : World} {B : Nat} {v : Value} {l : List Ob} (h : OwnT B w v l) (hl : l.length ≤ 1048576) (hb : ∀ o ∈ l, o.block ≤ 1048576 ∧ o.span ≤ 4 ∧ o.ptrs < 32) : LiesT w v l := by
  obtain ⟨a, c, rfl⟩ := own_slice h
  refine ⟨a, c, rfl, hl, hb, fun hp => ?_⟩
  obtain ⟨g, c', hv, _, hg⟩ := h.form hp
  cases hv
  have key : ∀ i (hi : i < l.length) j, j < 4 → w.cell? ⟨g, i * 4 + j, none⟩ = (thCells l[i])[j]? := fun i hi j hj => (h.cellAt (i * 4 + j) (by omega)).trans (thsCells_get l i j hi hj)
  exact ⟨g, rfl, hg, fun i hi => ⟨key i hi 0 (by omega), key i hi 1 (by omega), key i hi 2 (by omega), key i hi 3 (by omega)⟩⟩
theorem liesT_objs {w : World} {B : Nat} {v : Value} {ws : List Int} (h : OwnT B w v (objs ws)) : LiesT w v (objs ws) :=
  liesT_own h (by have := objs_len ws; omega) (fun o ho => by have := objs_in ho; have := nblk_le ws.length; exact ⟨by omega, by omega, by omega⟩)
theorem bdsCells_get (l : List Nat) (i j : Nat) (hi : i < l.length) (hj : j < 4) : (bdsCells l)[i * 4 + j]? = (bdCells l[i])[j]? := by
  induction l generalizing i with
  | nil => simp at hi
  | cons e r ih =>
    simp only [bdsCells, List.flatMap_cons]
    cases i with
    | zero => rw [List.getElem?_append_left (by simp [bdCells]; omega)]; simp
    | succ i =>
      rw [List.getElem?_append_right (by simp [bdCells]; omega)]
      have := ih i (by simpa using hi)
      rw [show (i + 1) * 4 + j - (bdCells e).length = i * 4 + j by simp [bdCells]; omega]
      exact this
/-- the wrong headers' things, as they lie -/
def LiesB (w : World) (v : Value) (l : List Nat) : Prop := ∃ a cap, v = .slice a l.length cap ∧
  (0 < l.length → ∃ g, a = some ⟨g, 0, none⟩ ∧ ∀ i (hi : i < l.length), w.cell? ⟨g, i * 4, none⟩ = some (.int .i64 2) ∧ w.cell? ⟨g, i * 4 + 1, none⟩ = some (.int .i64 (((l[i] - 106) / 8 + 1 : Nat) : Int)) ∧ w.cell? ⟨g, i * 4 + 2, none⟩ = some (.int .i64 1) ∧ w.cell? ⟨g, i * 4 + 3, none⟩ = some (.int .i64 0))
theorem liesB_own {w : World} {B : Nat} {v : Value} {l : List Nat} (h : OwnB B w v l) : LiesB w v l := by
  obtain ⟨a, c, rfl⟩ := own_slice h
  refine ⟨a, c, rfl, fun hp => ?_⟩
  obtain ⟨g, c', hv, _, hg⟩ := h.form hp
  cases hv
  have key : ∀ i (hi : i < l.length) j, j < 4 → w.cell? ⟨g, i * 4 + j, none⟩ = (bdCells l[i])[j]? := fun i hi j hj => (h.cellAt (i * 4 + j) (by omega)).trans (bdsCells_get l i j hi hj)
  exact ⟨g, rfl, fun i hi => ⟨key i hi 0 (by omega), key i hi 1 (by omega), key i hi 2 (by omega), key i hi 3 (by omega)⟩⟩

theorem Surv.fin {w0 : World} {H : Nat} {os : List Ob} {bs : List Nat} {vl vb : Value} {w1 : World} (h : Surv w0 H os bs vl vb w1) :
    OwnT w0.heap.size ((w1.setCell ⟨w0.heap.size, 0, none⟩ vl).setCell ⟨w0.heap.size + 1, 0, none⟩ vb).drew vl os ∧ OwnB w0.heap.size ((w1.setCell ⟨w0.heap.size, 0, none⟩ vl).setCell ⟨w0.heap.size + 1, 0, none⟩ vb).drew vb bs ∧
      Fr New w0 ((w1.setCell ⟨w0.heap.size, 0, none⟩ vl).setCell ⟨w0.heap.size + 1, 0, none⟩ vb).drew ∧
      ((w1.setCell ⟨w0.heap.size, 0, none⟩ vl).setCell ⟨w0.heap.size + 1, 0, none⟩ vb).cell? ⟨w0.heap.size, 0, none⟩ = some vl ∧ ((w1.setCell ⟨w0.heap.size, 0, none⟩ vl).setCell ⟨w0.heap.size + 1, 0, none⟩ vb).cell? ⟨w0.heap.size + 1, 0, none⟩ = some vb := by
  have hF : Fr (fun k => k = w0.heap.size ∨ k = w0.heap.size + 1) w1 ((w1.setCell ⟨w0.heap.size, 0, none⟩ vl).setCell ⟨w0.heap.size + 1, 0, none⟩ vb).drew :=
    (((Fr.refl (fun k => k = w0.heap.size ∨ k = w0.heap.size + 1) w1).setCell (p := ⟨w0.heap.size, 0, none⟩) (fun _ => .inl rfl) vl).setCell (p := ⟨w0.heap.size + 1, 0, none⟩) (fun _ => .inr rfl) vb).drew
  have hne : ∀ {B : Nat} {v : Value} {n : Nat} {ys : List Value}, w1.ownsRow B 132 4 v n ys → ∀ g, v.ownBlock = some g → ¬ (g = w0.heap.size ∨ g = w0.heap.size + 1) := fun hw g hg he => by
    obtain ⟨_, c, hc⟩ := own_block hw hg
    rcases he with he | he
    · exact type_ne hc h.cl (by decide) he
    · exact type_ne hc h.cb (by decide) he
  have c1 : (w1.setCell ⟨w0.heap.size, 0, none⟩ vl).heap[w0.heap.size]? = some (.cells #[vl] 127 (0, 0)) := (heap_setCell_same w1 _ 0 _ _ _ h.cl).trans (by simp)
  have c2 : ((w1.setCell ⟨w0.heap.size, 0, none⟩ vl).setCell ⟨w0.heap.size + 1, 0, none⟩ vb).heap[w0.heap.size]? = some (.cells #[vl] 127 (0, 0)) := (Go.Deep.blk_setCell_other _ _ _ _ (by simp)).trans c1
  have c3 : (w1.setCell ⟨w0.heap.size, 0, none⟩ vl).heap[w0.heap.size + 1]? = some (.cells #[vb] 126 (0, 0)) := (Go.Deep.blk_setCell_other _ _ _ _ (by simp)).trans h.cb
  have c4 : ((w1.setCell ⟨w0.heap.size, 0, none⟩ vl).setCell ⟨w0.heap.size + 1, 0, none⟩ vb).heap[w0.heap.size + 1]? = some (.cells #[vb] 126 (0, 0)) := (heap_setCell_same _ _ 0 _ _ _ c3).trans (by simp)
  exact ⟨hF.owns h.l (hne h.l), hF.owns h.b (hne h.b), h.fr.trans hF (fun j hj he => by omega), ((block_cells c2).1 0).trans rfl, ((block_cells c4).1 0).trans rfl⟩

set_option maxHeartbeats 1000000 in
set_option maxRecDepth 100000 in
theorem survey_any (sb so c n : Nat) (ws : List Int) (w : World) (hn : nblk ws.length = n) (hn0 : n ≠ 0) (hcw : ∀ i, i < ws.length → w.cell? ⟨sb, so + i, none⟩ = some (.int .u64 (wd ws i))) :
    Calls Tryz.prog 76 #[rowV (some ⟨sb, so, none⟩) ws.length c] w fun e w' => ∃ vl vb, e = .returned (.tuple #[vl, vb]) ∧ OwnT w.heap.size w' vl (objs ws) ∧ OwnB w.heap.size w' vb (bads ws) ∧ Fr New w w' := by
  obtain ⟨hlen, hn1, hn2⟩ := nblk_some (len := ws.length) (by omega)
  rw [hn] at hlen hn1 hn2
  have HWK : Hid (∀ W, Walk2 w ws n 0 [] [] W → Calls Tryz.prog 85 #[rowV (some ⟨sb, so, none⟩) ws.length c, .func (.func 86) #[] #[.pointer (some ⟨w.heap.size, 0, none⟩), .pointer (some ⟨w.heap.size + 1, 0, none⟩)]] W fun e w' => e = .returned (.tuple #[]) ∧ ∃ vl vb, Surv w w'.heap.size (objs ws) (bads ws) vl vb w') := fun W hW => by
    unfold objs bads
    rw [hn]
    exact walk2_any w sb so ws.length c n ws W rfl hlen hn2 hcw hW
  have HS0 : Hid (Walk2 w ws n 0 [] [] ((w.alloc (.cells #[.slice none 0 0] 127)).alloc (.cells #[.slice none 0 0] 126))) :=
    ⟨⟨.slice none 0 0, .slice none 0 0, ⟨(Go.Deep.blk_alloc_lt _ _ _ (by simp)).trans (Go.Deep.blk_alloc_new w _), new_at2 w _ _, World.ownsRow_nil _ _ _ _, World.ownsRow_nil _ _ _ _, (fun g h => by cases h), (fun g h => by cases h), (fun g h => by cases h), by simp, ((Fr.refl _ _).alloc _).alloc _⟩⟩, by simp, by simp, by simp⟩
  have hmf : ∀ (fn : Fn) (first cap : Array Value) (w : World), (Instr.makeFunc fn first cap).run Tryz.prog w = .ok (.func fn first cap) w := fun _ _ _ _ => rfl
  obtain ⟨L, hL⟩ : ∃ L, L = ws.length := ⟨_, rfl⟩
  rw [← hL] at HWK ⊢
  clear hlen hn hn0 hcw hL
  go_enter Tryz.func76, Tryz.ntmps76
  go_upto_region 2 with (go_at_call 85; refine (HWK.out _ HS0.out).mono ?_; rintro e w1 ⟨rfl, vl, vb, hS⟩; obtain ⟨hcl, hzl⟩ := block_cells hS.cl; obtain ⟨hcb, hzb⟩ := block_cells hS.cb; obtain ⟨al, cl, rfl⟩ := own_slice hS.l; obtain ⟨ab, cb, rfl⟩ := own_slice hS.b)
  have hl0 : w1.cell? ⟨w.heap.size, 0, none⟩ = some (.slice al (objs ws).length cl) := (hcl 0).trans rfl
  have hb0 : w1.cell? ⟨w.heap.size + 1, 0, none⟩ = some (.slice ab (bads ws).length cb) := (hcb 0).trans rfl
  clear hcl hcb
  go_region
  all_goals (try go_wp2)
  all_goals
    obtain ⟨f1, f2, f3, f4, f5⟩ := hS.fin
    exact bodyPost_ret (v := .tuple #[.slice al (objs ws).length cl, .slice ab (bads ws).length cb]) (by simp [results, Tryz.results76, go_sem, f4, f5]) rfl ⟨_, _, rfl, f1, f2, f3⟩
end Go.Proofs.YtekdicppkeldoaaGreat
