/- The walk of the book's 'looks': where every list that came out is full of its mark, it says so. -/
import Derived.Test.YtbagcjlimdilpaaGreatSuImgW
namespace Go.Proofs.YtbagcjlimdilpaaGreat
open Go.RowKit

/-- an entry of the book: a list, three longer ones, the mark -/
structure Entry where
  l : Value
  a : Value
  b : Value
  c : Value
  m : Int
def Entry.cells (e : Entry) : List Value := [e.l, e.a, e.b, e.c, .int .u64 e.m]
def Entry.good (w : World) (e : Entry) : Prop := Full w e.l e.m ∧ Full w e.a e.m ∧ Full w e.b e.m ∧ Full w e.c e.m
def cellsOf (es : List Entry) : List Value := es.flatMap Entry.cells
theorem cellsOf_snoc (es : List Entry) (e : Entry) : cellsOf (es ++ [e]) = cellsOf es ++ e.cells := by simp [cellsOf]
theorem cellsOf_len (es : List Entry) : (cellsOf es).length = es.length * 5 := by
  induction es with
  | nil => rfl
  | cons e r ih => simp only [cellsOf, List.flatMap_cons, List.length_append] at *; rw [ih]; simp [Entry.cells]; omega
theorem cellsOf_get (es : List Entry) (i j : Nat) (hi : i < es.length) (hj : j < 5) : (cellsOf es)[i * 5 + j]? = (es[i]).cells[j]? := by
  induction es generalizing i with
  | nil => simp at hi
  | cons e r ih =>
    simp only [cellsOf, List.flatMap_cons]
    cases i with
    | zero => rw [List.getElem?_append_left (by simp [Entry.cells]; omega)]; simp
    | succ i =>
      rw [List.getElem?_append_right (by simp [Entry.cells]; omega)]
      have := ih i (by simpa using hi)
      rw [show (i + 1) * 5 + j - e.cells.length = i * 5 + j by simp [Entry.cells]; omega]
      exact this
theorem Entry.good_fr {T : Nat → Prop} {w w' : World} {e : Entry} (h : e.good w) (hf : Fr T w w') (hT : ∀ g cur, w.heap[g]? = some (.cells cur 50 (0, 0)) → ¬ T g) : e.good w' :=
  ⟨h.1.fr hf hT, h.2.1.fr hf hT, h.2.2.1.fr hf hT, h.2.2.2.fr hf hT⟩

theorem full_call {w : World} {v : Value} {m : Int} (h : Full w v m) : Calls Tryz.prog 91 #[v, .int .u64 m] w fun e w' => e = .returned (.bool true) ∧ w' = w := by
  obtain ⟨k, h⟩ := h
  obtain ⟨a, cap, rfl, hm, hr, _⟩ := own_row h
  rw [List.length_replicate] at hm ⊢
  exact full_true a k cap m w hm hr

theorem full_slice {w : World} {v : Value} {m : Int} (h : Full w v m) : ∃ a n c, v = .slice a n c := by
  obtain ⟨k, h⟩ := h
  obtain ⟨a, c, h⟩ := own_slice h
  exact ⟨a, _, c, h⟩
theorem full_alloc {w : World} {v : Value} {m : Int} (h : Full w v m) (o : Obj) : Full (w.alloc o) v m := h.fr ((Fr.refl New w).alloc o) (fun _ _ _ h => h)

set_option maxHeartbeats 1000000 in
set_option maxRecDepth 1000000 in
theorem looks_true (b n : Nat) (vws vhs vb : Value) (es : List Entry) (B : Nat) (w : World) (hbk : Wb w b vws vhs n vb (.slice none 0 0) (.slice none 0 0))
    (hown : w.ownsRow B 146 5 vb es.length (cellsOf es)) (hn : es.length ≤ 1073741824) (hg : ∀ e ∈ es, e.good w) :
    Calls Tryz.prog 43 #[.pointer (some ⟨b, 2, none⟩)] w fun e w' => e = .returned (.bool true) ∧ Fr New w w' := by
  obtain ⟨av, cv, hvb⟩ := own_slice hown
  subst hvb
  go_enter Tryz.func43, Tryz.ntmps43
  go_wp2
  go_loopw [3, 4] (fun t i wr => ∃ k : Nat, k ≤ es.length ∧ t = .bool true ∧ i = .int .i64 k ∧ Fr New w wr) (fun _ i _ => es.length - (intOf i).toNat)
  case atStart => exact ⟨0, Nat.zero_le _, rfl, rfl, Fr.refl _ _⟩
  case round =>
    obtain ⟨k, hk, rfl, rfl, hf⟩ := hrel
    obtain ⟨hcb, hzb⟩ := block_cells (hf.heap hbk id)
    by_cases hlt : k < es.length
    · have hr := hf.owns hown (fun _ _ h => h)
      obtain ⟨g, c, hv, _, hgl⟩ := hr.form (by omega)
      cases hv
      have hE : ∀ j, j < 5 → wr.cell? ⟨g, k * 5 + j, none⟩ = (es[k]).cells[j]? := fun j hj => (hr.cellAt (k * 5 + j) (by omega)).trans (cellsOf_get es k j hlt hj)
      have hgd := Entry.good_fr (hg es[k] (List.getElem_mem _)) hf (fun _ _ _ h => h)
      obtain ⟨e, he⟩ : ∃ e, e = es[k] := ⟨_, rfl⟩
      rw [← he] at hE hgd
      clear he
      have e0 := hE 0 (by omega)
      have e1 := hE 1 (by omega)
      have e2 := hE 2 (by omega)
      have e3 := hE 3 (by omega)
      have e4 := hE 4 (by omega)
      clear hE hr
      simp only [Entry.cells, List.getElem?_cons_zero, List.getElem?_cons_succ, Nat.add_zero] at e0 e1 e2 e3 e4
      obtain ⟨el, ea, eb, ec, em⟩ := e
      obtain ⟨h0, h1, h2, h3⟩ := hgd
      simp only at e0 e1 e2 e3 e4 h0 h1 h2 h3
      obtain ⟨a0, n0, c0, rfl⟩ := full_slice h0
      obtain ⟨a1, n1, c1, rfl⟩ := full_slice h1
      obtain ⟨a2, n2, c2, rfl⟩ := full_slice h2
      obtain ⟨a3, n3, c3, rfl⟩ := full_slice h3
      go_wp2_with (first
        | (go_at_call 91; refine calls_same (full_call (full_alloc h0 _)) ?_)
        | (go_at_call 91; refine calls_same (full_call (full_alloc h1 _)) ?_)
        | (go_at_call 91; refine calls_same (full_call (full_alloc h2 _)) ?_)
        | (go_at_call 91; refine calls_same (full_call (full_alloc h3 _)) ?_)
        | fail)
      go_roundw
      case rel => exact ⟨k + 1, by omega, rfl, by go_num, hf.alloc _⟩
      case measure => simp [intOf]; omega
    · go_wp2
      refine wp_loop_rounds 1 ?_
      rw [rounds_succ]
      go_wp2
      refine wp_loop_rounds 1 ?_
      rw [rounds_succ]
      go_wp2
      go_ret
      exact ⟨rfl, hf⟩
end Go.Proofs.YtbagcjlimdilpaaGreat
