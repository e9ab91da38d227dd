/- A frame for worlds: w' is w but for the blocks of T and new ones; and lists of words that own their row. -/
import Derived.Test.YtbagcjlimdilpaaGreatHhSumW
import Derived.Deep.Draws
import Derived.Deep.Heap
import Derived.Laws.OwnMore
namespace Go.Proofs.YtbagcjlimdilpaaGreat
open Go.RowKit

/-- w' is w but for the blocks of T, and new ones -/
structure Fr (T : Nat → Prop) (w w' : World) : Prop where
  os : w'.os = w.os
  tape : w'.tape = w.tape
  output : w'.output = w.output
  size : w.heap.size ≤ w'.heap.size
  block : ∀ k, k < w.heap.size → ¬ T k → w'.heap[k]? = w.heap[k]?

/-- nothing old is turned -/
abbrev New : Nat → Prop := fun _ => False

namespace Fr
theorem refl (T : Nat → Prop) (w : World) : Fr T w w := ⟨rfl, rfl, rfl, Nat.le_refl _, fun _ _ _ => rfl⟩
theorem trans {T T' : Nat → Prop} {a b c : World} (h : Fr T a b) (k : Fr T' b c) (hT : ∀ j, j < a.heap.size → T' j → T j) : Fr T a c :=
  ⟨k.os.trans h.os, k.tape.trans h.tape, k.output.trans h.output, Nat.le_trans h.size k.size, fun j hj hn => (k.block j (Nat.lt_of_lt_of_le hj h.size) (fun ht => hn (hT j hj ht))).trans (h.block j hj hn)⟩
theorem mono {T T' : Nat → Prop} {a b : World} (h : Fr T a b) (hT : ∀ j, j < a.heap.size → T j → T' j) : Fr T' a b :=
  ⟨h.os, h.tape, h.output, h.size, fun j hj hn => h.block j hj (fun ht => hn (hT j hj ht))⟩
theorem same {T : Nat → Prop} {a b c : World} (h : Fr T a b) (k : Fr New b c) : Fr T a c := h.trans k (fun _ _ hf => hf.elim)
theorem grown {T : Nat → Prop} {a w w' : World} {row : Option Nat} (h : Fr T a w) (hg : w.grownBy w' row) (hr : ∀ k, k < a.heap.size → row = some k → T k) : Fr T a w' :=
  ⟨hg.os.trans h.os, hg.tape.trans h.tape, hg.output.trans h.output, Nat.le_trans h.size hg.size, fun j hj hn => (hg.block j (Nat.lt_of_lt_of_le hj h.size) (fun ht => hn (hr j hj ht.symm))).trans (h.block j hj hn)⟩
theorem grownNew {T : Nat → Prop} {a w w' : World} (h : Fr T a w) (hg : w.grownBy w' none) : Fr T a w' := h.grown hg (fun _ _ hf => by cases hf)
theorem alloc {T : Nat → Prop} {a w : World} (h : Fr T a w) (o : Obj) : Fr T a (w.alloc o) := h.grownNew (World.grownBy_alloc w o none)
theorem drew {T : Nat → Prop} {a w : World} (h : Fr T a w) : Fr T a w.drew := ⟨h.os, h.tape, h.output, h.size, h.block⟩
theorem drewN {T : Nat → Prop} {a w : World} (h : Fr T a w) (n : Nat) : Fr T a (w.drewN n) := ⟨h.os, h.tape, h.output, h.size, h.block⟩
theorem setCell {T : Nat → Prop} {a w : World} (h : Fr T a w) {p : Addr} (hp : p.block < a.heap.size → T p.block) (u : Value) : Fr T a (w.setCell p u) :=
  ⟨h.os, h.tape, h.output, by rw [World.size_setCell]; exact h.size, fun j hj hn => (Go.Deep.blk_setCell_other w p u j (by rintro rfl; exact hn (hp hj))).trans (h.block j hj hn)⟩
theorem below {T : Nat → Prop} {B : Nat} {w w' : World} (h : Fr T w w') (hB : B ≤ w.heap.size) (hT : ∀ k, k < B → ¬ T k) : Below B w w' :=
  ⟨h.os, h.tape, h.output, h.size, fun k hk => h.block k (Nat.lt_of_lt_of_le hk hB) (hT k hk)⟩
theorem ofBelow {B : Nat} {w w' : World} (h : Below B w w') : Fr (fun k => B ≤ k) w w' :=
  ⟨h.os, h.tape, h.output, h.size, fun k _ hn => h.block k (by omega)⟩
theorem heap {T : Nat → Prop} {w w' : World} (h : Fr T w w') {k : Nat} {o : Obj} (hk : w.heap[k]? = some o) (hn : ¬ T k) : w'.heap[k]? = some o :=
  (h.block k (lt_of_block hk) hn).trans hk
theorem cell {T : Nat → Prop} {w w' : World} (h : Fr T w w') {a : Addr} {v : Value} (hc : w.cell? a = some v) (hn : ¬ T a.block) : w'.cell? a = some v :=
  (World.cell?_of_block (h.block a.block (World.block_lt_of_cell? w a hc) hn)).trans hc
theorem owns {T : Nat → Prop} {w w' : World} (h : Fr T w w') {base : Nat} {e : TypeId} {size : Nat} {v : Value} {n : Nat} {xs : List Value} (ho : w.ownsRow base e size v n xs)
    (hn : ∀ g, v.ownBlock = some g → ¬ T g) : w'.ownsRow base e size v n xs := by
  refine ⟨ho.1, ?_⟩
  rcases ho.2 with hl | ⟨g, cap, cur, rfl, hb, hg, r⟩
  · exact .inl hl
  · exact .inr ⟨g, cap, cur, rfl, hb, h.heap hg (hn g rfl), r⟩
end Fr

/-- the list v is the words zs, in a row of its own, at block base or behind it -/
abbrev Own (base : Nat) (w : World) (v : Value) (zs : List Int) : Prop := w.ownsRow base 50 1 v zs.length (zs.map (Value.int .u64))

theorem rowU_own {w : World} {B g n cap : Nat} {zs : List Int} (h : w.ownsRow B 50 1 (.slice (some ⟨g, 0, none⟩) n cap) n (zs.map (Value.int .u64))) : RowU w (some ⟨g, 0, none⟩) zs := by
  intro i hi
  refine ⟨_, rfl, h.cells rfl i _ ?_⟩
  simp [hi]
theorem rowU_nil (w : World) (a : Option Addr) : RowU w a [] := fun i hi => absurd hi (by simp)
theorem rowU_take {w : World} {a : Option Addr} {zs : List Int} (h : RowU w a zs) (n : Nat) : RowU w a (zs.take n) := by
  intro i hi
  have hi' : i < n ∧ i < zs.length := by simpa [Nat.lt_min] using hi
  obtain ⟨x, hx, hc⟩ := h i hi'.2
  refine ⟨x, hx, hc.trans ?_⟩
  rw [List.getD_eq_getElem?_getD, List.getD_eq_getElem?_getD, List.getElem?_take_of_lt hi'.1]
theorem rowU_fr {T : Nat → Prop} {w w' : World} (h : Fr T w w') {a : Option Addr} {zs : List Int} (hr : RowU w a zs) (hn : ∀ x, a = some x → ¬ T x.block) : RowU w' a zs := by
  intro i hi
  obtain ⟨x, hx, hc⟩ := hr i hi
  refine ⟨x, hx, h.cell hc ?_⟩
  rw [Go.ChangeShapes.block_add]
  exact hn x hx
/-- An owned list as it is handed on: a slice with a row. -/
theorem own_row {w : World} {B : Nat} {v : Value} {zs : List Int} (h : Own B w v zs) : ∃ a cap, v = .slice a zs.length cap ∧ zs.length ≤ maxLen ∧ RowU w a zs ∧ (a = none → cap = 0) := by
  rcases h.2 with ⟨rfl, hn⟩ | ⟨g, cap, cur, rfl, hb, hh, hnc, hcm, hcs, htk⟩
  · have : zs = [] := by simpa using hn
    subst this
    exact ⟨none, 0, rfl, by decide, rowU_nil _ _, fun _ => rfl⟩
  · exact ⟨_, cap, rfl, by omega, rowU_own h, fun h => by cases h⟩

theorem calls_same {P : Program} {f : FuncId} {args : Array Value} {w : World} {v : Value} {Q : Ending → World → Prop} (h : Calls P f args w fun e w' => e = .returned v ∧ w' = w) (hQ : Q (.returned v) w) : Calls P f args w Q :=
  h.mono (by rintro e w' ⟨rfl, rfl⟩; exact hQ)

end Go.Proofs.YtbagcjlimdilpaaGreat
