/- Texts that follow one another, joined. -/
import Derived.Test.YtbagcjlimdilpabGreatKtBookF
import Derived.Deep.RegionLaw
import Derived.Deep.DrawnRows
/- The walk of the book's call 'words'. -/
namespace Go.Proofs.YtbagcjlimdilpabGreat
open Go.RowKit
attribute [local go_sem ↓] Go.wp_at_zero Go.wp_at_succ

def part (zs : List Int) (m : Int) (k : Nat) : List Int := List.replicate k m ++ zs.drop k
theorem part_zero (zs : List Int) (m : Int) : part zs m 0 = zs := by simp [part]
theorem part_len (zs : List Int) (m : Int) (k : Nat) (h : k ≤ zs.length) : (part zs m k).length = zs.length := by simp [part]; omega
theorem part_all (zs : List Int) (m : Int) : part zs m zs.length = List.replicate zs.length m := by simp [part]
theorem part_set (zs : List Int) (m : Int) (k : Nat) (h : k < zs.length) : (part zs m k).set k m = part zs m (k + 1) := by
  unfold part
  rw [List.set_append_right _ _ (by simp)]
  simp only [List.length_replicate, Nat.sub_self]
  rw [List.drop_eq_getElem_cons h, List.set_cons_zero, List.replicate_succ' (n := k)]
  simp

theorem news_new (W : World) (xs : List Int) (N : Nat) (hN : N = W.heap.size) : ∀ j u, (xs.map (Value.int .u64))[j]? = some u → (W.alloc (.cells (xs.map (Value.int .u64)).toArray 41)).cell? ((⟨N, 0, none⟩ : Addr).add j) = some u := by
  intro j u hu
  rw [Addr.add_lit, Nat.zero_add, World.cell?_alloc_at _ _ _ _ hN]
  simpa using hu

end Go.Proofs.YtbagcjlimdilpabGreat

/- The walk of the law's 'image': one more image is kept, as a copy. -/
namespace Go.Proofs.YtbagcjlimdilpabGreat
open Go.RowKit
attribute [local go_sem ↓] Go.wp_at_zero Go.wp_at_succ

theorem Tryz.info27 : (Tryz.prog.info? 27).map (fun i => (i.zero, i.size, i.bytes)) = some (some (.slice none 0 0), 1, 24) := by kernel_rfl

/-- which old blocks 'image' turns -/
def TurnedI (b : Nat) (vws : Value) (k : Nat) : Prop := k = b ∨ vws.ownBlock = some k

theorem own_fr {T : Nat → Prop} {w w' : World} {B : Nat} {v : Value} {zs : List Int} (h : Own B w v zs) (hf : Fr T w w') (hT : ∀ g cur, w.heap[g]? = some (.cells cur 41 (0, 0)) → ¬ T g) : Own B w' v zs := by
  refine hf.owns h (fun g hg => ?_)
  rcases h.2 with ⟨rfl, _⟩ | ⟨g', cap, cur, rfl, _, hh, _⟩
  · cases hg
  · simp [Value.ownBlock] at hg; subst hg; exact hT _ cur hh
theorem own_base {w : World} {B : Nat} {v : Value} {zs : List Int} (h : Own B w v zs) : Own 0 w v zs := by
  refine ⟨h.1, ?_⟩
  rcases h.2 with h | ⟨g, cap, cur, rfl, _, r⟩
  · exact .inl h
  · exact .inr ⟨g, cap, cur, rfl, Nat.zero_le _, r⟩

/-- the copy is made, at a step of a region that draws its order -/
theorem step_copied {W : World} {ad : Addr} {cap : Nat} {zs : List Int} (hr : RowU W (some ad) zs) (hp : 0 < zs.length) (hz : zs.length ≤ 1048576)
    {ops : Array Oper} {o : Oper} {a : Act} {w3 : World} {K : Act → World → Prop} {Q : Exit → Act → World → Prop} {E : Prop} (s x : Operand) (hgd : o.guard = none)
    (ho : o.op = .call { callee := .builtin .append, args := #[s, x], argTypes := #[27, 27] }) (hs : a.eval s = .slice (some ⟨W.heap.size, 0, none⟩) 0 0) (hx : a.eval x = .slice (some ad) zs.length cap)
    (hf : Fr New W w3) (hb : w3.heap[W.heap.size]? = some (.cells #[] 41 (0, 0)))
    (h : ∀ g c w', Own 0 w' (.slice (some ⟨g, 0, none⟩) zs.length c) zs → Fr New W w' → K (a.put o.dst (.slice (some ⟨g, 0, none⟩) zs.length c)) w') :
    if Region.wanted o (yielded ops a.tmps) = true then Oper.wp Tryz.prog o a w3 K Q else E := by
  obtain ⟨i0, hi, hz0, hz1, hz2⟩ := info_parts Tryz.info41
  have hown : w3.ownsRow 0 41 1 (.slice (some ⟨W.heap.size, 0, none⟩) 0 0) 0 [] := ⟨by simp, .inr ⟨W.heap.size, 0, #[], rfl, Nat.zero_le _, hb, Nat.le_refl _, by decide, by simp, by simp⟩⟩
  obtain ⟨ad', had, hn⟩ := news_row (rowU_fr hf hr (fun _ _ h => h)) (by simpa using hp)
  cases had
  refine step_append_lies w3 hgd s x 27 ho 0 41 i0 _ 1 8 Tryz.underlying27 hi hz0 hz1 hz2 rfl (by decide) _ 0 [] hs hown ad zs.length cap (zs.map (Value.int .u64)) hx (by simp) hn (ints_oneU zs) hp (by unfold maxLen; omega) (by omega) (Nat.zero_le _) _ rfl ?_
  intro g c w4 ho4 hg4 _ _
  have := h g c w4 (by simpa using ho4) (hf.grown hg4 (fun k hk hv => by simp [Value.ownBlock] at hv; omega))
  simpa using this

theorem own_slice {w : World} {B : Nat} {e : TypeId} {size : Nat} {v : Value} {n : Nat} {xs : List Value} (h : w.ownsRow B e size v n xs) : ∃ a c, v = .slice a n c := by
  rcases h.2 with ⟨rfl, rfl⟩ | ⟨g, cap, cur, rfl, _⟩
  · exact ⟨_, _, rfl⟩
  · exact ⟨_, _, rfl⟩

end Go.Proofs.YtbagcjlimdilpabGreat

/- The walk of the book's 'looks': where every list that came out is full of its mark, it says so. -/
namespace Go.Proofs.YtbagcjlimdilpabGreat
open Go.RowKit

/-- an entry of the book: a list, three longer ones, the mark -/
structure Entry where
  l : Value
  a : Value
  b : Value
  c : Value
  m : Int
def Entry.cells (e : Entry) : List Value := [e.l, e.a, e.b, e.c, .int .u64 e.m]
def Entry.good (w : World) (e : Entry) : Prop := Full w e.l e.m ∧ Full w e.a e.m ∧ Full w e.b e.m ∧ Full w e.c e.m
def cellsOf (es : List Entry) : List Value := es.flatMap Entry.cells
theorem cellsOf_snoc (es : List Entry) (e : Entry) : cellsOf (es ++ [e]) = cellsOf es ++ e.cells := by simp [cellsOf]
theorem cellsOf_len (es : List Entry) : (cellsOf es).length = es.length * 5 := by
  induction es with
  | nil => rfl
  | cons e r ih => simp only [cellsOf, List.flatMap_cons, List.length_append] at *; rw [ih]; simp [Entry.cells]; omega
theorem cellsOf_get (es : List Entry) (i j : Nat) (hi : i < es.length) (hj : j < 5) : (cellsOf es)[i * 5 + j]? = (es[i]).cells[j]? := by
  induction es generalizing i with
  | nil => simp at hi
  | cons e r ih =>
    simp only [cellsOf, List.flatMap_cons]
    cases i with
    | zero => rw [List.getElem?_append_left (by simp [Entry.cells]; omega)]; simp
    | succ i =>
      rw [List.getElem?_append_right (by simp [Entry.cells]; omega)]
      have := ih i (by simpa using hi)
      rw [show (i + 1) * 5 + j - e.cells.length = i * 5 + j by simp [Entry.cells]; omega]
      exact this
theorem Entry.good_fr {T : Nat → Prop} {w w' : World} {e : Entry} (h : e.good w) (hf : Fr T w w') (hT : ∀ g cur, w.heap[g]? = some (.cells cur 41 (0, 0)) → ¬ T g) : e.good w' :=
  ⟨h.1.fr hf hT, h.2.1.fr hf hT, h.2.2.1.fr hf hT, h.2.2.2.fr hf hT⟩

theorem full_slice {w : World} {v : Value} {m : Int} (h : Full w v m) : ∃ a n c, v = .slice a n c := by
  obtain ⟨k, h⟩ := h
  obtain ⟨a, c, h⟩ := own_slice h
  exact ⟨a, _, c, h⟩
theorem full_alloc {w : World} {v : Value} {m : Int} (h : Full w v m) (o : Obj) : Full (w.alloc o) v m := h.fr ((Fr.refl New w).alloc o) (fun _ _ _ h => h)

end Go.Proofs.YtbagcjlimdilpabGreat

/- The state of the law's play where no heap is open: what a step keeps, apart from the walks. -/
namespace Go.Proofs.YtbagcjlimdilpabGreat
open Go.RowKit

/-- which old blocks a step turns -/
def T0 (b : Nat) (vws vb : Value) (k : Nat) : Prop := k = b ∨ vws.ownBlock = some k ∨ vb.ownBlock = some k

section
variable {B b c : Nat} {vws : Value} {nw : Nat} {xs : List Value} {vb : Value} {es : List Entry} {w : World}

theorem type_ne {w : World} {g g' : Nat} {c c' : Array Value} {t t' : TypeId} (h : w.heap[g]? = some (.cells c t (0, 0))) (h' : w.heap[g']? = some (.cells c' t' (0, 0))) (ht : t ≠ t') : g ≠ g' := by
  rintro rfl
  rw [h] at h'
  simp only [Option.some.injEq, Obj.cells.injEq] at h'
  exact ht h'.2.1
theorem own_block {w : World} {B : Nat} {e : TypeId} {size : Nat} {v : Value} {n : Nat} {ys : List Value} (h : w.ownsRow B e size v n ys) {g : Nat} (hg : v.ownBlock = some g) : B ≤ g ∧ ∃ cur, w.heap[g]? = some (.cells cur e (0, 0)) := by
  rcases h.2 with ⟨rfl, _⟩ | ⟨g', cap, cur, rfl, hb, hh, _⟩
  · cases hg
  · simp [Value.ownBlock] at hg; subst hg; exact ⟨hb, cur, hh⟩

theorem Parts.imageFr {w5 w6 : World} (h5 : Fr (T0 b vws vb) w w5) (h6 : Fr (TurnedI b vws) w5 w6) : Fr (T0 b vws vb) w w6 :=
  h5.trans h6 (fun j _ ht => by rcases ht with h | h; exact .inl h; exact .inr (.inl h))
end

end Go.Proofs.YtbagcjlimdilpabGreat

