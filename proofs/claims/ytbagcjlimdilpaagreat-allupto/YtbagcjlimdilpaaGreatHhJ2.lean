/- Texts that follow one another, joined. -/
import Derived.Test.YtbagcjlimdilpaaGreatHhBookF
import Derived.Deep.RegionLaw
import Derived.Deep.DrawnRows
/- The walk of the book's call 'words'. -/
namespace Go.Proofs.YtbagcjlimdilpaaGreat
open Go.RowKit
attribute [local go_sem ↓] Go.wp_at_zero Go.wp_at_succ

theorem Tryz.info146 : (Tryz.prog.info? 146).map (fun i => (i.zero, i.size, i.bytes)) = some (some (.agg #[.slice none 0 0, .slice none 0 0, .slice none 0 0, .slice none 0 0, .int .u64 0]), 5, 104) := by kernel_rfl

def part (zs : List Int) (m : Int) (k : Nat) : List Int := List.replicate k m ++ zs.drop k
theorem part_zero (zs : List Int) (m : Int) : part zs m 0 = zs := by simp [part]
theorem part_len (zs : List Int) (m : Int) (k : Nat) (h : k ≤ zs.length) : (part zs m k).length = zs.length := by simp [part]; omega
theorem part_all (zs : List Int) (m : Int) : part zs m zs.length = List.replicate zs.length m := by simp [part]
theorem part_set (zs : List Int) (m : Int) (k : Nat) (h : k < zs.length) : (part zs m k).set k m = part zs m (k + 1) := by
  unfold part
  rw [List.set_append_right _ _ (by simp)]
  simp only [List.length_replicate, Nat.sub_self]
  rw [List.drop_eq_getElem_cons h, List.set_cons_zero, List.replicate_succ' (n := k)]
  simp

/-- what 'words' keeps while it writes the list full -/
structure Writing (w : World) (b n : Nat) (vws vhs vb vss vos : Value) (ao : Option Addr) (zs : List Int) (B nb : Nat) (cells : List Value) (wr : World) : Prop where
  bk : Wb wr b vws vhs n vb vss vos
  l : LR wr ao zs
  own : wr.ownsRow B 146 5 vb nb cells
  fr : Fr (Turned b ao vb) w wr

theorem Writing.count {w : World} {b n : Nat} {vws vhs vb vss vos : Value} {ao : Option Addr} {zs : List Int} {B nb : Nat} {cells : List Value} {wr : World} (h : Writing w b n vws vhs vb vss vos ao zs B nb cells wr) (k : Nat) :
    Writing w b k vws vhs vb vss vos ao zs B nb cells (wr.setCell ⟨b, 2, none⟩ (.int .i64 k)) := by
  have hf : Fr (fun k => k = b) wr (wr.setCell ⟨b, 2, none⟩ (.int .i64 k)) := (Fr.refl (fun k => k = b) wr).setCell (p := ⟨b, 2, none⟩) (fun _ => rfl) _
  have hX : ∀ g cur t, t ≠ 88 → wr.heap[g]? = some (.cells cur t (0, 0)) → ¬ g = b := by
    rintro g cur t ht hg rfl
    rw [h.bk] at hg
    simp only [Option.some.injEq, Obj.cells.injEq] at hg
    exact ht hg.2.1.symm
  refine ⟨(heap_setCell_same wr b 2 _ _ _ h.bk).trans (by simp), h.l.fr hf ?_, hf.owns h.own ?_, h.fr.setCell (fun _ => .inl rfl) _⟩
  · rintro g rfl
    rcases h.l with ⟨h', _⟩ | ⟨g', hg', hr⟩
    · cases h'
    · cases hg'; exact hX _ _ _ (by decide) hr
  · intro g hg
    rcases h.own.2 with ⟨rfl, _⟩ | ⟨g', cap, cur, rfl, _, hh, _⟩
    · cases hg
    · simp [Value.ownBlock] at hg; subst hg; exact hX _ _ _ (by decide) hh
theorem Writing.put {w : World} {b n : Nat} {vws vhs vb vss vos : Value} {g : Nat} {zs : List Int} {B nb : Nat} {cells : List Value} {wr : World} (h : Writing w b n vws vhs vb vss vos (some ⟨g, 0, none⟩) zs B nb cells wr) (k : Nat) (m : Int) :
    Writing w b n vws vhs vb vss vos (some ⟨g, 0, none⟩) (zs.set k m) B nb cells (wr.setCell ⟨g, k, none⟩ (.int .u64 m)) := by
  have hf : Fr (fun k => k = g) wr (wr.setCell ⟨g, k, none⟩ (.int .u64 m)) := (Fr.refl (fun k => k = g) wr).setCell (p := ⟨g, k, none⟩) (fun _ => rfl) _
  have hr : Row wr g zs := by
    rcases h.l with ⟨h', _⟩ | ⟨g', hg', hr⟩
    · cases h'
    · cases hg'; exact hr
  have hX : ∀ g' cur t, t ≠ 50 → wr.heap[g']? = some (.cells cur t (0, 0)) → ¬ g' = g := by
    rintro g' cur t ht hg rfl
    rw [show wr.heap[g']? = _ from hr] at hg
    simp only [Option.some.injEq, Obj.cells.injEq] at hg
    exact ht hg.2.1.symm
  refine ⟨hf.heap h.bk (hX _ _ _ (by decide) h.bk), .inr ⟨g, rfl, hr.set k m⟩, hf.owns h.own ?_, h.fr.setCell (fun _ => .inr (.inl rfl)) _⟩
  intro g' hg
  rcases h.own.2 with ⟨rfl, _⟩ | ⟨g'', cap, cur, rfl, _, hh, _⟩
  · cases hg
  · simp [Value.ownBlock] at hg; subst hg; exact hX _ _ _ (by decide) hh
/-- behind the last append -/
structure Late (w : World) (b n : Nat) (vws vhs vb vss vos : Value) (ao : Option Addr) (m : Int) (fs : List Value) (w4 : World) : Prop where
  bk : Wb w4 b vws vhs n vb vss vos
  full : ∀ v ∈ fs, Full w4 v m
  fr : Fr (Turned b ao vb) w w4
theorem news_new (W : World) (xs : List Int) (N : Nat) (hN : N = W.heap.size) : ∀ j u, (xs.map (Value.int .u64))[j]? = some u → (W.alloc (.cells (xs.map (Value.int .u64)).toArray 50)).cell? ((⟨N, 0, none⟩ : Addr).add j) = some u := by
  intro j u hu
  rw [Addr.add_lit, Nat.zero_add, World.cell?_alloc_at _ _ _ _ hN]
  simpa using hu

end Go.Proofs.YtbagcjlimdilpaaGreat
/- The walk of the law's 'image': one more image is kept, as a copy. -/
namespace Go.Proofs.YtbagcjlimdilpaaGreat
open Go.RowKit
attribute [local go_sem ↓] Go.wp_at_zero Go.wp_at_succ

theorem Tryz.info43 : (Tryz.prog.info? 43).map (fun i => (i.zero, i.size, i.bytes)) = some (some (.slice none 0 0), 1, 24) := by kernel_rfl

/-- which old blocks 'image' turns -/
def TurnedI (b : Nat) (vws : Value) (k : Nat) : Prop := k = b ∨ vws.ownBlock = some k

theorem own_fr {T : Nat → Prop} {w w' : World} {B : Nat} {v : Value} {zs : List Int} (h : Own B w v zs) (hf : Fr T w w') (hT : ∀ g cur, w.heap[g]? = some (.cells cur 50 (0, 0)) → ¬ T g) : Own B w' v zs := by
  refine hf.owns h (fun g hg => ?_)
  rcases h.2 with ⟨rfl, _⟩ | ⟨g', cap, cur, rfl, _, hh, _⟩
  · cases hg
  · simp [Value.ownBlock] at hg; subst hg; exact hT _ cur hh
theorem own_base {w : World} {B : Nat} {v : Value} {zs : List Int} (h : Own B w v zs) : Own 0 w v zs := by
  refine ⟨h.1, ?_⟩
  rcases h.2 with h | ⟨g, cap, cur, rfl, _, r⟩
  · exact .inl h
  · exact .inr ⟨g, cap, cur, rfl, Nat.zero_le _, r⟩

/-- behind the append to the images -/
structure LateI (W : World) (b n : Nat) (vws vhs vb vss vos : Value) (v : Value) (zs : List Int) (w6 : World) : Prop where
  bk : Wb w6 b vws vhs n vb vss vos
  own : Own 0 w6 v zs
  fr : Fr (TurnedI b vws) W w6

theorem step_image {W : World} {b n : Nat} {vws vhs vb vss vos : Value} {B nw : Nat} {xs : List Value} (hbk : Wb W b vws vhs n vb vss vos) (hws : W.ownsRow B 43 1 vws nw xs) (hB : B ≤ W.heap.size) (hnw : nw < 12)
    {v : Value} {zs : List Int} {w5 : World} (hf : Fr New W w5) (hv : Own 0 w5 v zs) (h1c : v.oneCell' = true) (N : Nat) (hb : w5.heap[N]? = some (.cells #[v] 43 (0, 0)))
    {ops : Array Oper} {o : Oper} {a : Act} {K : Act → World → Prop} {Q : Exit → Act → World → Prop} {E : Prop} (s x : Operand) (hgd : o.guard = none)
    (ho : o.op = .call { callee := .builtin .append, args := #[s, x], argTypes := #[80, 80] }) (hs : a.eval s = vws) (hx : a.eval x = .slice (some ⟨N, 0, none⟩) 1 1)
    (h : ∀ g c w', w'.ownsRow B 43 1 (.slice (some ⟨g, 0, none⟩) (nw + 1) c) (nw + 1) (xs ++ [v]) → LateI W b n vws vhs vb vss vos v zs w' → K (a.put o.dst (.slice (some ⟨g, 0, none⟩) (nw + 1) c)) w') :
    if Region.wanted o (yielded ops a.tmps) = true then Oper.wp Tryz.prog o a w5 K Q else E := by
  obtain ⟨i0, hi, hz0, hz1, hz2⟩ := info_parts Tryz.info43
  have hown := hf.owns hws (fun _ _ h => h)
  refine step_append_lies w5 hgd s x 80 ho B 43 i0 _ 1 24 Tryz.underlying80 hi hz0 hz1 hz2 rfl (by decide) vws nw xs hs hown ⟨N, 0, none⟩ 1 1 [v] hx rfl (World.news_of_block hb) (by simpa using h1c) (by decide) (by unfold maxLen; omega) (by omega) (by have := hf.size; omega) _ rfl ?_
  intro g c w6 ho6 hg6 _ _
  have hf6 : Fr (fun k => vws.ownBlock = some k) w5 w6 := (Fr.refl _ _).grown hg6 (fun k _ hk => hk)
  have hX : ∀ g cur t, t ≠ 43 → w5.heap[g]? = some (.cells cur t (0, 0)) → ¬ vws.ownBlock = some g := by
    intro g cur t ht hg hv
    rcases hown.2 with ⟨rfl, _⟩ | ⟨g', cap, cur', rfl, _, hh, _⟩
    · cases hv
    · simp [Value.ownBlock] at hv; subst hv
      rw [hh] at hg
      simp only [Option.some.injEq, Obj.cells.injEq] at hg
      exact ht hg.2.1.symm
  exact h g c w6 ho6 ⟨hf6.heap (hf.heap hbk id) (hX _ _ _ (by decide) (hf.heap hbk id)), own_fr hv hf6 (fun g cur hg => hX g cur _ (by decide) hg), ((Fr.refl _ _).same hf).trans hf6 (fun j _ hj => .inr hj)⟩

theorem LateI.last {W : World} {b n : Nat} {vws vhs vb vss vos v : Value} {zs : List Int} {w6 : World} (h : LateI W b n vws vhs vb vss vos v zs w6) {B nw : Nat} {vws' : Value} {xs : List Value} (ho : w6.ownsRow B 43 1 vws' nw xs) :
    Wb (w6.setCell ⟨b, 0, none⟩ vws') b vws' vhs n vb vss vos ∧ (w6.setCell ⟨b, 0, none⟩ vws').ownsRow B 43 1 vws' nw xs ∧ Own 0 (w6.setCell ⟨b, 0, none⟩ vws') v zs ∧ Fr (TurnedI b vws) W (w6.setCell ⟨b, 0, none⟩ vws') := by
  have hf : Fr (fun k => k = b) w6 (w6.setCell ⟨b, 0, none⟩ vws') := (Fr.refl (fun k => k = b) w6).setCell (p := ⟨b, 0, none⟩) (fun _ => rfl) _
  have hX : ∀ g cur t, t ≠ 88 → w6.heap[g]? = some (.cells cur t (0, 0)) → ¬ g = b := by
    rintro g cur t ht hg rfl
    rw [h.bk] at hg
    simp only [Option.some.injEq, Obj.cells.injEq] at hg
    exact ht hg.2.1.symm
  refine ⟨(heap_setCell_same w6 b 0 _ _ _ h.bk).trans (by simp), hf.owns ho ?_, own_fr h.own hf (fun g cur hg => hX g cur _ (by decide) hg), h.fr.setCell (fun _ => .inl rfl) _⟩
  intro g hg
  rcases ho.2 with ⟨rfl, _⟩ | ⟨g', cap, cur, rfl, _, hh, _⟩
  · cases hg
  · simp [Value.ownBlock] at hg; subst hg; exact hX _ _ _ (by decide) hh

theorem own_slice {w : World} {B : Nat} {e : TypeId} {size : Nat} {v : Value} {n : Nat} {xs : List Value} (h : w.ownsRow B e size v n xs) : ∃ a c, v = .slice a n c := by
  rcases h.2 with ⟨rfl, rfl⟩ | ⟨g, cap, cur, rfl, _⟩
  · exact ⟨_, _, rfl⟩
  · exact ⟨_, _, rfl⟩

end Go.Proofs.YtbagcjlimdilpaaGreat
/- The walk of the book's 'looks': where every list that came out is full of its mark, it says so. -/
namespace Go.Proofs.YtbagcjlimdilpaaGreat
open Go.RowKit

/-- an entry of the book: a list, three longer ones, the mark -/
structure Entry where
  l : Value
  a : Value
  b : Value
  c : Value
  m : Int
def Entry.cells (e : Entry) : List Value := [e.l, e.a, e.b, e.c, .int .u64 e.m]
def Entry.good (w : World) (e : Entry) : Prop := Full w e.l e.m ∧ Full w e.a e.m ∧ Full w e.b e.m ∧ Full w e.c e.m
def cellsOf (es : List Entry) : List Value := es.flatMap Entry.cells
theorem cellsOf_snoc (es : List Entry) (e : Entry) : cellsOf (es ++ [e]) = cellsOf es ++ e.cells := by simp [cellsOf]
theorem cellsOf_get (es : List Entry) (i j : Nat) (hi : i < es.length) (hj : j < 5) : (cellsOf es)[i * 5 + j]? = (es[i]).cells[j]? := by
  induction es generalizing i with
  | nil => simp at hi
  | cons e r ih =>
    simp only [cellsOf, List.flatMap_cons]
    cases i with
    | zero => rw [List.getElem?_append_left (by simp [Entry.cells]; omega)]; simp
    | succ i =>
      rw [List.getElem?_append_right (by simp [Entry.cells]; omega)]
      have := ih i (by simpa using hi)
      rw [show (i + 1) * 5 + j - e.cells.length = i * 5 + j by simp [Entry.cells]; omega]
      exact this
theorem Entry.good_fr {T : Nat → Prop} {w w' : World} {e : Entry} (h : e.good w) (hf : Fr T w w') (hT : ∀ g cur, w.heap[g]? = some (.cells cur 50 (0, 0)) → ¬ T g) : e.good w' :=
  ⟨h.1.fr hf hT, h.2.1.fr hf hT, h.2.2.1.fr hf hT, h.2.2.2.fr hf hT⟩

theorem full_call {w : World} {v : Value} {m : Int} (h : Full w v m) : Calls Tryz.prog 91 #[v, .int .u64 m] w fun e w' => e = .returned (.bool true) ∧ w' = w := by
  obtain ⟨k, h⟩ := h
  obtain ⟨a, cap, rfl, hm, hr, _⟩ := own_row h
  rw [List.length_replicate] at hm ⊢
  exact full_true a k cap m w hm hr

theorem full_slice {w : World} {v : Value} {m : Int} (h : Full w v m) : ∃ a n c, v = .slice a n c := by
  obtain ⟨k, h⟩ := h
  obtain ⟨a, c, h⟩ := own_slice h
  exact ⟨a, _, c, h⟩
theorem full_alloc {w : World} {v : Value} {m : Int} (h : Full w v m) (o : Obj) : Full (w.alloc o) v m := h.fr ((Fr.refl New w).alloc o) (fun _ _ _ h => h)

end Go.Proofs.YtbagcjlimdilpaaGreat
/- The state of the law's play where no heap is open: what a step keeps, apart from the walks. -/
namespace Go.Proofs.YtbagcjlimdilpaaGreat
open Go.RowKit

/-- the World at block b, its images, its book -/
structure Parts (B b c : Nat) (vws : Value) (nw : Nat) (xs : List Value) (vb : Value) (es : List Entry) (w : World) : Prop where
  bk : Wb w b vws (.slice none 0 0) c vb (.slice none 0 0) (.slice none 0 0)
  ws : w.ownsRow B 43 1 vws nw xs
  own : w.ownsRow B 146 5 vb es.length (cellsOf es)
  good : ∀ e ∈ es, e.good w
  few : nw ≤ 12
  les : es.length ≤ c
  base : B ≤ b

/-- which old blocks a step turns -/
def T0 (b : Nat) (vws vb : Value) (k : Nat) : Prop := k = b ∨ vws.ownBlock = some k ∨ vb.ownBlock = some k

section
variable {B b c : Nat} {vws : Value} {nw : Nat} {xs : List Value} {vb : Value} {es : List Entry} {w : World}

theorem type_ne {w : World} {g g' : Nat} {c c' : Array Value} {t t' : TypeId} (h : w.heap[g]? = some (.cells c t (0, 0))) (h' : w.heap[g']? = some (.cells c' t' (0, 0))) (ht : t ≠ t') : g ≠ g' := by
  rintro rfl
  rw [h] at h'
  simp only [Option.some.injEq, Obj.cells.injEq] at h'
  exact ht h'.2.1
theorem own_block {w : World} {B : Nat} {e : TypeId} {size : Nat} {v : Value} {n : Nat} {ys : List Value} (h : w.ownsRow B e size v n ys) {g : Nat} (hg : v.ownBlock = some g) : B ≤ g ∧ ∃ cur, w.heap[g]? = some (.cells cur e (0, 0)) := by
  rcases h.2 with ⟨rfl, _⟩ | ⟨g', cap, cur, rfl, hb, hh, _⟩
  · cases hg
  · simp [Value.ownBlock] at hg; subst hg; exact ⟨hb, cur, hh⟩

theorem Parts.imageFr {w5 w6 : World} (h5 : Fr (T0 b vws vb) w w5) (h6 : Fr (TurnedI b vws) w5 w6) : Fr (T0 b vws vb) w w6 :=
  h5.trans h6 (fun j _ ht => by rcases ht with h | h; exact .inl h; exact .inr (.inl h))
end

/-- the state, whatever it holds -/
def Inv (B b c : Nat) (w : World) : Prop := ∃ vws nw xs vb es, Parts B b c vws nw xs vb es w

end Go.Proofs.YtbagcjlimdilpaaGreat
/- The book's call 'words' once more: where the longer lists lie. -/
namespace Go.Proofs.YtbagcjlimdilpaaGreat
open Go.RowKit
attribute [local go_sem ↓] Go.wp_at_zero Go.wp_at_succ

/-- midway: the new entry lies at X -/
structure MidK (w : World) (b X n : Nat) (vws vhs vb vss vos : Value) (ao : Option Addr) (len : Nat) (m : Int) (B nb : Nat) (cells : List Value) (xs : Array Value) (fs : List Value) (wX : World) : Prop where
  x : wX.heap[X]? = some (.cells xs 146 (0, 0))
  bk : Wb wX b vws vhs n vb vss vos
  l : LR wX ao (List.replicate len m)
  own : wX.ownsRow B 146 5 vb nb cells
  fr : Fr (Turned b ao vb) w wX
  old : w.heap.size ≤ X
  lb : b < w.heap.size
  lv : ∀ g, vb.ownBlock = some g → g < w.heap.size
  full : ∀ v ∈ fs, Full wX v m
  nw : ∀ v ∈ fs, ∀ k, v.ownBlock = some k → w.heap.size ≤ k ∨ ao = some ⟨k, 0, none⟩

namespace MidK
variable {w : World} {b X n : Nat} {vws vhs vb vss vos : Value} {ao : Option Addr} {len : Nat} {m : Int} {B nb : Nat} {cells : List Value} {xs : Array Value} {fs : List Value} {wX : World}
theorem grow (h : MidK w b X n vws vhs vb vss vos ao len m B nb cells xs fs wX) {w' : World} (hf : Fr New wX w') : MidK w b X n vws vhs vb vss vos ao len m B nb cells xs fs w' :=
  ⟨hf.heap h.x id, hf.heap h.bk id, h.l.fr hf (fun _ _ h => h), hf.owns h.own (fun _ _ h => h), h.fr.same hf, h.old, h.lb, h.lv, fun v hv => (h.full v hv).fr hf (fun _ _ _ h => h), h.nw⟩
theorem put (h : MidK w b X n vws vhs vb vss vos ao len m B nb cells xs fs wX) (i : Nat) (u : Value) : MidK w b X n vws vhs vb vss vos ao len m B nb cells (xs.setIfInBounds i u) fs (wX.setCell ⟨X, i, none⟩ u) := by
  have hf : Fr (fun k => k = X) wX (wX.setCell ⟨X, i, none⟩ u) := (Fr.refl (fun k => k = X) wX).setCell (p := ⟨X, i, none⟩) (fun _ => rfl) u
  have hX : ∀ g cur t, t ≠ 146 → wX.heap[g]? = some (.cells cur t (0, 0)) → ¬ g = X := by
    rintro g cur t ht hg rfl
    rw [h.x] at hg
    simp only [Option.some.injEq, Obj.cells.injEq] at hg
    exact ht hg.2.1.symm
  refine ⟨heap_setCell_same wX X i xs _ u h.x, hf.heap h.bk (hX _ _ _ (by decide) h.bk), h.l.fr hf ?_, hf.owns h.own ?_, h.fr.setCell (fun hlt => absurd hlt (by have := h.old; simp; omega)) u, h.old, h.lb, h.lv, fun v hv => (h.full v hv).fr hf (fun g cur hg => hX g cur _ (by decide) hg), h.nw⟩
  · rintro g rfl
    rcases h.l with ⟨h', _⟩ | ⟨g', hg', hr⟩
    · cases h'
    · cases hg'; exact hX _ _ _ (by decide) hr
  · intro g hg
    have := h.lv g hg
    have := h.old
    omega
theorem add (h : MidK w b X n vws vhs vb vss vos ao len m B nb cells xs fs wX) {v : Value} (hv : Full wX v m) (hn : ∀ k, v.ownBlock = some k → w.heap.size ≤ k) : MidK w b X n vws vhs vb vss vos ao len m B nb cells xs (v :: fs) wX :=
  ⟨h.x, h.bk, h.l, h.own, h.fr, h.old, h.lb, h.lv, fun u hu => by rcases List.mem_cons.1 hu with rfl | hu; exact hv; exact h.full u hu, fun u hu k hk => by rcases List.mem_cons.1 hu with rfl | hu; exact .inl (hn k hk); exact h.nw u hu k hk⟩
end MidK

/-- the new entry is laid behind -/
theorem Writing.midK {w : World} {b n : Nat} {vws vhs vb vss vos : Value} {ao : Option Addr} {len : Nat} {m : Int} {B nb : Nat} {cells : List Value} {wr : World} (h : Writing w b n vws vhs vb vss vos ao (List.replicate len m) B nb cells wr)
    (hb : b < w.heap.size) (hv : ∀ g, vb.ownBlock = some g → g < w.heap.size) (hm : len ≤ maxLen) (xs : Array Value) :
    MidK w b wr.heap.size n vws vhs vb vss vos ao len m B nb cells xs [.slice ao len len] (wr.alloc (.cells xs 146)) := by
  have hf : Fr New wr (wr.alloc (.cells xs 146)) := (Fr.refl _ _).alloc _
  refine ⟨Go.Deep.blk_alloc_new wr _, hf.heap h.bk id, h.l.fr hf (fun _ _ h => h), hf.owns h.own (fun _ _ h => h), h.fr.same hf, h.fr.size, hb, hv, ?_, ?_⟩
  · intro v hv
    obtain rfl : v = .slice ao len len := by simpa using hv
    refine ⟨len, ?_⟩
    have := (h.l.fr hf (fun _ _ h => h)).own (by simpa using hm)
    simpa using this
  · intro v hv k hk
    obtain rfl : v = .slice ao len len := by simpa using hv
    rcases h.l with ⟨rfl, _⟩ | ⟨g, rfl, _⟩
    · cases hk
    · simp [Value.ownBlock] at hk; subst hk; exact .inr rfl

/-- behind the last append -/
structure LateK (w : World) (b n : Nat) (vws vhs vb vss vos : Value) (ao : Option Addr) (m : Int) (fs : List Value) (w4 : World) : Prop where
  bk : Wb w4 b vws vhs n vb vss vos
  full : ∀ v ∈ fs, Full w4 v m
  fr : Fr (Turned b ao vb) w w4
  nw : ∀ v ∈ fs, ∀ k, v.ownBlock = some k → w.heap.size ≤ k ∨ ao = some ⟨k, 0, none⟩
theorem MidK.app {w : World} {b X n : Nat} {vws vhs vb vss vos : Value} {ao : Option Addr} {len : Nat} {m : Int} {B nb : Nat} {cells : List Value} {xs : Array Value} {fs : List Value} {wX : World}
    (h : MidK w b X n vws vhs vb vss vos ao len m B nb cells xs fs wX) {w3 w4 : World} (hf : Fr New wX w3) (hg : w3.grownBy w4 vb.ownBlock) : LateK w b n vws vhs vb vss vos ao m fs w4 := by
  have h3 := h.grow hf
  have hf4 : Fr (fun k => vb.ownBlock = some k) w3 w4 := (Fr.refl _ _).grown hg (fun k _ hk => hk)
  have hX : ∀ g cur t, t ≠ 146 → w3.heap[g]? = some (.cells cur t (0, 0)) → ¬ vb.ownBlock = some g := by
    intro g cur t ht hg hv
    rcases h3.own.2 with ⟨rfl, _⟩ | ⟨g', cap, cur', rfl, _, hh, _⟩
    · cases hv
    · simp [Value.ownBlock] at hv; subst hv
      rw [hh] at hg
      simp only [Option.some.injEq, Obj.cells.injEq] at hg
      exact ht hg.2.1.symm
  exact ⟨hf4.heap h3.bk (hX _ _ _ (by decide) h3.bk), fun v hv => (h3.full v hv).fr hf4 (fun g cur hg => hX g cur _ (by decide) hg), h3.fr.trans hf4 (fun j _ hj => .inr (.inr hj)), h3.nw⟩
theorem LateK.last {w : World} {b n : Nat} {vws vhs vb vss vos : Value} {ao : Option Addr} {m : Int} {fs : List Value} {w4 : World} (h : LateK w b n vws vhs vb vss vos ao m fs w4) {B nb : Nat} {vb' : Value} {cells : List Value}
    (ho : w4.ownsRow B 146 5 vb' nb cells) :
    Wb (w4.setCell ⟨b, 3, none⟩ vb') b vws vhs n vb' vss vos ∧ (w4.setCell ⟨b, 3, none⟩ vb').ownsRow B 146 5 vb' nb cells ∧ (∀ v ∈ fs, Full (w4.setCell ⟨b, 3, none⟩ vb') v m) ∧ Fr (Turned b ao vb) w (w4.setCell ⟨b, 3, none⟩ vb') := by
  have hf : Fr (fun k => k = b) w4 (w4.setCell ⟨b, 3, none⟩ vb') := (Fr.refl (fun k => k = b) w4).setCell (p := ⟨b, 3, none⟩) (fun _ => rfl) _
  have hX : ∀ g cur t, t ≠ 88 → w4.heap[g]? = some (.cells cur t (0, 0)) → ¬ g = b := by
    rintro g cur t ht hg rfl
    rw [h.bk] at hg
    simp only [Option.some.injEq, Obj.cells.injEq] at hg
    exact ht hg.2.1.symm
  refine ⟨(heap_setCell_same w4 b 3 _ _ _ h.bk).trans (by simp), hf.owns ho ?_, fun v hv => (h.full v hv).fr hf (fun g cur hg => hX g cur _ (by decide) hg), h.fr.setCell (fun _ => .inl rfl) _⟩
  intro g hg
  rcases ho.2 with ⟨rfl, _⟩ | ⟨g', cap, cur, rfl, _, hh, _⟩
  · cases hg
  · simp [Value.ownBlock] at hg; subst hg; exact hX _ _ _ (by decide) hh

/-- the entry is appended, at a step of a region that draws its order -/
theorem step_wordsK {w : World} {b X n : Nat} {vws vhs vb vss vos : Value} {ao : Option Addr} {len : Nat} {m : Int} {B nb : Nat} {cells : List Value} {xs : Array Value} {fs : List Value} {W : World}
    (M : MidK w b X n vws vhs vb vss vos ao len m B nb cells xs fs W) (hB : B ≤ w.heap.size) (hnb : nb ≤ 1073741824) (h5 : xs.size = 5) (h1c : ∀ u ∈ xs.toList, u.oneCell' = true)
    {ops : Array Oper} {o : Oper} {a : Act} {w3 : World} {K : Act → World → Prop} {Q : Exit → Act → World → Prop} {E : Prop} (s x : Operand) (hgd : o.guard = none)
    (ho : o.op = .call { callee := .builtin .append, args := #[s, x], argTypes := #[82, 82] }) (hs : a.eval s = vb) (hx : a.eval x = .slice (some ⟨W.heap.size, 0, none⟩) 1 1)
    (hf : Fr New W w3) (hb : w3.heap[W.heap.size]? = some (.cells xs 146 (0, 0)))
    (h : ∀ g cap w', w'.ownsRow B 146 5 (.slice (some ⟨g, 0, none⟩) (nb + 1) cap) (nb + 1) (cells ++ xs.toList) → LateK w b n vws vhs vb vss vos ao m fs w' → K (a.put o.dst (.slice (some ⟨g, 0, none⟩) (nb + 1) cap)) w') :
    if Region.wanted o (yielded ops a.tmps) = true then Oper.wp Tryz.prog o a w3 K Q else E := by
  obtain ⟨j0, hj, hy0, hy1, hy2⟩ := info_parts Tryz.info146
  refine step_append_lies w3 hgd s x 82 ho B 146 j0 _ 5 104 Tryz.underlying82 hj hy0 hy1 hy2 rfl (by decide) vb nb cells hs (hf.owns M.own (fun _ _ h => h)) ⟨W.heap.size, 0, none⟩ 1 1 xs.toList hx (by simpa using h5) (World.news_of_block hb) h1c (by decide) (by unfold maxLen; omega) (by omega) (by have := M.fr.size; have := hf.size; omega) _ rfl ?_
  intro g cap w4 ho4 hg4 _ _
  exact h g cap w4 ho4 (M.app hf hg4)

set_option maxHeartbeats 2000000 in
set_option maxRecDepth 1000000 in
theorem words_new (b n : Nat) (vws vhs vb vss vos : Value) (ao : Option Addr) (zs : List Int) (B nb : Nat) (cells : List Value) (w : World)
    (hbk : Wb w b vws vhs n vb vss vos) (hl : LR w ao zs) (hown : w.ownsRow B 146 5 vb nb cells) (hB : B ≤ w.heap.size) (hn : n ≤ 1073741824) (hnb : nb ≤ 1073741824) (hz : zs.length ≤ 1048576) :
    Calls Tryz.prog 88 #[.pointer (some ⟨b, 2, none⟩), .slice ao zs.length zs.length] w fun e w' => e = .returned (.tuple #[]) ∧ ∃ vb' l1 l2 l3,
      Wb w' b vws vhs (n + 1) vb' vss vos ∧ w'.ownsRow B 146 5 vb' (nb + 1) (cells ++ [.slice ao zs.length zs.length, l1, l2, l3, .int .u64 (1152921504606846976 + ((n + 1 : Nat) : Int))]) ∧
      (∀ v ∈ [.slice ao zs.length zs.length, l1, l2, l3], Full w' v (1152921504606846976 + ((n + 1 : Nat) : Int))) ∧ Fr (Turned b ao vb) w w' ∧ ∀ v ∈ [.slice ao zs.length zs.length, l1, l2, l3], ∀ k, v.ownBlock = some k → w.heap.size ≤ k ∨ ao = some ⟨k, 0, none⟩ := by
  obtain ⟨i0, hi, hz0, hz1, hz2⟩ := info_parts Tryz.info50
  obtain ⟨m, hm⟩ : ∃ m : Int, m = 1152921504606846976 + ((n + 1 : Nat) : Int) := ⟨_, rfl⟩
  have hlb := lt_of_block hbk
  have hlv : ∀ g, vb.ownBlock = some g → g < w.heap.size := fun g hg => (hown.lt g hg).2
  have hW : Writing w b (n + 1) vws vhs vb vss vos ao zs B nb cells (w.setCell ⟨b, 2, none⟩ (.int .i64 ((n + 1 : Nat) : Int))) := Writing.count ⟨hbk, hl, hown, Fr.refl _ _⟩ (n + 1)
  have hw1 : IntKind.u64.wrap (1152921504606846976 + ((n : Int) + 1)) = m := by rw [IntKind.wrap_u64, hm]; omega
  obtain ⟨hcc, hzz⟩ := block_cells hbk
  rw [← hm]
  clear hl hown
  have hm' : (1152921504606846976 : Int) + ((n : Int) + 1) = m := by rw [hm]; omega
  have HM : Hid (_ = m) := hm'
  clear hm hm' hw1
  go_enter Tryz.func88, Tryz.ntmps88
  go_wp2
  rw [HM.out]
  go_loopw [5] (fun i wr => ∃ k : Nat, k ≤ zs.length ∧ i = .int .i64 k ∧ Writing w b (n + 1) vws vhs vb vss vos ao (part zs m k) B nb cells wr) (fun i _ => zs.length - (intOf i).toNat)
  case atStart => exact ⟨0, Nat.zero_le _, rfl, by rw [part_zero]; exact hW⟩
  case round =>
    obtain ⟨k, hk, rfl, hw⟩ := hrel
    clear hW hcc hzz hbk
    by_cases hlt : k < zs.length
    · obtain ⟨g, hao, hr⟩ : ∃ g, ao = some ⟨g, 0, none⟩ ∧ Row wr g (part zs m k) := by
        rcases hw.l with ⟨_, h⟩ | h
        · have := part_len zs m k hk; rw [h] at this; simp at this; omega
        · exact h
      subst hao
      have hcl := hr.cell k (by rw [part_len zs m k hk]; exact hlt)
      have hfz := hr.free k
      have hset := hw.put k m
      rw [part_set zs m k hlt] at hset
      have HR : Hid (Writing _ _ _ _ _ _ _ _ _ _ _ _ _ _) := hset
      clear hset hr hw
      go_wp2
      go_roundw
      case rel => exact ⟨k + 1, by omega, by go_num, HR.out⟩
      case measure => simp [intOf]; omega
    · obtain rfl : k = zs.length := by omega
      rw [part_all] at hw
      obtain ⟨len, hlen⟩ : ∃ len, len = zs.length := ⟨_, rfl⟩
      rw [← hlen] at hw hz hk hlt ⊢
      have HLen : Hid (len = zs.length) := hlen
      clear hlen
      have hM0 := fun xs => hw.midK hlb hlv (by unfold maxLen; omega) xs
      have HF0 : Hid (w.heap.size ≤ wr.heap.size) := hw.fr.size
      have HM0 : Hid (∀ xs, MidK _ _ _ _ _ _ _ _ _ _ _ _ _ _ _ _ _ _) := hM0
      have hnone : ao = none → len = 0 ∧ len = 0 := fun h => by have := hw.l.isNil h; simpa using this
      clear hM0
      go_wp2_with (first
        | (at_builtin; refine wpList_append_grows _ rfl (.tmp 33) (.tmp 35) 43 rfl 50 i0 (.int .u64 0) 1 8 Tryz.underlying43 hi hz0 hz1 hz2 rfl (by decide) ao len len ((List.replicate len m).map (Value.int .u64)) (by rfl) hnone (by simp) (((HM0.out _).grow ((Fr.refl New _).alloc _)).l.olds) ⟨wr.heap.size + 1, 0, none⟩ 1 1 ((List.replicate 1 m).map (Value.int .u64)) (by rfl) rfl (news_new _ (List.replicate 1 m) _ (by simp)) (ints_oneU _) (by omega) (by unfold maxLen; omega) (by omega) ?_; intro v1 w1 ho1 hg1; obtain ⟨g1, c1, rfl, _, _⟩ := ho1.form (by omega); have hs1 := HF0.out; have M1 := (((HM0.out _).grow ((Fr.refl New _).alloc _)).grow ((Fr.refl New _).grownNew hg1)).add (full_app ho1) (fun k hk => (by have := (own_block ho1 hk).1; have := hg1.size; simp at *; omega)); clear ho1 hg1; obtain ⟨hc1, hf1⟩ := block_cells M1.x; have M2 := M1.put 1 (.slice (some ⟨g1, 0, none⟩) (len + 1) c1); clear M1)
        | (at_builtin; refine wpList_append_grows _ rfl (.tmp 38) (.tmp 41) 43 rfl 50 i0 (.int .u64 0) 1 8 Tryz.underlying43 hi hz0 hz1 hz2 rfl (by decide) ao len len ((List.replicate len m).map (Value.int .u64)) (by rfl) hnone (by simp) ((M2.grow ((Fr.refl New _).alloc _)).l.olds) ⟨w1.heap.size, 0, none⟩ 2 2 ((List.replicate 2 m).map (Value.int .u64)) (by rfl) rfl (news_new _ (List.replicate 2 m) _ (by simp)) (ints_oneU _) (by omega) (by unfold maxLen; omega) (by omega) ?_; intro v2 w2 ho2 hg2; obtain ⟨g2, c2, rfl, _, _⟩ := ho2.form (by omega); have M3 := ((M2.grow ((Fr.refl New _).alloc _)).grow ((Fr.refl New _).grownNew hg2)).add (full_app ho2) (fun k hk => (by have := (own_block ho2 hk).1; have := (own_block ho2 hk).1; have := M2.fr.size; simp at *; omega)); clear ho2 hg2; obtain ⟨hc2, hf2⟩ := block_cells M3.x; have M4 := M3.put 2 (.slice (some ⟨g2, 0, none⟩) (len + 2) c2); clear M3)
        | (at_builtin; refine wpList_append_grows _ rfl (.tmp 44) (.tmp 48) 43 rfl 50 i0 (.int .u64 0) 1 8 Tryz.underlying43 hi hz0 hz1 hz2 rfl (by decide) ao len len ((List.replicate len m).map (Value.int .u64)) (by rfl) hnone (by simp) ((M4.grow ((Fr.refl New _).alloc _)).l.olds) ⟨w2.heap.size, 0, none⟩ 3 3 ((List.replicate 3 m).map (Value.int .u64)) (by rfl) rfl (news_new _ (List.replicate 3 m) _ (by simp)) (ints_oneU _) (by omega) (by unfold maxLen; omega) (by omega) ?_; intro v3 w3 ho3 hg3; obtain ⟨g3, c3, rfl, _, _⟩ := ho3.form (by omega); have M5 := ((M4.grow ((Fr.refl New _).alloc _)).grow ((Fr.refl New _).grownNew hg3)).add (full_app ho3) (fun k hk => (by have := (own_block ho3 hk).1; have := M4.fr.size; simp at *; omega)); clear ho3 hg3; obtain ⟨hc3, hf3⟩ := block_cells M5.x; have M6 := M5.put 3 (.slice (some ⟨g3, 0, none⟩) (len + 3) c3); clear M5)
        | fail)
      clear hw HM0 hc1 hf1 hc2 hf2 hc3 hf3 M2 M4 hnone hlt hk hi hz0 hz1 hz2
      obtain ⟨X, hX⟩ : ∃ X, X = wr.heap.size := ⟨_, rfl⟩
      obtain ⟨W, hW⟩ : ∃ W, W = w3.setCell ⟨wr.heap.size, 3, none⟩ (.slice (some ⟨g3, 0, none⟩) (len + 3) c3) := ⟨_, rfl⟩
      rw [← hW] at M6 ⊢
      rw [← hX] at M6 ⊢
      clear hW hX
      have M : MidK w b X (n + 1) vws vhs vb vss vos ao len m B nb cells #[.slice ao len len, .slice (some ⟨g1, 0, none⟩) (len + 1) c1, .slice (some ⟨g2, 0, none⟩) (len + 2) c2, .slice (some ⟨g3, 0, none⟩) (len + 3) c3, .int .u64 m] _ W := M6
      clear M6
      obtain ⟨hcx, hzx⟩ := block_cells M.x
      obtain ⟨hcb, hzb⟩ := block_cells M.bk
      have hbW : b < W.heap.size := lt_of_block M.bk
      go_region_law (refine step_wordsK M hB hnb rfl (by simp [Value.oneCell']) (.tmp 55) (.tmp 57) rfl rfl (by simp [Act.eval]) (by simp [Act.eval]) (by first | exact (Fr.refl New W).alloc _ | exact (Fr.refl New W).drew.alloc _ | exact ((Fr.refl New W).alloc _).drew) (by first | exact Go.Deep.blk_alloc_new W _ | exact Go.Deep.blk_alloc_new W.drew _) ?_; intro g cap w4 ho4 HL; obtain ⟨hc4, hf4⟩ := block_cells HL.bk)
      all_goals
        obtain ⟨b1, b2, b3, b4⟩ := HL.last ho4
        go_end0
        rw [← HLen.out]
        refine ⟨rfl, _, _, _, _, b1, b2, ?_, b4, fun v hv => HL.nw v (by simp only [List.mem_cons, List.not_mem_nil, or_false] at hv ⊢; rcases hv with h | h | h | h <;> simp [h])⟩
        intro v hv
        simp only [List.mem_cons, List.not_mem_nil, or_false] at hv
        rcases hv with rfl | rfl | rfl | rfl <;> exact b3 _ (by simp)
end Go.Proofs.YtbagcjlimdilpaaGreat
/- The walk of the law's 'image', of words of whatever number: what is kept is a copy of them. -/
namespace Go.Proofs.YtbagcjlimdilpaaGreat
open Go.RowKit
attribute [local go_sem ↓] Go.wp_at_zero Go.wp_at_succ

theorem own_empty {w : World} {g : Nat} (hb : w.heap[g]? = some (.cells #[] 50 (0, 0))) : Own 0 w (.slice (some ⟨g, 0, none⟩) 0 0) [] :=
  ⟨by simp, .inr ⟨g, 0, #[], rfl, Nat.zero_le _, hb, Nat.le_refl _, by decide, by simp, by simp⟩⟩

/-- what 'image' leaves -/
def Kept (zs : List Int) (xs xs' : List Value) (w' : World) : Prop := xs' = xs ∨ (zs.length < 1000 ∧ ∃ v', xs' = xs ++ [v'] ∧ Own 0 w' v' zs)

end Go.Proofs.YtbagcjlimdilpaaGreat
/- The law's 'image' once more: where what is kept lies. -/
namespace Go.Proofs.YtbagcjlimdilpaaGreat
open Go.RowKit
attribute [local go_sem ↓] Go.wp_at_zero Go.wp_at_succ

/-- the copy is made, at a step of a region that draws its order -/
theorem step_copiedK {W : World} {ad : Addr} {cap : Nat} {zs : List Int} (hr : RowU W (some ad) zs) (hp : 0 < zs.length) (hz : zs.length ≤ 1048576)
    {ops : Array Oper} {o : Oper} {a : Act} {w3 : World} {K : Act → World → Prop} {Q : Exit → Act → World → Prop} {E : Prop} (s x : Operand) (hgd : o.guard = none)
    (ho : o.op = .call { callee := .builtin .append, args := #[s, x], argTypes := #[43, 43] }) (hs : a.eval s = .slice (some ⟨W.heap.size, 0, none⟩) 0 0) (hx : a.eval x = .slice (some ad) zs.length cap)
    (hf : Fr New W w3) (hb : w3.heap[W.heap.size]? = some (.cells #[] 50 (0, 0)))
    (h : ∀ g c w', W.heap.size ≤ g → Own 0 w' (.slice (some ⟨g, 0, none⟩) zs.length c) zs → Fr New W w' → K (a.put o.dst (.slice (some ⟨g, 0, none⟩) zs.length c)) w') :
    if Region.wanted o (yielded ops a.tmps) = true then Oper.wp Tryz.prog o a w3 K Q else E := by
  obtain ⟨i0, hi, hz0, hz1, hz2⟩ := info_parts Tryz.info50
  have hown : w3.ownsRow W.heap.size 50 1 (.slice (some ⟨W.heap.size, 0, none⟩) 0 0) 0 [] := ⟨by simp, .inr ⟨W.heap.size, 0, #[], rfl, Nat.le_refl _, hb, Nat.le_refl _, by decide, by simp, by simp⟩⟩
  obtain ⟨ad', had, hn⟩ := news_row (rowU_fr hf hr (fun _ _ h => h)) (by simpa using hp)
  cases had
  refine step_append_lies w3 hgd s x 43 ho W.heap.size 50 i0 _ 1 8 Tryz.underlying43 hi hz0 hz1 hz2 rfl (by decide) _ 0 [] hs hown ad zs.length cap (zs.map (Value.int .u64)) hx (by simp) hn (ints_oneU zs) hp (by unfold maxLen; omega) (by omega) hf.size _ rfl ?_
  intro g c w4 ho4 hg4 _ _
  have := h g c w4 (own_block ho4 rfl).1 (own_base (B := W.heap.size) (by simpa using ho4)) (hf.grown hg4 (fun k hk hv => by simp [Value.ownBlock] at hv; omega))
  simpa using this

/-- nothing is copied, at a step of a region that draws its order -/
theorem step_copied0K {W : World} {ad : Addr} {cap : Nat}
    {ops : Array Oper} {o : Oper} {a : Act} {w3 : World} {K : Act → World → Prop} {Q : Exit → Act → World → Prop} {E : Prop} (s x : Operand) (hgd : o.guard = none)
    (ho : o.op = .call { callee := .builtin .append, args := #[s, x], argTypes := #[43, 43] }) (hs : a.eval s = .slice (some ⟨W.heap.size, 0, none⟩) 0 0) (hx : a.eval x = .slice (some ad) 0 cap)
    (hf : Fr New W w3) (hb : w3.heap[W.heap.size]? = some (.cells #[] 50 (0, 0)))
    (h : ∀ g c w', W.heap.size ≤ g → Own 0 w' (.slice (some ⟨g, 0, none⟩) 0 c) [] → Fr New W w' → K (a.put o.dst (.slice (some ⟨g, 0, none⟩) 0 c)) w') :
    if Region.wanted o (yielded ops a.tmps) = true then Oper.wp Tryz.prog o a w3 K Q else E := by
  obtain ⟨i0, hi, hz0, hz1, hz2⟩ := info_parts Tryz.info50
  refine step_append_room hgd s x 43 ho 50 i0 1 Tryz.underlying43 hi hz1 W.heap.size 0 0 0 hs ad 0 cap [] hx rfl (fun j u h => by simp at h) (fun u h => by simp at h) (Nat.le_refl _) (fun j h => by simp at h) ?_
  exact h W.heap.size 0 w3 (Nat.le_refl _) (own_empty hb) hf
/-- what 'image' leaves, and where -/
def KeptK (n : Nat) (zs : List Int) (xs xs' : List Value) (w' : World) : Prop := xs' = xs ∨ (zs.length < 1000 ∧ ∃ v', xs' = xs ++ [v'] ∧ Own 0 w' v' zs ∧ ∀ k, v'.ownBlock = some k → n ≤ k)

set_option maxHeartbeats 2000000 in
set_option maxRecDepth 1000000 in
theorem image_new (b n : Nat) (vws vhs vb vss vos : Value) (ad : Addr) (cap : Nat) (zs : List Int) (B nw : Nat) (xs : List Value) (w : World)
    (hbk : Wb w b vws vhs n vb vss vos) (hws : w.ownsRow B 43 1 vws nw xs) (hB : B ≤ w.heap.size) (hnw : nw ≤ 12) (hr : RowU w (some ad) zs) (hz : zs.length ≤ 2097152) :
    Calls Tryz.prog 89 #[.pointer (some ⟨b, 0, none⟩), .slice (some ad) zs.length cap] w fun e w' => e = .returned (.tuple #[]) ∧ ∃ vws' nw' xs', nw' ≤ 12 ∧ nw ≤ nw' ∧
      Wb w' b vws' vhs n vb vss vos ∧ w'.ownsRow B 43 1 vws' nw' xs' ∧ KeptK w.heap.size zs xs xs' w' ∧ Fr (TurnedI b vws) w w' := by
  obtain ⟨aw, cw, hvw⟩ := own_slice hws
  obtain ⟨hcb, hzb⟩ := block_cells hbk
  have hbW : b < w.heap.size := lt_of_block hbk
  by_cases h12 : nw < 12
  · have hd : decide ((nw : Int) < 12) = true := by simp; omega
    by_cases h1000 : zs.length < 1000
    · by_cases hp : 0 < zs.length
      · subst hvw
        go_enter Tryz.func89, Tryz.ntmps89
        go_wp2
        go_region_law (first
          | (refine step_copiedK (W := w) (cap := cap) hr hp (by omega) (.tmp 20) (.tmp 21) rfl rfl (by simp [Act.eval]) (by simp [Act.eval]) (by first | exact (Fr.refl New w).alloc _ | exact (Fr.refl New w).drew.alloc _) (by first | exact Go.Deep.blk_alloc_new w _ | exact Go.Deep.blk_alloc_new w.drew _) ?_; intro g c w4 hg4 ho4 hf4; obtain ⟨hc4, hz4⟩ := block_cells (hf4.heap hbk id); have hb4 := lt_of_block (hf4.heap hbk id))
          | (refine step_image hbk hws hB h12 (hf4.alloc _) (own_fr ho4 ((Fr.refl New _).alloc _) (fun _ _ _ h => h)) rfl w4.heap.size (Go.Deep.blk_alloc_new w4 _) (.tmp 19) (.tmp 23) rfl rfl (by simp [Act.eval]) (by simp [Act.eval]) ?_; intro g6 c6 w6 ho6 HL; obtain ⟨hc6, hf6⟩ := block_cells HL.bk))
        all_goals
          obtain ⟨b1, b2, b3, b4⟩ := HL.last ho6
          go_end0
          exact ⟨rfl, _, _, _, by omega, Nat.le_succ _, b1, b2, .inr ⟨h1000, _, rfl, b3, fun k hk => by simp [Value.ownBlock] at hk; omega⟩, b4⟩
      · obtain rfl : zs = [] := by cases zs with | nil => rfl | cons a r => simp at hp
        subst hvw
        go_enter Tryz.func89, Tryz.ntmps89
        go_wp2
        go_region_law (first
          | (refine step_copied0K (W := w) (ad := ad) (cap := cap) (.tmp 20) (.tmp 21) rfl rfl (by simp [Act.eval]) (by simp [Act.eval]) (by first | exact (Fr.refl New w).alloc _ | exact (Fr.refl New w).drew.alloc _) (by first | exact Go.Deep.blk_alloc_new w _ | exact Go.Deep.blk_alloc_new w.drew _) ?_; intro g c w4 hg4 ho4 hf4; obtain ⟨hc4, hz4⟩ := block_cells (hf4.heap hbk id); have hb4 := lt_of_block (hf4.heap hbk id))
          | (refine step_image hbk hws hB h12 (hf4.alloc _) (own_fr ho4 ((Fr.refl New _).alloc _) (fun _ _ _ h => h)) rfl w4.heap.size (Go.Deep.blk_alloc_new w4 _) (.tmp 19) (.tmp 23) rfl rfl (by simp [Act.eval]) (by simp [Act.eval]) ?_; intro g6 c6 w6 ho6 HL; obtain ⟨hc6, hf6⟩ := block_cells HL.bk))
        all_goals
          obtain ⟨b1, b2, b3, b4⟩ := HL.last ho6
          go_end0
          exact ⟨rfl, _, _, _, by omega, Nat.le_succ _, b1, b2, .inr ⟨h1000, _, rfl, b3, fun k hk => by simp [Value.ownBlock] at hk; omega⟩, b4⟩
    · subst hvw
      have hd2 : decide ((zs.length : Int) < 1000) = false := by simp; omega
      go_enter Tryz.func89, Tryz.ntmps89
      go_wp2
      go_end0
      exact ⟨rfl, _, nw, xs, hnw, Nat.le_refl _, hbk, hws, .inl rfl, Fr.refl _ _⟩
  · have hd : decide ((nw : Int) < 12) = false := by simp; omega
    subst hvw
    go_enter Tryz.func89, Tryz.ntmps89
    go_wp2
    go_end0
    exact ⟨rfl, _, nw, xs, hnw, Nat.le_refl _, hbk, hws, .inl rfl, Fr.refl _ _⟩
end Go.Proofs.YtbagcjlimdilpaaGreat
/- The walk of the law's 'plain' for Format and Sum: the answer is the document's. -/
namespace Go.Proofs.YtbagcjlimdilpaaGreat
open Go.RowKit

theorem same_len (a a' : Option Addr) (cap cap' : Nat) (zs : List Int) (len : Nat) (w : World) (hlen : zs.length = len) (hm : len ≤ maxLen) (ha : RowU w a zs) (hb : RowU w a' zs) :
    Calls Tryz.prog 87 #[.slice a len cap, .slice a' len cap'] w fun e w' => e = .returned (.bool true) ∧ ∃ n, w' = w.drewN n := by
  subst hlen; exact same_true a a' cap cap' zs w hm ha hb

theorem eight_row {w : World} {g : Nat} {zs : List Int} (hr : Row w g (withEight zs)) : RowU w (some ⟨g, 0, none⟩) zs := by
  have := rowU_take hr.rowU zs.length
  rwa [show (withEight zs).take zs.length = zs by simp [withEight]] at this

end Go.Proofs.YtbagcjlimdilpaaGreat
/- The state of the law's play with its images: what each image is. -/
namespace Go.Proofs.YtbagcjlimdilpaaGreat
open Go.RowKit

/-- each image is some words -/
def Imgs (w : World) (xs : List Value) : Prop := ∀ v ∈ xs, ∃ zs : List Int, Own 0 w v zs ∧ zs.length < 1000 ∧ ∀ z ∈ zs, U z
/-- the state, whatever it holds -/
def Inv2 (B b c : Nat) (w : World) : Prop := ∃ vws nw xs vb es, Parts B b c vws nw xs vb es w ∧ Imgs w xs
end Go.Proofs.YtbagcjlimdilpaaGreat
/- The state of the law's play beside its heaps: images and lists of words that came out, and which blocks stay. -/
namespace Go.Proofs.YtbagcjlimdilpaaGreat
open Go.RowKit

/-- the World's heaps, and the book's stores and objects -/
structure Rest where
  h : Value
  s : Value
  o : Value
/-- the World at block b, its images, its book; K: the blocks that stay as they are -/
structure PartsX (K : Nat → Prop) (X : Rest) (B b c : Nat) (vws : Value) (nw : Nat) (xs : List Value) (vb : Value) (es : List Entry) (w : World) : Prop where
  bk : Wb w b vws X.h c vb X.s X.o
  ws : w.ownsRow B 43 1 vws nw xs
  own : w.ownsRow B 146 5 vb es.length (cellsOf es)
  good : ∀ e ∈ es, e.good w
  kept : ∀ e ∈ es, ∀ v ∈ [e.l, e.a, e.b, e.c], ∀ g, v.ownBlock = some g → K g
  few : nw ≤ 12
  les : es.length ≤ c
  base : B ≤ b
  fresh : ∀ k, w.heap.size ≤ k → K k
/-- the kinds of blocks that the law's own lists lie in -/
def LTy (t : TypeId) : Prop := t = 88 ∨ t = 43 ∨ t = 146 ∨ t = 149 ∨ t = 152 ∨ t = 133
/-- the kinds that images and words lie in -/
def L3y (t : TypeId) : Prop := t = 88 ∨ t = 43 ∨ t = 146
def L3 (w : World) (k : Nat) : Prop := ∃ cur t, w.heap[k]? = some (.cells cur t (0, 0)) ∧ L3y t
def LT (w : World) (k : Nat) : Prop := ∃ cur t, w.heap[k]? = some (.cells cur t (0, 0)) ∧ LTy t
theorem LT.not {w : World} {k : Nat} {cur : Array Value} {t : TypeId} {f : Nat × Nat} (h : w.heap[k]? = some (.cells cur t f)) (ht : ¬ LTy t) : ¬ LT w k := by
  rintro ⟨c, t', h', ht'⟩
  rw [h] at h'
  simp only [Option.some.injEq, Obj.cells.injEq] at h'
  exact ht (h'.2.1 ▸ ht')
theorem L3.not {w : World} {k : Nat} {cur : Array Value} {t : TypeId} {f : Nat × Nat} (h : w.heap[k]? = some (.cells cur t f)) (ht : ¬ L3y t) : ¬ L3 w k := by
  rintro ⟨c, t', h', ht'⟩
  rw [h] at h'
  simp only [Option.some.injEq, Obj.cells.injEq] at h'
  exact ht (h'.2.1 ▸ ht')
/-- nothing below B, and no other block, is turned -/
structure Stay (B : Nat) (w w' : World) : Prop where
  b : Below B w w'
  f : Fr (L3 w) w w'
theorem L3.back {w w' : World} (h : Fr (L3 w) w w') {k : Nat} (hk : k < w.heap.size) (hl : L3 w' k) : L3 w k := by
  apply Classical.byContradiction
  intro hn
  obtain ⟨c, t, h', ht⟩ := hl
  rw [h.block k hk hn] at h'
  exact hn ⟨c, t, h', ht⟩
theorem Stay.trans {B : Nat} {a b c : World} (h : Stay B a b) (k : Stay B b c) : Stay B a c := ⟨h.b.trans k.b, h.f.trans k.f (fun _ hj ht => L3.back h.f hj ht)⟩
theorem Stay.new {B : Nat} {w w' : World} (h : Fr New w w') (hB : B ≤ w.heap.size) : Stay B w w' := ⟨h.below hB (fun _ _ h => h), h.mono (fun _ _ h => h.elim)⟩

def ImgsX (K : Nat → Prop) (w : World) (xs : List Value) : Prop := ∀ v ∈ xs, ∃ zs : List Int, Own 0 w v zs ∧ zs.length < 1000 ∧ (∀ z ∈ zs, U z) ∧ ∀ g, v.ownBlock = some g → K g
theorem ImgsX.imgs {K : Nat → Prop} {w : World} {xs : List Value} (h : ImgsX K w xs) : Imgs w xs := fun v hv => by
  obtain ⟨zs, h1, h2, h3, _⟩ := h v hv
  exact ⟨zs, h1, h2, h3⟩
theorem ImgsX.fr {K T : Nat → Prop} {w w' : World} {xs : List Value} (h : ImgsX K w xs) (hf : Fr T w w') (hT : ∀ g cur, w.heap[g]? = some (.cells cur 50 (0, 0)) → K g → ¬ T g) : ImgsX K w' xs := by
  intro v hv
  obtain ⟨zs, ho, h1, h2, h3⟩ := h v hv
  refine ⟨zs, hf.owns ho (fun g hg => ?_), h1, h2, h3⟩
  obtain ⟨_, cur, hc⟩ := own_block ho hg
  exact hT g cur hc (h3 g hg)
theorem ImgsX.new {K : Nat → Prop} {w w' : World} {xs : List Value} (h : ImgsX K w xs) (hf : Fr New w w') : ImgsX K w' xs := h.fr hf (fun _ _ _ _ h => h)
theorem ImgsX.kept {K : Nat → Prop} {n : Nat} {w : World} {xs xs' : List Value} {zs : List Int} (h : ImgsX K w xs) (hk : KeptK n zs xs xs' w) (hU : ∀ z ∈ zs, U z) (hK : ∀ k, n ≤ k → K k) : ImgsX K w xs' := by
  rcases hk with rfl | ⟨hl, v', rfl, ho, hn⟩
  · exact h
  · intro v hv
    rcases List.mem_append.1 hv with hv | hv
    · exact h v hv
    · obtain rfl : v = v' := by simpa using hv
      exact ⟨zs, ho, hl, hU, fun g hg => hK g (hn g hg)⟩

section
variable {K : Nat → Prop} {X : Rest} {B b c : Nat} {vws : Value} {nw : Nat} {xs : List Value} {vb : Value} {es : List Entry} {w : World}
theorem PartsX.lty (P : PartsX K X B b c vws nw xs vb es w) : ∀ k, T0 b vws vb k → L3 w k := by
  rintro k (rfl | h | h)
  · exact ⟨_, _, P.bk, .inl rfl⟩
  · obtain ⟨_, cur', hh⟩ := own_block P.ws h; exact ⟨_, _, hh, .inr (.inl rfl)⟩
  · obtain ⟨_, cur', hh⟩ := own_block P.own h; exact ⟨_, _, hh, .inr (.inr rfl)⟩
theorem PartsX.notU (P : PartsX K X B b c vws nw xs vb es w) : ∀ g cur, w.heap[g]? = some (.cells cur 50 (0, 0)) → ¬ T0 b vws vb g := fun g cur hg ht => L3.not hg (by unfold L3y; decide) (P.lty g ht)
theorem PartsX.old (P : PartsX K X B b c vws nw xs vb es w) : ∀ k, k < B → ¬ T0 b vws vb k := by
  rintro k hk (rfl | h | h)
  · have := P.base; omega
  · have := (own_block P.ws h).1; omega
  · have := (own_block P.own h).1; omega
theorem PartsX.lt (P : PartsX K X B b c vws nw xs vb es w) : b < w.heap.size := lt_of_block P.bk
theorem PartsX.size (P : PartsX K X B b c vws nw xs vb es w) : B ≤ w.heap.size := by have := P.lt; have := P.base; omega
theorem PartsX.stay (P : PartsX K X B b c vws nw xs vb es w) {w' : World} (h : Fr (T0 b vws vb) w w') : Stay B w w' := ⟨h.below P.size P.old, h.mono (fun k _ hk => P.lty k hk)⟩
theorem PartsX.fr (P : PartsX K X B b c vws nw xs vb es w) {w' : World} (hf : Fr New w w') : PartsX K X B b c vws nw xs vb es w' :=
  ⟨hf.heap P.bk id, hf.owns P.ws (fun _ _ h => h), hf.owns P.own (fun _ _ h => h), fun e he => Entry.good_fr (P.good e he) hf (fun _ _ _ h => h), P.kept, P.few, P.les, P.base, fun k hk => P.fresh k (Nat.le_trans hf.size hk)⟩
/-- behind the book's 'words' -/
theorem PartsX.words (P : PartsX K X B b c vws nw xs vb es w) {w4 w5 : World} (hf : Fr New w w4) {ao : Option Addr} (hao : ∀ g, ao = some ⟨g, 0, none⟩ → w.heap.size ≤ g) {vb' l0 l1 l2 l3 : Value} {m : Int}
    (b1 : Wb w5 b vws X.h (c + 1) vb' X.s X.o) (b2 : w5.ownsRow B 146 5 vb' (es.length + 1) (cellsOf es ++ [l0, l1, l2, l3, .int .u64 m])) (b3 : ∀ v ∈ [l0, l1, l2, l3], Full w5 v m)
    (b4 : Fr (Turned b ao vb) w4 w5) (b5 : ∀ v ∈ [l0, l1, l2, l3], ∀ k, v.ownBlock = some k → w4.heap.size ≤ k ∨ ao = some ⟨k, 0, none⟩) : PartsX K X B b (c + 1) vws nw xs vb' (es ++ [⟨l0, l1, l2, l3, m⟩]) w5 ∧ Fr (T0 b vws vb) w w5 := by
  have hfr : Fr (T0 b vws vb) w w5 := ((Fr.refl _ _).same hf).trans b4 (fun j hj ht => by
    rcases ht with rfl | h | h
    · exact .inl rfl
    · have := hao j h; omega
    · exact .inr (.inr h))
  refine ⟨⟨b1, b4.owns (hf.owns P.ws (fun _ _ h => h)) ?_, by simpa [cellsOf_snoc, Entry.cells] using b2, ?_, ?_, P.few, by have := P.les; simp; omega, P.base, fun k hk => P.fresh k (Nat.le_trans hfr.size hk)⟩, hfr⟩
  · rintro g hg (rfl | h | h)
    · obtain ⟨_, cur, hh⟩ := own_block P.ws hg; exact type_ne hh P.bk (by decide) rfl
    · have := (P.ws.lt g hg).2; have := hao g h; omega
    · obtain ⟨_, cur, hh⟩ := own_block P.ws hg; obtain ⟨_, cur', hh'⟩ := own_block P.own h; exact type_ne hh hh' (by decide) rfl
  · intro e he
    rcases List.mem_append.1 he with he | he
    · exact Entry.good_fr (P.good e he) hfr P.notU
    · obtain rfl : e = ⟨l0, l1, l2, l3, m⟩ := by simpa using he
      exact ⟨b3 _ (by simp), b3 _ (by simp), b3 _ (by simp), b3 _ (by simp)⟩
  · intro e he v hv g hg
    rcases List.mem_append.1 he with he | he
    · exact P.kept e he v hv g hg
    · obtain rfl : e = ⟨l0, l1, l2, l3, m⟩ := by simpa using he
      refine P.fresh g ?_
      rcases b5 v hv g hg with h | h
      · exact Nat.le_trans hf.size h
      · exact hao g h
/-- behind 'image' -/
theorem PartsX.image (P : PartsX K X B b c vws nw xs vb es w) {w' : World} {vws' : Value} {nw' : Nat} {xs' : List Value} (hn : nw' ≤ 12)
    (b1 : Wb w' b vws' X.h c vb X.s X.o) (b2 : w'.ownsRow B 43 1 vws' nw' xs') (b4 : Fr (TurnedI b vws) w w') : PartsX K X B b c vws' nw' xs' vb es w' := by
  refine ⟨b1, b2, b4.owns P.own ?_, fun e he => Entry.good_fr (P.good e he) b4 ?_, P.kept, hn, P.les, P.base, fun k hk => P.fresh k (Nat.le_trans b4.size hk)⟩
  · rintro g hg (rfl | h)
    · obtain ⟨_, cur, hh⟩ := own_block P.own hg; exact type_ne hh P.bk (by decide) rfl
    · obtain ⟨_, cur, hh⟩ := own_block P.own hg; obtain ⟨_, cur', hh'⟩ := own_block P.ws h; exact type_ne hh hh' (by decide) rfl
  · intro g cur hg h
    exact P.notU g cur hg (by rcases h with h | h; exact .inl h; exact .inr (.inl h))
/-- one image, as it lies -/
theorem PartsX.pick (P : PartsX K X B b c vws nw xs vb es w) (I : ImgsX K w xs) (hn : 0 < nw) (j : Nat) (hj : j < nw) :
    ∃ gw cw av cv zs, vws = .slice (some ⟨gw, 0, none⟩) nw cw ∧ w.cell? ⟨gw, j, none⟩ = some (.slice av zs.length cv) ∧ RowU w av zs ∧ zs.length ≤ cv ∧ zs.length < 1000 ∧ ∀ z ∈ zs, U z := by
  obtain ⟨gw, cw, rfl, _, _⟩ := P.ws.form hn
  have hl := P.ws.1
  have hjx : j < xs.length := by omega
  have hc := P.ws.cellAt j (by omega)
  rw [List.getElem?_eq_getElem hjx] at hc
  obtain ⟨zs, ho, h1, h2⟩ := I.imgs xs[j] (List.getElem_mem _)
  obtain ⟨av, cv, e, _, hr, _⟩ := own_row ho
  refine ⟨gw, cw, av, cv, zs, rfl, by rw [← e]; exact hc, hr, ?_, h1, h2⟩
  rw [e] at ho
  rcases ho.2 with ⟨h', h0⟩ | ⟨g', cap', cur, h', _, _, hnc, _⟩
  · have : zs = [] := by simpa using h0
    subst this; simp
  · simp only [Value.slice.injEq] at h'
    omega
end
/-- the state, whatever it holds -/
def Inv2X (K : Nat → Prop) (X : Rest) (B b c : Nat) (w : World) : Prop := ∃ vws nw xs vb es, PartsX K X B b c vws nw xs vb es w ∧ ImgsX K w xs
theorem Inv2X.new {K : Nat → Prop} {X : Rest} {B b c : Nat} {w w' : World} (h : Inv2X K X B b c w) (hf : Fr New w w') : Inv2X K X B b c w' := by
  obtain ⟨vws, nw, xs, vb, es, P, I⟩ := h
  exact ⟨vws, nw, xs, vb, es, P.fr hf, I.new hf⟩
theorem Inv2X.size {K : Nat → Prop} {X : Rest} {B b c : Nat} {w : World} (h : Inv2X K X B b c w) : B ≤ w.heap.size := by
  obtain ⟨vws, nw, xs, vb, es, P, I⟩ := h
  exact P.size

theorem image2_partsX {K : Nat → Prop} {X : Rest} {B b c : Nat} {vws : Value} {nw : Nat} {xs : List Value} {vb : Value} {es : List Entry} {w : World} (P : PartsX K X B b c vws nw xs vb es w) (I : ImgsX K w xs)
    (ad : Addr) (zs : List Int) (len cap : Nat) (hlen : zs.length = len) (hz : len ≤ 2097152) (hU : ∀ z ∈ zs, U z) (hr : RowU w (some ad) zs) :
    Calls Tryz.prog 89 #[.pointer (some ⟨b, 0, none⟩), .slice (some ad) len cap] w fun e w' => e = .returned (.tuple #[]) ∧ Inv2X K X B b c w' ∧ Fr (TurnedI b vws) w w' := by
  subst hlen
  refine (image_new b c vws _ vb _ _ ad cap zs B nw xs w P.bk P.ws P.size P.few hr hz).mono ?_
  rintro e w6 ⟨rfl, vws', nw', xs', hn, _, b1, b2, b3, b4⟩
  have I6 : ImgsX K w6 xs := I.fr b4 (fun g cur hg _ ht => P.notU g cur hg (by rcases ht with h | h; exact .inl h; exact .inr (.inl h)))
  exact ⟨rfl, ⟨vws', nw', xs', vb, es, P.image hn b1 b2 b4, I6.kept b3 hU P.fresh⟩, b4⟩
theorem words2_partsX {K : Nat → Prop} {X : Rest} {B b c : Nat} {vws : Value} {nw : Nat} {xs : List Value} {vb : Value} {es : List Entry} {w w4 : World} (P : PartsX K X B b c vws nw xs vb es w) (I : ImgsX K w xs) (hf : Fr New w w4) (hc : c ≤ 1073741823)
    (ao : Option Addr) (hao : ∀ g, ao = some ⟨g, 0, none⟩ → w.heap.size ≤ g) (zs : List Int) (len : Nat) (hlen : zs.length = len) (hz : len ≤ 1048576) (hl : LR w4 ao zs) :
    Calls Tryz.prog 88 #[.pointer (some ⟨b, 2, none⟩), .slice ao len len] w4 fun e w' => e = .returned (.tuple #[]) ∧ ∃ vb' es', PartsX K X B b (c + 1) vws nw xs vb' es' w' ∧ ImgsX K w' xs ∧ Fr (T0 b vws vb) w w' ∧ Fr (Turned b ao vb) w4 w' := by
  subst hlen
  have P4 := P.fr hf
  refine (words_new b c vws _ vb _ _ ao zs B es.length (cellsOf es) w4 P4.bk hl P4.own P4.size (by omega) (by have := P.les; omega) hz).mono ?_
  rintro e w5 ⟨rfl, vb', l1, l2, l3, b1, b2, b3, b4, b5⟩
  obtain ⟨P5, h5⟩ := P.words hf hao b1 b2 b3 b4 b5
  exact ⟨rfl, vb', _, P5, I.fr h5 (fun g cur hg _ => P.notU g cur hg), h5, b4⟩
theorem row_turnedX {K : Nat → Prop} {X : Rest} {B b c : Nat} {vws : Value} {nw : Nat} {xs : List Value} {vb : Value} {es : List Entry} {w4 w5 : World} (P : PartsX K X B b c vws nw xs vb es w4) {ao : Option Addr} {g : Nat} {zs : List Int}
    (h : Row w4 g zs) (hf : Fr (Turned b ao vb) w4 w5) (hao : ao ≠ some ⟨g, 0, none⟩) : Row w5 g zs := by
  refine h.fr hf ?_
  rintro (rfl | h' | h')
  · exact type_ne h P.bk (by decide) rfl
  · exact hao h'
  · obtain ⟨_, cur, hh⟩ := own_block P.own h'; exact type_ne h hh (by decide) rfl
end Go.Proofs.YtbagcjlimdilpaaGreat
/- The walk of the law's 'step' for the kinds of Sums. -/
namespace Go.Proofs.YtbagcjlimdilpaaGreat
open Go.RowKit

/-- a step of a script, as it lies in memory -/
structure OpD where
  k : Int
  A : Int
  D : Int
  C : Int
  V : Int
  Wa : Option Addr
  Wc : Nat
  zs : List Int

/-- the cells of a step -/
def OpD.cells (o : OpD) : List Value := [.int .i64 o.k, .int .i64 o.A, .int .i64 o.D, .int .i64 o.C, .int .u64 o.V, .slice o.Wa o.zs.length o.Wc]

/-- a script lies at ⟨sb, so⟩ -/
def Script (w : World) (sb so : Nat) (ops : List OpD) : Prop :=
  ∀ i (h : i < ops.length), (∀ j, j < 6 → w.cell? ⟨sb, so + i * 6 + j, none⟩ = (ops[i]).cells[j]?) ∧ (ops[i]).zs.length ≤ 1048576 ∧ RowU w (ops[i]).Wa (ops[i]).zs

theorem rowU_below {w w' : World} (h : Below w.heap.size w w') {a : Option Addr} {zs : List Int} (hr : RowU w a zs) : RowU w' a zs := by
  intro i hi
  obtain ⟨x, hx, hc⟩ := hr i hi
  exact ⟨x, hx, (h.cell (World.block_lt_of_cell? w _ hc)).trans hc⟩

end Go.Proofs.YtbagcjlimdilpaaGreat
/- The walk of 'plays' and of the law Sums, over any script that lies in memory. -/
namespace Go.Proofs.YtbagcjlimdilpaaGreat
open Go.RowKit

end Go.Proofs.YtbagcjlimdilpaaGreat
