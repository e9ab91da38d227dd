/- Texts that follow one another, joined. -/
import Derived.Test.YtbagcjlimdilpaaGreatChBookW
import Derived.Deep.RegionLaw
import Derived.Deep.Slices
/- The walk of the law's 'image': one more image is kept, as a copy. -/
namespace Go.Proofs.YtbagcjlimdilpaaGreat
open Go.RowKit
attribute [local go_sem ↓] Go.wp_at_zero Go.wp_at_succ

theorem Tryz.info43 : (Tryz.prog.info? 43).map (fun i => (i.zero, i.size, i.bytes)) = some (some (.slice none 0 0), 1, 24) := by kernel_rfl

/-- which old blocks 'image' turns -/
def TurnedI (b : Nat) (vws : Value) (k : Nat) : Prop := k = b ∨ vws.ownBlock = some k

theorem own_fr {T : Nat → Prop} {w w' : World} {B : Nat} {v : Value} {zs : List Int} (h : Own B w v zs) (hf : Fr T w w') (hT : ∀ g cur, w.heap[g]? = some (.cells cur 50 (0, 0)) → ¬ T g) : Own B w' v zs := by
  refine hf.owns h (fun g hg => ?_)
  rcases h.2 with ⟨rfl, _⟩ | ⟨g', cap, cur, rfl, _, hh, _⟩
  · cases hg
  · simp [Value.ownBlock] at hg; subst hg; exact hT _ cur hh
theorem own_base {w : World} {B : Nat} {v : Value} {zs : List Int} (h : Own B w v zs) : Own 0 w v zs := by
  refine ⟨h.1, ?_⟩
  rcases h.2 with h | ⟨g, cap, cur, rfl, _, r⟩
  · exact .inl h
  · exact .inr ⟨g, cap, cur, rfl, Nat.zero_le _, r⟩

/-- the copy is made, at a step of a region that draws its order -/
theorem step_copied {W : World} {ad : Addr} {cap : Nat} {zs : List Int} (hr : RowU W (some ad) zs) (hp : 0 < zs.length) (hz : zs.length ≤ 1048576)
    {ops : Array Oper} {o : Oper} {a : Act} {w3 : World} {K : Act → World → Prop} {Q : Exit → Act → World → Prop} {E : Prop} (s x : Operand) (hgd : o.guard = none)
    (ho : o.op = .call { callee := .builtin .append, args := #[s, x], argTypes := #[43, 43] }) (hs : a.eval s = .slice (some ⟨W.heap.size, 0, none⟩) 0 0) (hx : a.eval x = .slice (some ad) zs.length cap)
    (hf : Fr New W w3) (hb : w3.heap[W.heap.size]? = some (.cells #[] 50 (0, 0)))
    (h : ∀ g c w', Own 0 w' (.slice (some ⟨g, 0, none⟩) zs.length c) zs → Fr New W w' → K (a.put o.dst (.slice (some ⟨g, 0, none⟩) zs.length c)) w') :
    if Region.wanted o (yielded ops a.tmps) = true then Oper.wp Tryz.prog o a w3 K Q else E := by
  obtain ⟨i0, hi, hz0, hz1, hz2⟩ := info_parts Tryz.info50
  have hown : w3.ownsRow 0 50 1 (.slice (some ⟨W.heap.size, 0, none⟩) 0 0) 0 [] := ⟨by simp, .inr ⟨W.heap.size, 0, #[], rfl, Nat.zero_le _, hb, Nat.le_refl _, by decide, by simp, by simp⟩⟩
  obtain ⟨ad', had, hn⟩ := news_row (rowU_fr hf hr (fun _ _ h => h)) (by simpa using hp)
  cases had
  refine step_append_lies w3 hgd s x 43 ho 0 50 i0 _ 1 8 Tryz.underlying43 hi hz0 hz1 hz2 rfl (by decide) _ 0 [] hs hown ad zs.length cap (zs.map (Value.int .u64)) hx (by simp) hn (ints_oneU zs) hp (by unfold maxLen; omega) (by omega) (Nat.zero_le _) _ rfl ?_
  intro g c w4 ho4 hg4 _ _
  have := h g c w4 (by simpa using ho4) (hf.grown hg4 (fun k hk hv => by simp [Value.ownBlock] at hv; omega))
  simpa using this

/-- behind the append to the images -/
structure LateI (W : World) (b n : Nat) (vws vhs vb vss vos : Value) (v : Value) (zs : List Int) (w6 : World) : Prop where
  bk : Wb w6 b vws vhs n vb vss vos
  own : Own 0 w6 v zs
  fr : Fr (TurnedI b vws) W w6

theorem step_image {W : World} {b n : Nat} {vws vhs vb vss vos : Value} {B nw : Nat} {xs : List Value} (hbk : Wb W b vws vhs n vb vss vos) (hws : W.ownsRow B 43 1 vws nw xs) (hB : B ≤ W.heap.size) (hnw : nw < 12)
    {v : Value} {zs : List Int} {w5 : World} (hf : Fr New W w5) (hv : Own 0 w5 v zs) (h1c : v.oneCell' = true) (N : Nat) (hb : w5.heap[N]? = some (.cells #[v] 43 (0, 0)))
    {ops : Array Oper} {o : Oper} {a : Act} {K : Act → World → Prop} {Q : Exit → Act → World → Prop} {E : Prop} (s x : Operand) (hgd : o.guard = none)
    (ho : o.op = .call { callee := .builtin .append, args := #[s, x], argTypes := #[80, 80] }) (hs : a.eval s = vws) (hx : a.eval x = .slice (some ⟨N, 0, none⟩) 1 1)
    (h : ∀ g c w', w'.ownsRow B 43 1 (.slice (some ⟨g, 0, none⟩) (nw + 1) c) (nw + 1) (xs ++ [v]) → LateI W b n vws vhs vb vss vos v zs w' → K (a.put o.dst (.slice (some ⟨g, 0, none⟩) (nw + 1) c)) w') :
    if Region.wanted o (yielded ops a.tmps) = true then Oper.wp Tryz.prog o a w5 K Q else E := by
  obtain ⟨i0, hi, hz0, hz1, hz2⟩ := info_parts Tryz.info43
  have hown := hf.owns hws (fun _ _ h => h)
  refine step_append_lies w5 hgd s x 80 ho B 43 i0 _ 1 24 Tryz.underlying80 hi hz0 hz1 hz2 rfl (by decide) vws nw xs hs hown ⟨N, 0, none⟩ 1 1 [v] hx rfl (World.news_of_block hb) (by simpa using h1c) (by decide) (by unfold maxLen; omega) (by omega) (by have := hf.size; omega) _ rfl ?_
  intro g c w6 ho6 hg6 _ _
  have hf6 : Fr (fun k => vws.ownBlock = some k) w5 w6 := (Fr.refl _ _).grown hg6 (fun k _ hk => hk)
  have hX : ∀ g cur t, t ≠ 43 → w5.heap[g]? = some (.cells cur t (0, 0)) → ¬ vws.ownBlock = some g := by
    intro g cur t ht hg hv
    rcases hown.2 with ⟨rfl, _⟩ | ⟨g', cap, cur', rfl, _, hh, _⟩
    · cases hv
    · simp [Value.ownBlock] at hv; subst hv
      rw [hh] at hg
      simp only [Option.some.injEq, Obj.cells.injEq] at hg
      exact ht hg.2.1.symm
  exact h g c w6 ho6 ⟨hf6.heap (hf.heap hbk id) (hX _ _ _ (by decide) (hf.heap hbk id)), own_fr hv hf6 (fun g cur hg => hX g cur _ (by decide) hg), ((Fr.refl _ _).same hf).trans hf6 (fun j _ hj => .inr hj)⟩

theorem LateI.last {W : World} {b n : Nat} {vws vhs vb vss vos v : Value} {zs : List Int} {w6 : World} (h : LateI W b n vws vhs vb vss vos v zs w6) {B nw : Nat} {vws' : Value} {xs : List Value} (ho : w6.ownsRow B 43 1 vws' nw xs) :
    Wb (w6.setCell ⟨b, 0, none⟩ vws') b vws' vhs n vb vss vos ∧ (w6.setCell ⟨b, 0, none⟩ vws').ownsRow B 43 1 vws' nw xs ∧ Own 0 (w6.setCell ⟨b, 0, none⟩ vws') v zs ∧ Fr (TurnedI b vws) W (w6.setCell ⟨b, 0, none⟩ vws') := by
  have hf : Fr (fun k => k = b) w6 (w6.setCell ⟨b, 0, none⟩ vws') := (Fr.refl (fun k => k = b) w6).setCell (p := ⟨b, 0, none⟩) (fun _ => rfl) _
  have hX : ∀ g cur t, t ≠ 88 → w6.heap[g]? = some (.cells cur t (0, 0)) → ¬ g = b := by
    rintro g cur t ht hg rfl
    rw [h.bk] at hg
    simp only [Option.some.injEq, Obj.cells.injEq] at hg
    exact ht hg.2.1.symm
  refine ⟨(heap_setCell_same w6 b 0 _ _ _ h.bk).trans (by simp), hf.owns ho ?_, own_fr h.own hf (fun g cur hg => hX g cur _ (by decide) hg), h.fr.setCell (fun _ => .inl rfl) _⟩
  intro g hg
  rcases ho.2 with ⟨rfl, _⟩ | ⟨g', cap, cur, rfl, _, hh, _⟩
  · cases hg
  · simp [Value.ownBlock] at hg; subst hg; exact hX _ _ _ (by decide) hh

theorem own_slice {w : World} {B : Nat} {e : TypeId} {size : Nat} {v : Value} {n : Nat} {xs : List Value} (h : w.ownsRow B e size v n xs) : ∃ a c, v = .slice a n c := by
  rcases h.2 with ⟨rfl, rfl⟩ | ⟨g, cap, cur, rfl, _⟩
  · exact ⟨_, _, rfl⟩
  · exact ⟨_, _, rfl⟩

set_option maxHeartbeats 1000000 in
set_option maxRecDepth 1000000 in
theorem image_any (b n : Nat) (vws vhs vb vss vos : Value) (ad : Addr) (cap : Nat) (zs : List Int) (B nw : Nat) (xs : List Value) (w : World)
    (hbk : Wb w b vws vhs n vb vss vos) (hws : w.ownsRow B 43 1 vws nw xs) (hB : B ≤ w.heap.size) (hnw : nw ≤ 12) (hr : RowU w (some ad) zs) (hp : 0 < zs.length) (hz : zs.length < 1000) :
    Calls Tryz.prog 89 #[.pointer (some ⟨b, 0, none⟩), .slice (some ad) zs.length cap] w fun e w' => e = .returned (.tuple #[]) ∧ ∃ vws' nw' xs', nw' ≤ 12 ∧
      Wb w' b vws' vhs n vb vss vos ∧ w'.ownsRow B 43 1 vws' nw' xs' ∧ Fr (TurnedI b vws) w w' := by
  obtain ⟨aw, cw, hvw⟩ := own_slice hws
  obtain ⟨hcb, hzb⟩ := block_cells hbk
  have hbW : b < w.heap.size := lt_of_block hbk
  by_cases h12 : nw < 12
  · have hd : decide ((nw : Int) < 12) = true := by simp; omega
    subst hvw
    go_enter Tryz.func89, Tryz.ntmps89
    go_wp2
    go_region_law (first
      | (refine step_copied (W := w) (cap := cap) hr hp (by omega) (.tmp 20) (.tmp 21) rfl rfl (by simp [Act.eval]) (by simp [Act.eval]) (by first | exact (Fr.refl New w).alloc _ | exact (Fr.refl New w).drew.alloc _) (by first | exact Go.Deep.blk_alloc_new w _ | exact Go.Deep.blk_alloc_new w.drew _) ?_; intro g c w4 ho4 hf4; obtain ⟨hc4, hz4⟩ := block_cells (hf4.heap hbk id); have hb4 := lt_of_block (hf4.heap hbk id))
      | (refine step_image hbk hws hB h12 (hf4.alloc _) (own_fr ho4 ((Fr.refl New _).alloc _) (fun _ _ _ h => h)) rfl w4.heap.size (Go.Deep.blk_alloc_new w4 _) (.tmp 19) (.tmp 23) rfl rfl (by simp [Act.eval]) (by simp [Act.eval]) ?_; intro g6 c6 w6 ho6 HL; obtain ⟨hc6, hf6⟩ := block_cells HL.bk))
    all_goals
      obtain ⟨b1, b2, _, b4⟩ := HL.last ho6
      go_end0
      exact ⟨rfl, _, _, _, by omega, b1, b2, b4⟩
  · have hd : decide ((nw : Int) < 12) = false := by simp; omega
    subst hvw
    go_enter Tryz.func89, Tryz.ntmps89
    go_wp2
    go_end0
    exact ⟨rfl, _, nw, xs, hnw, hbk, hws, Fr.refl _ _⟩
end Go.Proofs.YtbagcjlimdilpaaGreat
/- The walk of the book's 'looks': where every list that came out is full of its mark, it says so. -/
namespace Go.Proofs.YtbagcjlimdilpaaGreat
open Go.RowKit

/-- an entry of the book: a list, three longer ones, the mark -/
structure Entry where
  l : Value
  a : Value
  b : Value
  c : Value
  m : Int
def Entry.cells (e : Entry) : List Value := [e.l, e.a, e.b, e.c, .int .u64 e.m]
def Entry.good (w : World) (e : Entry) : Prop := Full w e.l e.m ∧ Full w e.a e.m ∧ Full w e.b e.m ∧ Full w e.c e.m
def cellsOf (es : List Entry) : List Value := es.flatMap Entry.cells
theorem cellsOf_snoc (es : List Entry) (e : Entry) : cellsOf (es ++ [e]) = cellsOf es ++ e.cells := by simp [cellsOf]
theorem cellsOf_len (es : List Entry) : (cellsOf es).length = es.length * 5 := by
  induction es with
  | nil => rfl
  | cons e r ih => simp only [cellsOf, List.flatMap_cons, List.length_append] at *; rw [ih]; simp [Entry.cells]; omega
theorem cellsOf_get (es : List Entry) (i j : Nat) (hi : i < es.length) (hj : j < 5) : (cellsOf es)[i * 5 + j]? = (es[i]).cells[j]? := by
  induction es generalizing i with
  | nil => simp at hi
  | cons e r ih =>
    simp only [cellsOf, List.flatMap_cons]
    cases i with
    | zero => rw [List.getElem?_append_left (by simp [Entry.cells]; omega)]; simp
    | succ i =>
      rw [List.getElem?_append_right (by simp [Entry.cells]; omega)]
      have := ih i (by simpa using hi)
      rw [show (i + 1) * 5 + j - e.cells.length = i * 5 + j by simp [Entry.cells]; omega]
      exact this
theorem Entry.good_fr {T : Nat → Prop} {w w' : World} {e : Entry} (h : e.good w) (hf : Fr T w w') (hT : ∀ g cur, w.heap[g]? = some (.cells cur 50 (0, 0)) → ¬ T g) : e.good w' :=
  ⟨h.1.fr hf hT, h.2.1.fr hf hT, h.2.2.1.fr hf hT, h.2.2.2.fr hf hT⟩

theorem full_call {w : World} {v : Value} {m : Int} (h : Full w v m) : Calls Tryz.prog 91 #[v, .int .u64 m] w fun e w' => e = .returned (.bool true) ∧ w' = w := by
  obtain ⟨k, h⟩ := h
  obtain ⟨a, cap, rfl, hm, hr, _⟩ := own_row h
  rw [List.length_replicate] at hm ⊢
  exact full_true a k cap m w hm hr

theorem full_slice {w : World} {v : Value} {m : Int} (h : Full w v m) : ∃ a n c, v = .slice a n c := by
  obtain ⟨k, h⟩ := h
  obtain ⟨a, c, h⟩ := own_slice h
  exact ⟨a, _, c, h⟩
theorem full_alloc {w : World} {v : Value} {m : Int} (h : Full w v m) (o : Obj) : Full (w.alloc o) v m := h.fr ((Fr.refl New w).alloc o) (fun _ _ _ h => h)

set_option maxHeartbeats 1000000 in
set_option maxRecDepth 1000000 in
theorem looks_true (b n : Nat) (vws vhs vb : Value) (es : List Entry) (B : Nat) (w : World) (hbk : Wb w b vws vhs n vb (.slice none 0 0) (.slice none 0 0))
    (hown : w.ownsRow B 146 5 vb es.length (cellsOf es)) (hn : es.length ≤ 1073741824) (hg : ∀ e ∈ es, e.good w) :
    Calls Tryz.prog 43 #[.pointer (some ⟨b, 2, none⟩)] w fun e w' => e = .returned (.bool true) ∧ Fr New w w' := by
  obtain ⟨av, cv, hvb⟩ := own_slice hown
  subst hvb
  go_enter Tryz.func43, Tryz.ntmps43
  go_wp2
  go_loopw [3, 4] (fun t i wr => ∃ k : Nat, k ≤ es.length ∧ t = .bool true ∧ i = .int .i64 k ∧ Fr New w wr) (fun _ i _ => es.length - (intOf i).toNat)
  case atStart => exact ⟨0, Nat.zero_le _, rfl, rfl, Fr.refl _ _⟩
  case round =>
    obtain ⟨k, hk, rfl, rfl, hf⟩ := hrel
    obtain ⟨hcb, hzb⟩ := block_cells (hf.heap hbk id)
    by_cases hlt : k < es.length
    · have hr := hf.owns hown (fun _ _ h => h)
      obtain ⟨g, c, hv, _, hgl⟩ := hr.form (by omega)
      cases hv
      have hE : ∀ j, j < 5 → wr.cell? ⟨g, k * 5 + j, none⟩ = (es[k]).cells[j]? := fun j hj => (hr.cellAt (k * 5 + j) (by omega)).trans (cellsOf_get es k j hlt hj)
      have hgd := Entry.good_fr (hg es[k] (List.getElem_mem _)) hf (fun _ _ _ h => h)
      obtain ⟨e, he⟩ : ∃ e, e = es[k] := ⟨_, rfl⟩
      rw [← he] at hE hgd
      clear he
      have e0 := hE 0 (by omega)
      have e1 := hE 1 (by omega)
      have e2 := hE 2 (by omega)
      have e3 := hE 3 (by omega)
      have e4 := hE 4 (by omega)
      clear hE hr
      simp only [Entry.cells, List.getElem?_cons_zero, List.getElem?_cons_succ, Nat.add_zero] at e0 e1 e2 e3 e4
      obtain ⟨el, ea, eb, ec, em⟩ := e
      obtain ⟨h0, h1, h2, h3⟩ := hgd
      simp only at e0 e1 e2 e3 e4 h0 h1 h2 h3
      obtain ⟨a0, n0, c0, rfl⟩ := full_slice h0
      obtain ⟨a1, n1, c1, rfl⟩ := full_slice h1
      obtain ⟨a2, n2, c2, rfl⟩ := full_slice h2
      obtain ⟨a3, n3, c3, rfl⟩ := full_slice h3
      go_wp2_with (first
        | (go_at_call 91; refine calls_same (full_call (full_alloc h0 _)) ?_)
        | (go_at_call 91; refine calls_same (full_call (full_alloc h1 _)) ?_)
        | (go_at_call 91; refine calls_same (full_call (full_alloc h2 _)) ?_)
        | (go_at_call 91; refine calls_same (full_call (full_alloc h3 _)) ?_)
        | fail)
      go_roundw
      case rel => exact ⟨k + 1, by omega, rfl, by go_num, hf.alloc _⟩
      case measure => simp [intOf]; omega
    · go_wp2
      refine wp_loop_rounds 1 ?_
      rw [rounds_succ]
      go_wp2
      refine wp_loop_rounds 1 ?_
      rw [rounds_succ]
      go_wp2
      go_ret
      exact ⟨rfl, hf⟩
end Go.Proofs.YtbagcjlimdilpaaGreat
/- The state of the law's play where no heap is open: what a step keeps, apart from the walks. -/
namespace Go.Proofs.YtbagcjlimdilpaaGreat
open Go.RowKit

/-- the World at block b, its images, its book -/
structure Parts (B b c : Nat) (vws : Value) (nw : Nat) (xs : List Value) (vb : Value) (es : List Entry) (w : World) : Prop where
  bk : Wb w b vws (.slice none 0 0) c vb (.slice none 0 0) (.slice none 0 0)
  ws : w.ownsRow B 43 1 vws nw xs
  own : w.ownsRow B 146 5 vb es.length (cellsOf es)
  good : ∀ e ∈ es, e.good w
  few : nw ≤ 12
  les : es.length ≤ c
  base : B ≤ b

/-- which old blocks a step turns -/
def T0 (b : Nat) (vws vb : Value) (k : Nat) : Prop := k = b ∨ vws.ownBlock = some k ∨ vb.ownBlock = some k

section
variable {B b c : Nat} {vws : Value} {nw : Nat} {xs : List Value} {vb : Value} {es : List Entry} {w : World}

theorem type_ne {w : World} {g g' : Nat} {c c' : Array Value} {t t' : TypeId} (h : w.heap[g]? = some (.cells c t (0, 0))) (h' : w.heap[g']? = some (.cells c' t' (0, 0))) (ht : t ≠ t') : g ≠ g' := by
  rintro rfl
  rw [h] at h'
  simp only [Option.some.injEq, Obj.cells.injEq] at h'
  exact ht h'.2.1
theorem own_block {w : World} {B : Nat} {e : TypeId} {size : Nat} {v : Value} {n : Nat} {ys : List Value} (h : w.ownsRow B e size v n ys) {g : Nat} (hg : v.ownBlock = some g) : B ≤ g ∧ ∃ cur, w.heap[g]? = some (.cells cur e (0, 0)) := by
  rcases h.2 with ⟨rfl, _⟩ | ⟨g', cap, cur, rfl, hb, hh, _⟩
  · cases hg
  · simp [Value.ownBlock] at hg; subst hg; exact ⟨hb, cur, hh⟩

theorem Parts.notU (P : Parts B b c vws nw xs vb es w) : ∀ g cur, w.heap[g]? = some (.cells cur 50 (0, 0)) → ¬ T0 b vws vb g := by
  rintro g cur hg (rfl | h | h)
  · exact type_ne hg P.bk (by decide) rfl
  · obtain ⟨_, cur', hh⟩ := own_block P.ws h; exact type_ne hg hh (by decide) rfl
  · obtain ⟨_, cur', hh⟩ := own_block P.own h; exact type_ne hg hh (by decide) rfl
theorem Parts.old (P : Parts B b c vws nw xs vb es w) : ∀ k, k < B → ¬ T0 b vws vb k := by
  rintro k hk (rfl | h | h)
  · have := P.base; omega
  · have := (own_block P.ws h).1; omega
  · have := (own_block P.own h).1; omega
theorem Parts.lt (P : Parts B b c vws nw xs vb es w) : b < w.heap.size := lt_of_block P.bk
theorem Parts.size (P : Parts B b c vws nw xs vb es w) : B ≤ w.heap.size := by have := P.lt; have := P.base; omega
theorem Parts.fr (P : Parts B b c vws nw xs vb es w) {w' : World} (hf : Fr New w w') : Parts B b c vws nw xs vb es w' :=
  ⟨hf.heap P.bk id, hf.owns P.ws (fun _ _ h => h), hf.owns P.own (fun _ _ h => h), fun e he => Entry.good_fr (P.good e he) hf (fun _ _ _ h => h), P.few, P.les, P.base⟩

/-- behind the book's 'words' -/
theorem Parts.words (P : Parts B b c vws nw xs vb es w) {w4 w5 : World} (hf : Fr New w w4) {ao : Option Addr} (hao : ∀ g, ao = some ⟨g, 0, none⟩ → w.heap.size ≤ g) {vb' l0 l1 l2 l3 : Value} {m : Int}
    (b1 : Wb w5 b vws (.slice none 0 0) (c + 1) vb' (.slice none 0 0) (.slice none 0 0)) (b2 : w5.ownsRow B 146 5 vb' (es.length + 1) (cellsOf es ++ [l0, l1, l2, l3, .int .u64 m])) (b3 : ∀ v ∈ [l0, l1, l2, l3], Full w5 v m)
    (b4 : Fr (Turned b ao vb) w4 w5) : Parts B b (c + 1) vws nw xs vb' (es ++ [⟨l0, l1, l2, l3, m⟩]) w5 ∧ Fr (T0 b vws vb) w w5 := by
  have hfr : Fr (T0 b vws vb) w w5 := ((Fr.refl _ _).same hf).trans b4 (fun j hj ht => by
    rcases ht with rfl | h | h
    · exact .inl rfl
    · have := hao j h; omega
    · exact .inr (.inr h))
  refine ⟨⟨b1, b4.owns (hf.owns P.ws (fun _ _ h => h)) ?_, by simpa [cellsOf_snoc, Entry.cells] using b2, ?_, P.few, by have := P.les; simp; omega, P.base⟩, hfr⟩
  · rintro g hg (rfl | h | h)
    · obtain ⟨_, cur, hh⟩ := own_block P.ws hg; exact type_ne hh P.bk (by decide) rfl
    · have := (P.ws.lt g hg).2; have := hao g h; omega
    · obtain ⟨_, cur, hh⟩ := own_block P.ws hg; obtain ⟨_, cur', hh'⟩ := own_block P.own h; exact type_ne hh hh' (by decide) rfl
  · intro e he
    rcases List.mem_append.1 he with he | he
    · exact Entry.good_fr (P.good e he) hfr P.notU
    · obtain rfl : e = ⟨l0, l1, l2, l3, m⟩ := by simpa using he
      exact ⟨b3 _ (by simp), b3 _ (by simp), b3 _ (by simp), b3 _ (by simp)⟩

/-- behind 'image' -/
theorem Parts.image (P : Parts B b c vws nw xs vb es w) {w' : World} {vws' : Value} {nw' : Nat} {xs' : List Value} (hn : nw' ≤ 12)
    (b1 : Wb w' b vws' (.slice none 0 0) c vb (.slice none 0 0) (.slice none 0 0)) (b2 : w'.ownsRow B 43 1 vws' nw' xs') (b4 : Fr (TurnedI b vws) w w') : Parts B b c vws' nw' xs' vb es w' := by
  refine ⟨b1, b2, b4.owns P.own ?_, fun e he => Entry.good_fr (P.good e he) b4 ?_, hn, P.les, P.base⟩
  · rintro g hg (rfl | h)
    · obtain ⟨_, cur, hh⟩ := own_block P.own hg; exact type_ne hh P.bk (by decide) rfl
    · obtain ⟨_, cur, hh⟩ := own_block P.own hg; obtain ⟨_, cur', hh'⟩ := own_block P.ws h; exact type_ne hh hh' (by decide) rfl
  · intro g cur hg h
    exact P.notU g cur hg (by rcases h with h | h; exact .inl h; exact .inr (.inl h))
theorem Parts.imageFr {w5 w6 : World} (h5 : Fr (T0 b vws vb) w w5) (h6 : Fr (TurnedI b vws) w5 w6) : Fr (T0 b vws vb) w w6 :=
  h5.trans h6 (fun j _ ht => by rcases ht with h | h; exact .inl h; exact .inr (.inl h))
end

/-- the state, whatever it holds -/
def Inv (B b c : Nat) (w : World) : Prop := ∃ vws nw xs vb es, Parts B b c vws nw xs vb es w

end Go.Proofs.YtbagcjlimdilpaaGreat
/- The walk of the law's 'image', of words of whatever number: what is kept is a copy of them. -/
namespace Go.Proofs.YtbagcjlimdilpaaGreat
open Go.RowKit
attribute [local go_sem ↓] Go.wp_at_zero Go.wp_at_succ

theorem own_empty {w : World} {g : Nat} (hb : w.heap[g]? = some (.cells #[] 50 (0, 0))) : Own 0 w (.slice (some ⟨g, 0, none⟩) 0 0) [] :=
  ⟨by simp, .inr ⟨g, 0, #[], rfl, Nat.zero_le _, hb, Nat.le_refl _, by decide, by simp, by simp⟩⟩

/-- nothing is copied, at a step of a region that draws its order -/
theorem step_copied0 {W : World} {ad : Addr} {cap : Nat}
    {ops : Array Oper} {o : Oper} {a : Act} {w3 : World} {K : Act → World → Prop} {Q : Exit → Act → World → Prop} {E : Prop} (s x : Operand) (hgd : o.guard = none)
    (ho : o.op = .call { callee := .builtin .append, args := #[s, x], argTypes := #[43, 43] }) (hs : a.eval s = .slice (some ⟨W.heap.size, 0, none⟩) 0 0) (hx : a.eval x = .slice (some ad) 0 cap)
    (hf : Fr New W w3) (hb : w3.heap[W.heap.size]? = some (.cells #[] 50 (0, 0)))
    (h : ∀ g c w', Own 0 w' (.slice (some ⟨g, 0, none⟩) 0 c) [] → Fr New W w' → K (a.put o.dst (.slice (some ⟨g, 0, none⟩) 0 c)) w') :
    if Region.wanted o (yielded ops a.tmps) = true then Oper.wp Tryz.prog o a w3 K Q else E := by
  obtain ⟨i0, hi, hz0, hz1, hz2⟩ := info_parts Tryz.info50
  refine step_append_room hgd s x 43 ho 50 i0 1 Tryz.underlying43 hi hz1 W.heap.size 0 0 0 hs ad 0 cap [] hx rfl (fun j u h => by simp at h) (fun u h => by simp at h) (Nat.le_refl _) (fun j h => by simp at h) ?_
  exact h W.heap.size 0 w3 (own_empty hb) hf
/-- what 'image' leaves -/
def Kept (zs : List Int) (xs xs' : List Value) (w' : World) : Prop := xs' = xs ∨ (zs.length < 1000 ∧ ∃ v', xs' = xs ++ [v'] ∧ Own 0 w' v' zs)

set_option maxHeartbeats 2000000 in
set_option maxRecDepth 1000000 in
theorem image2_any (b n : Nat) (vws vhs vb vss vos : Value) (ad : Addr) (cap : Nat) (zs : List Int) (B nw : Nat) (xs : List Value) (w : World)
    (hbk : Wb w b vws vhs n vb vss vos) (hws : w.ownsRow B 43 1 vws nw xs) (hB : B ≤ w.heap.size) (hnw : nw ≤ 12) (hr : RowU w (some ad) zs) (hz : zs.length ≤ 2097152) :
    Calls Tryz.prog 89 #[.pointer (some ⟨b, 0, none⟩), .slice (some ad) zs.length cap] w fun e w' => e = .returned (.tuple #[]) ∧ ∃ vws' nw' xs', nw' ≤ 12 ∧ nw ≤ nw' ∧
      Wb w' b vws' vhs n vb vss vos ∧ w'.ownsRow B 43 1 vws' nw' xs' ∧ Kept zs xs xs' w' ∧ Fr (TurnedI b vws) w w' := by
  obtain ⟨aw, cw, hvw⟩ := own_slice hws
  obtain ⟨hcb, hzb⟩ := block_cells hbk
  have hbW : b < w.heap.size := lt_of_block hbk
  by_cases h12 : nw < 12
  · have hd : decide ((nw : Int) < 12) = true := by simp; omega
    by_cases h1000 : zs.length < 1000
    · by_cases hp : 0 < zs.length
      · subst hvw
        go_enter Tryz.func89, Tryz.ntmps89
        go_wp2
        go_region_law (first
          | (refine step_copied (W := w) (cap := cap) hr hp (by omega) (.tmp 20) (.tmp 21) rfl rfl (by simp [Act.eval]) (by simp [Act.eval]) (by first | exact (Fr.refl New w).alloc _ | exact (Fr.refl New w).drew.alloc _) (by first | exact Go.Deep.blk_alloc_new w _ | exact Go.Deep.blk_alloc_new w.drew _) ?_; intro g c w4 ho4 hf4; obtain ⟨hc4, hz4⟩ := block_cells (hf4.heap hbk id); have hb4 := lt_of_block (hf4.heap hbk id))
          | (refine step_image hbk hws hB h12 (hf4.alloc _) (own_fr ho4 ((Fr.refl New _).alloc _) (fun _ _ _ h => h)) rfl w4.heap.size (Go.Deep.blk_alloc_new w4 _) (.tmp 19) (.tmp 23) rfl rfl (by simp [Act.eval]) (by simp [Act.eval]) ?_; intro g6 c6 w6 ho6 HL; obtain ⟨hc6, hf6⟩ := block_cells HL.bk))
        all_goals
          obtain ⟨b1, b2, b3, b4⟩ := HL.last ho6
          go_end0
          exact ⟨rfl, _, _, _, by omega, Nat.le_succ _, b1, b2, .inr ⟨h1000, _, rfl, b3⟩, b4⟩
      · obtain rfl : zs = [] := by cases zs with | nil => rfl | cons a r => simp at hp
        subst hvw
        go_enter Tryz.func89, Tryz.ntmps89
        go_wp2
        go_region_law (first
          | (refine step_copied0 (W := w) (ad := ad) (cap := cap) (.tmp 20) (.tmp 21) rfl rfl (by simp [Act.eval]) (by simp [Act.eval]) (by first | exact (Fr.refl New w).alloc _ | exact (Fr.refl New w).drew.alloc _) (by first | exact Go.Deep.blk_alloc_new w _ | exact Go.Deep.blk_alloc_new w.drew _) ?_; intro g c w4 ho4 hf4; obtain ⟨hc4, hz4⟩ := block_cells (hf4.heap hbk id); have hb4 := lt_of_block (hf4.heap hbk id))
          | (refine step_image hbk hws hB h12 (hf4.alloc _) (own_fr ho4 ((Fr.refl New _).alloc _) (fun _ _ _ h => h)) rfl w4.heap.size (Go.Deep.blk_alloc_new w4 _) (.tmp 19) (.tmp 23) rfl rfl (by simp [Act.eval]) (by simp [Act.eval]) ?_; intro g6 c6 w6 ho6 HL; obtain ⟨hc6, hf6⟩ := block_cells HL.bk))
        all_goals
          obtain ⟨b1, b2, b3, b4⟩ := HL.last ho6
          go_end0
          exact ⟨rfl, _, _, _, by omega, Nat.le_succ _, b1, b2, .inr ⟨h1000, _, rfl, b3⟩, b4⟩
    · subst hvw
      have hd2 : decide ((zs.length : Int) < 1000) = false := by simp; omega
      go_enter Tryz.func89, Tryz.ntmps89
      go_wp2
      go_end0
      exact ⟨rfl, _, nw, xs, hnw, Nat.le_refl _, hbk, hws, .inl rfl, Fr.refl _ _⟩
  · have hd : decide ((nw : Int) < 12) = false := by simp; omega
    subst hvw
    go_enter Tryz.func89, Tryz.ntmps89
    go_wp2
    go_end0
    exact ⟨rfl, _, nw, xs, hnw, Nat.le_refl _, hbk, hws, .inl rfl, Fr.refl _ _⟩
end Go.Proofs.YtbagcjlimdilpaaGreat
/- The walk of the law's 'plain' for Format and Sum: the answer is the document's. -/
namespace Go.Proofs.YtbagcjlimdilpaaGreat
open Go.RowKit

theorem words_parts {B b c : Nat} {vws : Value} {nw : Nat} {xs : List Value} {vb : Value} {es : List Entry} {w w4 : World} (P : Parts B b c vws nw xs vb es w) (hf : Fr New w w4) (hc : c ≤ 1073741823)
    (ao : Option Addr) (hao : ∀ g, ao = some ⟨g, 0, none⟩ → w.heap.size ≤ g) (zs : List Int) (len : Nat) (hlen : zs.length = len) (hz : len ≤ 1048576) (hl : LR w4 ao zs) :
    Calls Tryz.prog 88 #[.pointer (some ⟨b, 2, none⟩), .slice ao len len] w4 fun e w' => e = .returned (.tuple #[]) ∧ ∃ vb' es', Parts B b (c + 1) vws nw xs vb' es' w' ∧ Fr (T0 b vws vb) w w' ∧ Fr (Turned b ao vb) w4 w' := by
  subst hlen
  have P4 := P.fr hf
  refine (words_any b c vws _ vb _ _ ao zs B es.length (cellsOf es) w4 P4.bk hl P4.own P4.size (by omega) (by have := P.les; omega) hz).mono ?_
  rintro e w5 ⟨rfl, vb', l1, l2, l3, b1, b2, b3, b4⟩
  obtain ⟨P5, h5⟩ := P.words hf hao b1 b2 b3 b4
  exact ⟨rfl, vb', _, P5, h5, b4⟩
theorem image_parts {B b c : Nat} {vws : Value} {nw : Nat} {xs : List Value} {vb : Value} {es : List Entry} {w : World} (P : Parts B b c vws nw xs vb es w)
    (ad : Addr) (zs : List Int) (len cap : Nat) (hlen : zs.length = len) (hp : 0 < len) (hz : len < 1000) (hr : RowU w (some ad) zs) :
    Calls Tryz.prog 89 #[.pointer (some ⟨b, 0, none⟩), .slice (some ad) len cap] w fun e w' => e = .returned (.tuple #[]) ∧ ∃ vws' nw' xs', Parts B b c vws' nw' xs' vb es w' ∧ Fr (TurnedI b vws) w w' := by
  subst hlen
  refine (image_any b c vws _ vb _ _ ad cap zs B nw xs w P.bk P.ws P.size P.few hr hp hz).mono ?_
  rintro e w6 ⟨rfl, vws', nw', xs', hn, b1, b2, b4⟩
  exact ⟨rfl, vws', nw', xs', P.image hn b1 b2 b4, b4⟩
theorem same_len (a a' : Option Addr) (cap cap' : Nat) (zs : List Int) (len : Nat) (w : World) (hlen : zs.length = len) (hm : len ≤ maxLen) (ha : RowU w a zs) (hb : RowU w a' zs) :
    Calls Tryz.prog 87 #[.slice a len cap, .slice a' len cap'] w fun e w' => e = .returned (.bool true) ∧ ∃ n, w' = w.drewN n := by
  subst hlen; exact same_true a a' cap cap' zs w hm ha hb

theorem row_turned {B b c : Nat} {vws : Value} {nw : Nat} {xs : List Value} {vb : Value} {es : List Entry} {w4 w5 : World} (P : Parts B b c vws nw xs vb es w4) {ao : Option Addr} {g : Nat} {zs : List Int}
    (h : Row w4 g zs) (hf : Fr (Turned b ao vb) w4 w5) (hao : ao ≠ some ⟨g, 0, none⟩) : Row w5 g zs := by
  refine h.fr hf ?_
  rintro (rfl | h' | h')
  · exact type_ne h P.bk (by decide) rfl
  · exact hao h'
  · obtain ⟨_, cur, hh⟩ := own_block P.own h'; exact type_ne h hh (by decide) rfl

set_option maxHeartbeats 4000000 in
set_option maxRecDepth 1000000 in
theorem plain_format_yes (B b c : Nat) (A C : Int) (n : Nat) (V : Int) (Wa : Option Addr) (Wl Wc : Nat) (w : World) (hI : Inv B b c w) (hc : c ≤ 1073741823) (h1 : 1 ≤ n) (h2 : n ≤ 32) :
    Calls Tryz.prog 73 #[.pointer (some ⟨b, 0, none⟩), .agg #[.int .i64 1, .int .i64 A, .int .i64 n, .int .i64 C, .int .u64 V, .slice Wa Wl Wc]] w fun e w' => e = .returned (.bool true) ∧ Below B w w' ∧ Inv B b (c + 1) w' := by
  obtain ⟨vws, nw, xs, vb, es, P⟩ := hI
  go_enter Tryz.func73, Tryz.ntmps73
  go_wp2_with (first
    | (go_at_call 37; refine (fmt_yes n _ h1 h2).mono ?_; rintro e w1 ⟨rfl, hr1, hf1⟩; obtain ⟨hcx, hzx⟩ := block_cells (hf1.heap (Go.Deep.blk_alloc_new w _) id); have hr1' : Row w1 (w.heap.size + 1) (imgL n) := by simpa using hr1)
    | (go_at_call 119; refine (rfmt_yes n w1 h1 h2).mono ?_; rintro e w2 ⟨rfl, hr2, hf2⟩; have hr3 := hr1'.fr hf2 id; have hf3 := ((Fr.refl New w).alloc _).same (hf1.same hf2))
    | (go_at_call 87; refine (same_len _ _ _ _ (imgL n) (106 + 8 * n) w2 (imgL_len n) (by unfold maxLen; omega) hr3.rowU hr2.rowU).mono ?_; rintro e w4 ⟨rfl, n4, hw4⟩; have hf4 : Fr New w w4 := (by rw [hw4]; exact hf3.drewN _); have hr4 : Row w4 (w.heap.size + 1) (imgL n) := (by rw [hw4]; exact hr3); have hy4 : Row w4 w1.heap.size (imgL n) := (by rw [hw4]; exact hr2); clear hw4 hr3 hf3)
    | (go_at_call 88; refine (words_parts P hf4 hc (some ⟨w.heap.size + 1, 0, none⟩) (fun g hg => by simp only [Option.some.injEq, Addr.mk.injEq] at hg; omega) (imgL n) (106 + 8 * n) (imgL_len n) (by omega) (.inr ⟨_, rfl, hr4⟩)).mono ?_; rintro e w5 ⟨rfl, vb', es', P5, h5, h45⟩; have hy5 : Row w5 w1.heap.size (imgL n) := row_turned (P.fr hf4) hy4 h45 (fun hh => by simp only [Option.some.injEq, Addr.mk.injEq] at hh; have := hr1'.lt; omega))
    | (go_at_call 89; refine (image_parts P5 ⟨w1.heap.size, 0, none⟩ (imgL n) (106 + 8 * n) (106 + 8 * n) (imgL_len n) (by omega) (by omega) hy5.rowU).mono ?_; rintro e w6 ⟨rfl, vws', nw', xs', P6, h6⟩)
    | fail)
  go_ret
  exact ⟨rfl, (Parts.imageFr h5 h6).below P.size P.old, _, _, _, _, _, P6⟩

set_option maxHeartbeats 4000000 in
set_option maxRecDepth 1000000 in
theorem plain_format_no (B b c : Nat) (A C : Int) (n : Int) (V : Int) (Wa : Option Addr) (Wl Wc : Nat) (w : World) (hI : Inv B b c w) (hc : c ≤ 1073741823) (h : n < 1 ∨ 32 < n) :
    Calls Tryz.prog 73 #[.pointer (some ⟨b, 0, none⟩), .agg #[.int .i64 1, .int .i64 A, .int .i64 n, .int .i64 C, .int .u64 V, .slice Wa Wl Wc]] w fun e w' => e = .returned (.bool true) ∧ Below B w w' ∧ Inv B b (c + 1) w' := by
  obtain ⟨vws, nw, xs, vb, es, P⟩ := hI
  go_enter Tryz.func73, Tryz.ntmps73
  go_wp2_with (first
    | (go_at_call 37; refine calls_same (fmt_no n _ h) ?_)
    | (go_at_call 119; refine calls_same (rfmt_no n _ h) ?_)
    | (go_at_call 87; refine (same_len none none 0 0 [] 0 _ rfl (by decide) (rowU_nil _ _) (rowU_nil _ _)).mono ?_; rintro e w4 ⟨rfl, n4, hw4⟩; have hf4 : Fr New w w4 := (by rw [hw4]; exact ((Fr.refl New w).alloc _).drewN _); clear hw4)
    | (go_at_call 88; refine (words_parts P hf4 hc none (fun g hg => by cases hg) [] 0 rfl (by omega) (.inl ⟨rfl, rfl⟩)).mono ?_; rintro e w5 ⟨rfl, vb', es', P5, h5, _⟩)
    | fail)
  go_ret
  exact ⟨rfl, h5.below P.size P.old, _, _, _, _, _, P5⟩

theorem eight_row {w : World} {g : Nat} {zs : List Int} (hr : Row w g (withEight zs)) : RowU w (some ⟨g, 0, none⟩) zs := by
  have := rowU_take hr.rowU zs.length
  rwa [show (withEight zs).take zs.length = zs by simp [withEight]] at this

set_option maxHeartbeats 4000000 in
set_option maxRecDepth 1000000 in
theorem plain_sum (B b c : Nat) (A D C : Int) (V : Int) (Wa : Option Addr) (Wc : Nat) (zs : List Int) (w : World) (hI : Inv B b c w) (hz : zs.length ≤ 1048576) (hr : RowU w Wa zs) :
    Calls Tryz.prog 73 #[.pointer (some ⟨b, 0, none⟩), .agg #[.int .i64 2, .int .i64 A, .int .i64 D, .int .i64 C, .int .u64 V, .slice Wa zs.length Wc]] w fun e w' => e = .returned (.bool true) ∧ Below B w w' ∧ Inv B b c w' := by
  obtain ⟨vws, nw, xs, vb, es, P⟩ := hI
  have hr0 := fun o => rowU_fr ((Fr.refl New w).alloc o) hr (fun _ _ h => h)
  go_enter Tryz.func73, Tryz.ntmps73
  go_wp2_with (first
    | (go_at_call 120; refine (lent_any Wa Wc zs _ hz (hr0 _)).mono ?_; rintro e w1 ⟨rfl, hr1, hf1⟩; obtain ⟨hcx, hzx⟩ := block_cells (hf1.heap (Go.Deep.blk_alloc_new w _) id); have hr1' : Row w1 (w.heap.size + 1) (withEight zs) := (by simpa using hr1); have hW1 := rowU_fr hf1 (hr0 _) (fun _ _ h => h); have hf2 := ((Fr.refl New w).alloc _).same hf1; clear hr0 hf1)
    | (go_at_call 36; refine calls_same (sum_any _ _ _ zs w1 rfl (by unfold maxLen; omega) (eight_row hr1')) ?_)
    | (go_at_call 121; refine calls_same (rsum_any _ _ _ zs w1 rfl (by unfold maxLen; omega) hW1) ?_)
    | (go_at_call 122; refine (back_true (w.heap.size + 1) Wa Wc zs w1 hz hr1' hW1).mono ?_; rintro e w2 ⟨rfl, hf3⟩; have hf4 := hf2.trans hf3 (fun j hj ht => by omega))
    | fail)
  go_ret
  exact ⟨rfl, hf4.below P.size (fun _ _ h => h), _, _, _, _, _, P.fr hf4⟩
end Go.Proofs.YtbagcjlimdilpaaGreat
/- The state of the law's play with its images: what each image is. -/
namespace Go.Proofs.YtbagcjlimdilpaaGreat
open Go.RowKit

/-- each image is some words -/
def Imgs (w : World) (xs : List Value) : Prop := ∀ v ∈ xs, ∃ zs : List Int, Own 0 w v zs ∧ zs.length < 1000 ∧ ∀ z ∈ zs, U z
theorem Imgs.fr {T : Nat → Prop} {w w' : World} {xs : List Value} (h : Imgs w xs) (hf : Fr T w w') (hT : ∀ g cur, w.heap[g]? = some (.cells cur 50 (0, 0)) → ¬ T g) : Imgs w' xs := by
  intro v hv
  obtain ⟨zs, ho, h1, h2⟩ := h v hv
  exact ⟨zs, own_fr ho hf hT, h1, h2⟩
theorem Imgs.new {w w' : World} {xs : List Value} (h : Imgs w xs) (hf : Fr New w w') : Imgs w' xs := h.fr hf (fun _ _ _ h => h)
theorem Imgs.kept {w : World} {xs xs' : List Value} {zs : List Int} (h : Imgs w xs) (hk : Kept zs xs xs' w) (hU : ∀ z ∈ zs, U z) : Imgs w xs' := by
  rcases hk with rfl | ⟨hl, v', rfl, ho⟩
  · exact h
  · intro v hv
    rcases List.mem_append.1 hv with hv | hv
    · exact h v hv
    · obtain rfl : v = v' := by simpa using hv
      exact ⟨zs, ho, hl, hU⟩

/-- the state, whatever it holds -/
def Inv2 (B b c : Nat) (w : World) : Prop := ∃ vws nw xs vb es, Parts B b c vws nw xs vb es w ∧ Imgs w xs
theorem Inv2.new {B b c : Nat} {w w' : World} (h : Inv2 B b c w) (hf : Fr New w w') : Inv2 B b c w' := by
  obtain ⟨vws, nw, xs, vb, es, P, I⟩ := h
  exact ⟨vws, nw, xs, vb, es, P.fr hf, I.new hf⟩
theorem Inv2.size {B b c : Nat} {w : World} (h : Inv2 B b c w) : B ≤ w.heap.size := by
  obtain ⟨vws, nw, xs, vb, es, P, I⟩ := h
  exact P.size
theorem Inv2.inv {B b c : Nat} {w : World} (h : Inv2 B b c w) : Inv B b c w := by
  obtain ⟨vws, nw, xs, vb, es, P, I⟩ := h
  exact ⟨vws, nw, xs, vb, es, P⟩

theorem image2_parts {B b c : Nat} {vws : Value} {nw : Nat} {xs : List Value} {vb : Value} {es : List Entry} {w : World} (P : Parts B b c vws nw xs vb es w) (I : Imgs w xs)
    (ad : Addr) (zs : List Int) (len cap : Nat) (hlen : zs.length = len) (hz : len ≤ 2097152) (hU : ∀ z ∈ zs, U z) (hr : RowU w (some ad) zs) :
    Calls Tryz.prog 89 #[.pointer (some ⟨b, 0, none⟩), .slice (some ad) len cap] w fun e w' => e = .returned (.tuple #[]) ∧ Inv2 B b c w' ∧ Fr (TurnedI b vws) w w' := by
  subst hlen
  refine (image2_any b c vws _ vb _ _ ad cap zs B nw xs w P.bk P.ws P.size P.few hr hz).mono ?_
  rintro e w6 ⟨rfl, vws', nw', xs', hn, _, b1, b2, b3, b4⟩
  have I6 : Imgs w6 xs := I.fr b4 (fun g cur hg ht => P.notU g cur hg (by rcases ht with h | h; exact .inl h; exact .inr (.inl h)))
  exact ⟨rfl, ⟨vws', nw', xs', vb, es, P.image hn b1 b2 b4, I6.kept b3 hU⟩, b4⟩
theorem words2_parts {B b c : Nat} {vws : Value} {nw : Nat} {xs : List Value} {vb : Value} {es : List Entry} {w w4 : World} (P : Parts B b c vws nw xs vb es w) (I : Imgs w xs) (hf : Fr New w w4) (hc : c ≤ 1073741823)
    (ao : Option Addr) (hao : ∀ g, ao = some ⟨g, 0, none⟩ → w.heap.size ≤ g) (zs : List Int) (len : Nat) (hlen : zs.length = len) (hz : len ≤ 1048576) (hl : LR w4 ao zs) :
    Calls Tryz.prog 88 #[.pointer (some ⟨b, 2, none⟩), .slice ao len len] w4 fun e w' => e = .returned (.tuple #[]) ∧ ∃ vb' es', Parts B b (c + 1) vws nw xs vb' es' w' ∧ Imgs w' xs ∧ Fr (T0 b vws vb) w w' ∧ Fr (Turned b ao vb) w4 w' := by
  refine (words_parts P hf hc ao hao zs len hlen hz hl).mono ?_
  rintro e w5 ⟨rfl, vb', es', P5, h5, h45⟩
  exact ⟨rfl, vb', es', P5, I.fr h5 P.notU, h5, h45⟩

/-- one image, as it lies -/
theorem Parts.pick {B b c : Nat} {vws : Value} {nw : Nat} {xs : List Value} {vb : Value} {es : List Entry} {w : World} (P : Parts B b c vws nw xs vb es w) (I : Imgs w xs) (hn : 0 < nw) (j : Nat) (hj : j < nw) :
    ∃ gw cw av cv zs, vws = .slice (some ⟨gw, 0, none⟩) nw cw ∧ w.cell? ⟨gw, j, none⟩ = some (.slice av zs.length cv) ∧ RowU w av zs ∧ zs.length ≤ cv ∧ zs.length < 1000 ∧ ∀ z ∈ zs, U z := by
  obtain ⟨gw, cw, rfl, _, _⟩ := P.ws.form hn
  have hl := P.ws.1
  have hjx : j < xs.length := by omega
  have hc := P.ws.cellAt j (by omega)
  rw [List.getElem?_eq_getElem hjx] at hc
  obtain ⟨zs, ho, h1, h2⟩ := I xs[j] (List.getElem_mem _)
  obtain ⟨av, cv, e, _, hr, _⟩ := own_row ho
  refine ⟨gw, cw, av, cv, zs, rfl, by rw [← e]; exact hc, hr, ?_, h1, h2⟩
  rw [e] at ho
  rcases ho.2 with ⟨h', h0⟩ | ⟨g', cap', cur, h', _, _, hnc, _⟩
  · have : zs = [] := by simpa using h0
    subst this; simp
  · simp only [Value.slice.injEq] at h'
    omega
end Go.Proofs.YtbagcjlimdilpaaGreat
/- The walk of the law's 'step' for the kinds of Sums. -/
namespace Go.Proofs.YtbagcjlimdilpaaGreat
open Go.RowKit

set_option maxHeartbeats 4000000 in
set_option maxRecDepth 1000000 in
theorem step_low (B b c : Nat) (k A D C : Int) (V : Int) (Wa : Option Addr) (Wc : Nat) (zs : List Int) (w : World) (hk : k ≤ 2) (hI : Inv B b c w) (hc : c ≤ 1073741823) (hz : zs.length ≤ 1048576) (hr : RowU w Wa zs) :
    Calls Tryz.prog 42 #[.pointer (some ⟨b, 0, none⟩), .agg #[.int .i64 k, .int .i64 A, .int .i64 D, .int .i64 C, .int .u64 V, .slice Wa zs.length Wc]] w fun e w' => e = .returned (.bool true) ∧ Below B w w' ∧ ∃ c', c' ≤ c + 1 ∧ Inv B b c' w' := by
  have hIa : ∀ o, Inv B b c (w.alloc o) := fun o => by obtain ⟨vws, nw, xs, vb, es, P⟩ := hI; exact ⟨_, _, _, _, _, P.fr ((Fr.refl New w).alloc o)⟩
  have hra := fun o => rowU_fr ((Fr.refl New w).alloc o) hr (fun _ _ h => h)
  have hBs : B ≤ w.heap.size := by obtain ⟨vws, nw, xs, vb, es, P⟩ := hI; exact P.size
  have hba : ∀ o, Below B w (w.alloc o) := fun o => ((Fr.refl New w).alloc o).below hBs (fun _ _ h => h)
  by_cases h1 : k < 1
  · go_enter Tryz.func42, Tryz.ntmps42
    go_wp2
    go_ret
    exact ⟨rfl, hba _, c, by omega, hIa _⟩
  · by_cases h2 : k = 1
    · subst h2
      by_cases hD : 1 ≤ D ∧ D ≤ 32
      · obtain ⟨n, rfl⟩ := Int.eq_ofNat_of_zero_le (show 0 ≤ D by omega)
        go_enter Tryz.func42, Tryz.ntmps42
        go_wp2_with (go_at_call 73; refine (plain_format_yes B b c A C n V Wa zs.length Wc _ (hIa _) hc (by omega) (by omega)).mono ?_; rintro e w1 ⟨rfl, hb1, hI1⟩)
        go_ret
        exact ⟨rfl, (hba _).trans hb1, c + 1, by omega, hI1⟩
      · go_enter Tryz.func42, Tryz.ntmps42
        go_wp2_with (go_at_call 73; refine (plain_format_no B b c A C D V Wa zs.length Wc _ (hIa _) hc (by omega)).mono ?_; rintro e w1 ⟨rfl, hb1, hI1⟩)
        go_ret
        exact ⟨rfl, (hba _).trans hb1, c + 1, by omega, hI1⟩
    · obtain rfl : k = 2 := by omega
      go_enter Tryz.func42, Tryz.ntmps42
      go_wp2_with (go_at_call 73; refine (plain_sum B b c A D C V Wa Wc zs _ (hIa _) hz (hra _)).mono ?_; rintro e w1 ⟨rfl, hb1, hI1⟩)
      go_ret
      exact ⟨rfl, (hba _).trans hb1, c, by omega, hI1⟩

theorem looks_inv (B b c : Nat) (w : World) (hI : Inv B b c w) (hc : c ≤ 1073741824) :
    Calls Tryz.prog 43 #[.pointer (some ⟨b, 2, none⟩)] w fun e w' => e = .returned (.bool true) ∧ Below B w w' ∧ Inv B b c w' := by
  obtain ⟨vws, nw, xs, vb, es, P⟩ := hI
  refine (looks_true b c vws _ vb es B w P.bk P.own (by have := P.les; omega) P.good).mono ?_
  rintro e w' ⟨rfl, hf⟩
  exact ⟨rfl, hf.below P.size (fun _ _ h => h), _, _, _, _, _, P.fr hf⟩

/-- a step of a script, as it lies in memory -/
structure OpD where
  k : Int
  A : Int
  D : Int
  C : Int
  V : Int
  Wa : Option Addr
  Wc : Nat
  zs : List Int

/-- the cells of a step -/
def OpD.cells (o : OpD) : List Value := [.int .i64 o.k, .int .i64 o.A, .int .i64 o.D, .int .i64 o.C, .int .u64 o.V, .slice o.Wa o.zs.length o.Wc]

/-- a script lies at ⟨sb, so⟩ -/
def Script (w : World) (sb so : Nat) (ops : List OpD) : Prop :=
  ∀ i (h : i < ops.length), (∀ j, j < 6 → w.cell? ⟨sb, so + i * 6 + j, none⟩ = (ops[i]).cells[j]?) ∧ (ops[i]).zs.length ≤ 1048576 ∧ RowU w (ops[i]).Wa (ops[i]).zs

theorem rowU_below {w w' : World} (h : Below w.heap.size w w') {a : Option Addr} {zs : List Int} (hr : RowU w a zs) : RowU w' a zs := by
  intro i hi
  obtain ⟨x, hx, hc⟩ := hr i hi
  exact ⟨x, hx, (h.cell (World.block_lt_of_cell? w _ hc)).trans hc⟩

end Go.Proofs.YtbagcjlimdilpaaGreat
/- The walk of 'plays' and of the law Sums, over any script that lies in memory. -/
namespace Go.Proofs.YtbagcjlimdilpaaGreat
open Go.RowKit

theorem inv_start (w : World) : Inv w.heap.size w.heap.size 0 (w.alloc (.cells #[.slice none 0 0, .slice none 0 0, .int .i64 0, .slice none 0 0, .slice none 0 0, .slice none 0 0] 88)) :=
  ⟨.slice none 0 0, 0, [], .slice none 0 0, [], ⟨Go.Deep.blk_alloc_new w _, World.ownsRow_nil _ _ _ _, World.ownsRow_nil _ _ _ _, fun e he => absurd he (by simp), by omega, Nat.le_refl _, Nat.le_refl _⟩⟩

theorem first_step (w : World) :
    Calls Tryz.prog 42 #[.pointer (some ⟨w.heap.size, 0, none⟩), .agg #[.int .i64 1, .int .i64 0, .int .i64 4, .int .i64 0, .int .u64 0, .slice none 0 0]] (w.alloc (.cells #[.slice none 0 0, .slice none 0 0, .int .i64 0, .slice none 0 0, .slice none 0 0, .slice none 0 0] 88))
      fun e w' => e = .returned (.bool true) ∧ Below w.heap.size w w' ∧ ∃ c', c' ≤ 1 ∧ Inv w.heap.size w.heap.size c' w' :=
  (step_low w.heap.size w.heap.size 0 1 0 4 0 0 none 0 [] _ (by omega) (inv_start w) (by omega) (by decide) (rowU_nil _ _)).mono (by
    rintro e w' ⟨rfl, hb, c', hc, hI⟩
    exact ⟨rfl, (((Fr.refl New w).alloc _).below (Nat.le_refl _) (fun _ _ h => h)).trans hb, c', by omega, hI⟩)

set_option maxHeartbeats 400000 in
set_option maxRecDepth 1000000 in
theorem plays_low (a0 : Option Addr) (cap : Nat) (ops : List OpD) (w : World) (hlen : ops.length ≤ 1048576) (ha : 0 < ops.length → ∃ sb so, a0 = some ⟨sb, so, none⟩ ∧ Script w sb so ops) :
    Calls Tryz.prog 14 #[.slice a0 ops.length cap, .int .i64 2] w fun e w' => e = .returned (.bool true) ∧ Below w.heap.size w w' := by
  go_enter Tryz.func14, Tryz.ntmps14
  go_wp2_with (first
    | (go_at_call 42; refine (first_step w).mono ?_; rintro e w1 ⟨rfl, hb1, c1, hc1, hI1⟩)
    | fail)
  go_loopw [6, 11] (fun t i wr => ∃ k c : Nat, k ≤ ops.length ∧ t = .bool true ∧ i = .int .i64 k ∧ c ≤ k + 1 ∧ Inv w.heap.size w.heap.size c wr ∧ Below w.heap.size w wr) (fun _ i _ => ops.length - (intOf i).toNat)
  case atStart => exact ⟨0, c1, Nat.zero_le _, rfl, rfl, hc1, hI1, hb1⟩
  case round =>
    obtain ⟨k, c, hk, rfl, rfl, hck, hI, hb⟩ := hrel
    clear hI1 hb1 hc1
    by_cases hlt : k < ops.length
    · have hd : decide ((k : Int) < (ops.length : Int)) = true := by simp; omega
      obtain ⟨sb, so, rfl, hS⟩ := ha (by omega)
      obtain ⟨hE, hz, hr⟩ := hS k hlt
      obtain ⟨o, ho⟩ : ∃ o, o = ops[k] := ⟨_, rfl⟩
      rw [← ho] at hE hz hr
      clear ho hS ha
      have hrw := rowU_below hb hr
      have hE' : ∀ j, j < 6 → wr.cell? ⟨sb, so + k * 6 + j, none⟩ = o.cells[j]? := fun j hj => by
        have h6 := hE j hj
        have hs : ∃ v, o.cells[j]? = some v := by
          have : j < o.cells.length := by simpa [OpD.cells] using hj
          exact ⟨_, List.getElem?_eq_getElem this⟩
        obtain ⟨v, hv⟩ := hs
        rw [hv] at h6 ⊢
        exact (hb.cell (World.block_lt_of_cell? w _ h6)).trans h6
      obtain ⟨ok, oA, oD, oC, oV, oa, oc, oz⟩ := o
      have e0 := hE' 0 (by omega)
      have e1 := hE' 1 (by omega)
      have e2 := hE' 2 (by omega)
      have e3 := hE' 3 (by omega)
      have e4 := hE' 4 (by omega)
      have e5 := hE' 5 (by omega)
      clear hE hE' hr
      simp only [OpD.cells, List.getElem?_cons_zero, List.getElem?_cons_succ, Nat.add_zero] at e0 e1 e2 e3 e4 e5 hz hrw
      by_cases hk2 : ok ≤ 2
      · go_wp2_with (first
          | (go_at_call 42; refine (step_low w.heap.size w.heap.size c ok oA oD oC oV oa oc oz wr hk2 hI (by omega) hz hrw).mono ?_; rintro e w2 ⟨rfl, hb2, c2, hc2, hI2⟩)
          | (go_at_call 43; refine (looks_inv w.heap.size w.heap.size c2 w2 hI2 (by omega)).mono ?_; rintro e w3 ⟨rfl, hb3, hI3⟩)
          | fail)
        go_roundw
        case rel => exact ⟨k + 1, c2, by omega, rfl, by go_num, by omega, hI3, (hb.trans hb2).trans hb3⟩
        case measure => simp [intOf]; omega
      · go_wp2
        go_roundw
        case rel => exact ⟨k + 1, c, by omega, rfl, by go_num, by omega, hI, hb⟩
        case measure => simp [intOf]; omega
    · have hd : decide ((k : Int) < (ops.length : Int)) = false := by simp; omega
      obtain ⟨vws, nw, xs, vb, es, P⟩ := hI
      obtain ⟨hcb, hzb⟩ := block_cells P.bk
      obtain ⟨aw, cw, rfl⟩ := own_slice P.ws
      by_cases hw0 : 0 < nw
      · have hd2 : decide ((0 : Int) < (nw : Int)) = true := by simp; omega
        go_wp2
        refine wp_loop_rounds 1 ?_
        rw [rounds_succ]
        go_wp2
        refine wp_loop_rounds 1 ?_
        rw [rounds_succ]
        go_wp2
        go_ret
        exact ⟨rfl, hb⟩
      · have hd2 : decide ((0 : Int) < (nw : Int)) = false := by simp; omega
        go_wp2
        refine wp_loop_rounds 1 ?_
        rw [rounds_succ]
        go_wp2
        refine wp_loop_rounds 1 ?_
        rw [rounds_succ]
        go_wp2
        go_ret
        exact ⟨rfl, hb⟩

theorem sums_walk (a0 : Option Addr) (cap : Nat) (ops : List OpD) (w : World) (hlen : ops.length ≤ 1048576) (ha : 0 < ops.length → ∃ sb so, a0 = some ⟨sb, so, none⟩ ∧ Script w sb so ops) :
    Calls Tryz.prog 3 #[.slice a0 ops.length cap] w fun e w' => e = .returned (.bool true) ∧ Below w.heap.size w w' := by
  go_enter Tryz.func3, Tryz.ntmps3
  go_wp2_with (go_at_call 14; refine (plays_low a0 cap ops w hlen ha).mono ?_; rintro e w1 ⟨rfl, hb⟩)
  go_ret
  exact ⟨rfl, hb⟩
end Go.Proofs.YtbagcjlimdilpaaGreat
/- How a script that comes in lies in memory: each step's six cells, and its words. -/
namespace Go.Proofs.YtbagcjlimdilpaaGreat
open Go.RowKit Go.ChangeShapes Go.Deep

theorem Tryz.cells91 : Tryz.prog.cellsOf 91 = 6 := by kernel_rfl
theorem Tryz.cells3 : Tryz.prog.cellsOf 3 = 1 := by kernel_rfl
theorem Tryz.cells50 : Tryz.prog.cellsOf 50 = 1 := by kernel_rfl
theorem Tryz.cells43 : Tryz.prog.cellsOf 43 = 1 := by kernel_rfl

section
variable {H : Type} {enc : TypeId × Value → H} {w : World} {base : Nat} {held : Bool}

theorem one_le (d : DataW H) : 1 ≤ Rows.uptoBulk d := by
  cases d with
  | lit l => cases l <;> simp [Rows.uptoBulk]
  | nil => simp [Rows.uptoBulk]
  | ptr d => simp [Rows.uptoBulk]
  | slice elems spare => simp [Rows.uptoBulk]
  | agg parts => simp [Rows.uptoBulk]
  | iface t d => simp [Rows.uptoBulk]
  | map entries => simp [Rows.uptoBulk]
  | held h => simp [Rows.uptoBulk]
theorem part_le {d : DataW H} {l : List (DataW H)} (h : d ∈ l) : Rows.uptoBulk d ≤ Rows.uptoBulkAll l := by
  induction l with
  | nil => cases h
  | cons x r ih =>
    simp only [Rows.uptoBulkAll]
    cases List.mem_cons.1 h with
    | inl e => subst e; omega
    | inr e => have := ih e; omega
theorem length_le (l : List (DataW H)) : l.length ≤ Rows.uptoBulkAll l := by
  induction l with
  | nil => simp [Rows.uptoBulkAll]
  | cons x r ih => have := one_le x; simp only [Rows.uptoBulkAll, List.length_cons]; omega

/-- a list of words that comes in -/
theorem open_wordlist {n : Nat} {c : Value} {y : DataW H × List MemPlace} (h : DataW.trod enc Tryz.prog w base (fun _ => true) held n 43 [c] = some y) :
    ∃ a cap zs, c = .slice a zs.length cap ∧ RowU w a zs ∧ zs.length ≤ Rows.uptoBulk y.1 := by
  rcases open_ints Tryz.underlying43 Tryz.underlying50 Tryz.cells50 h with ⟨hcs, hx⟩ | ⟨a, len, cap, zs, hcs, _, hl, hm, hz, hx, hcell, hwz⟩
  · refine ⟨none, 0, [], by simpa using hcs, rowU_nil _ _, by simp⟩
  · simp only [if_true] at hz
    have hlen : (zs.take len).length = len := by simp; omega
    refine ⟨some a, cap, zs.take len, by rw [hlen]; simpa using hcs, ?_, ?_⟩
    · intro i hi
      have hi1 : i < len := by rw [hlen] at hi; exact hi
      refine ⟨a, rfl, (hcell i (by omega)).trans ?_⟩
      rw [List.getD_eq_getElem?_getD, List.getD_eq_getElem?_getD, List.getElem?_take_of_lt hi1]
    · rw [hx]
      have := length_le (lits (H := H) .u64 (zs.take len))
      simp only [Rows.uptoBulk]
      simp only [lits, List.length_map] at this
      simp only [lits]
      omega

theorem list6 {α : Type} {l : List α} (h : l.length = 6) : ∃ a b c d e f, l = [a, b, c, d, e, f] := by
  match l, h with
  | [a, b, c, d, e, f], _ => exact ⟨a, b, c, d, e, f, rfl⟩

set_option maxRecDepth 100000 in
theorem open_op {n : Nat} {cs : List Value} {x : DataW H × List MemPlace} (h : DataW.trod enc Tryz.prog w base (fun _ => true) held n 91 cs = some x) :
    ∃ o : OpD, cs = o.cells ∧ RowU w o.Wa o.zs ∧ o.zs.length ≤ Rows.uptoBulk x.1 := by
  obtain ⟨xs, n', _, rfl, hl, hlen, hf⟩ := DataW.trod_struct Tryz.underlying91 h
  rw [Tryz.cells91] at hl
  obtain ⟨y0, y1, y2, y3, y4, y5, rfl⟩ := list6 (show xs.length = 6 from hlen)
  obtain ⟨c0, c1, c2, c3, c4, c5, rfl⟩ := list6 hl
  have h0 : DataW.trod enc Tryz.prog w base (fun _ => true) held n' 3 (([c0, c1, c2, c3, c4, c5].drop 0).take (Tryz.prog.cellsOf 3)) = some y0 := hf 0 _ rfl
  rw [Tryz.cells3] at h0
  have h1 : DataW.trod enc Tryz.prog w base (fun _ => true) held n' 3 (([c0, c1, c2, c3, c4, c5].drop 1).take (Tryz.prog.cellsOf 3)) = some y1 := hf 1 _ rfl
  rw [Tryz.cells3] at h1
  have h2 : DataW.trod enc Tryz.prog w base (fun _ => true) held n' 3 (([c0, c1, c2, c3, c4, c5].drop 2).take (Tryz.prog.cellsOf 3)) = some y2 := hf 2 _ rfl
  rw [Tryz.cells3] at h2
  have h3 : DataW.trod enc Tryz.prog w base (fun _ => true) held n' 3 (([c0, c1, c2, c3, c4, c5].drop 3).take (Tryz.prog.cellsOf 3)) = some y3 := hf 3 _ rfl
  rw [Tryz.cells3] at h3
  have h4 : DataW.trod enc Tryz.prog w base (fun _ => true) held n' 50 (([c0, c1, c2, c3, c4, c5].drop 4).take (Tryz.prog.cellsOf 50)) = some y4 := hf 4 _ rfl
  rw [Tryz.cells50] at h4
  have h5 : DataW.trod enc Tryz.prog w base (fun _ => true) held n' 43 (([c0, c1, c2, c3, c4, c5].drop 5).take (Tryz.prog.cellsOf 43)) = some y5 := hf 5 _ rfl
  rw [Tryz.cells43] at h5
  obtain ⟨k, e0, _, _⟩ := DataW.trod_int Tryz.underlying3 h0
  obtain ⟨A, e1, _, _⟩ := DataW.trod_int Tryz.underlying3 h1
  obtain ⟨D, e2, _, _⟩ := DataW.trod_int Tryz.underlying3 h2
  obtain ⟨C, e3, _, _⟩ := DataW.trod_int Tryz.underlying3 h3
  obtain ⟨V, e4, _, _⟩ := DataW.trod_int Tryz.underlying50 h4
  obtain ⟨a, cap, zs, e5, hr, hb⟩ := open_wordlist h5
  refine ⟨⟨k, A, D, C, V, a, cap, zs⟩, ?_, hr, ?_⟩
  · have g0 : c0 = .int .i64 k := by simpa using e0
    have g1 : c1 = .int .i64 A := by simpa using e1
    have g2 : c2 = .int .i64 D := by simpa using e2
    have g3 : c3 = .int .i64 C := by simpa using e3
    have g4 : c4 = .int .u64 V := by simpa using e4
    rw [g0, g1, g2, g3, g4, e5]
    rfl
  · have hp : Rows.uptoBulk y5.1 ≤ Rows.uptoBulkAll ([y0, y1, y2, y3, y4, y5].map (·.1)) := part_le (by simp)
    simp only [Rows.uptoBulk]
    exact Nat.le_trans hb (by omega)

/-- a script that comes in -/
theorem open_script {fuel : Nat} {a0 : Option Addr} {len cap : Nat} {x : DataW H × List MemPlace} (h : DataW.trod enc Tryz.prog w base (fun _ => true) held fuel 22 [.slice a0 len cap] = some x) (hb : Rows.uptoBulk x.1 ≤ 1048576) :
    ∃ ops : List OpD, ops.length = len ∧ len ≤ 1048576 ∧ (0 < ops.length → ∃ sb so, a0 = some ⟨sb, so, none⟩ ∧ Script w sb so ops) := by
  rcases open_slice Tryz.underlying22 h with ⟨hcs, _⟩ | ⟨a, l, c, m, n, D, Pl, hcs, _, hl, hm, hmm, hx, hel⟩
  · simp only [List.cons.injEq, Value.slice.injEq, and_true] at hcs
    obtain ⟨rfl, rfl, rfl⟩ := hcs
    exact ⟨[], rfl, by omega, fun h => absurd h (by simp)⟩
  · simp only [List.cons.injEq, Value.slice.injEq, and_true] at hcs
    obtain ⟨rfl, rfl, rfl⟩ := hcs
    simp only [if_true] at hmm
    subst hmm
    rw [hx] at hb
    simp only [Rows.uptoBulk] at hb
    have hD : ∀ i, i < len → Rows.uptoBulk (D i) ≤ 1048576 := fun i hi => by
      have := part_le (d := D i) (l := (List.range len).map D) (List.mem_map.2 ⟨i, by simpa using hi, rfl⟩)
      omega
    have hlen : len ≤ 1048576 := by
      have := length_le ((List.range len).map D)
      simp only [List.length_map, List.length_range] at this
      omega
    have hin : Inhabited OpD := ⟨⟨0, 0, 0, 0, 0, none, 0, []⟩⟩
    obtain ⟨f, hfp⟩ := choose_lt (α := OpD) (n := len) (p := fun i o => w.cells? base (a.add (i * 6)) 6 = some o.cells ∧ RowU w o.Wa o.zs ∧ o.zs.length ≤ 1048576) (fun i hi => by
      obtain ⟨cs', h1, h2⟩ := hel i (by omega)
      rw [Tryz.cells91] at h1
      obtain ⟨o, rfl, hr, hz⟩ := open_op h2
      exact ⟨o, h1, hr, Nat.le_trans hz (hD i hi)⟩)
    refine ⟨(List.range len).map f, by simp, hlen, fun hp => ?_⟩
    have hp' : 0 < len := by simpa using hp
    obtain ⟨sb, so, spot⟩ := a
    have hspot : spot = none := by
      obtain ⟨h1, _, _⟩ := hfp 0 hp'
      obtain ⟨_, _, h3⟩ := World.cells?_some h1
      have := h3 0 (by omega)
      rw [show ((f 0).cells)[0]? = some (.int .i64 (f 0).k) from rfl] at this
      simpa [Addr.add] using World.cell?_spot this
    subst hspot
    refine ⟨sb, so, rfl, fun i hi => ?_⟩
    have hi' : i < len := by simpa using hi
    obtain ⟨h1, h2, h3⟩ := hfp i hi'
    simp only [List.getElem_map, List.getElem_range]
    refine ⟨fun j hj => ?_, h3, h2⟩
    obtain ⟨_, _, h4⟩ := World.cells?_some h1
    have := h4 j hj
    rwa [Addr.add_lit, Addr.add_lit] at this
end
end Go.Proofs.YtbagcjlimdilpaaGreat
