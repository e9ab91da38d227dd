/- Texts that follow one another, joined. -/
import Derived.Test.YtbagcjlimdilpaaGreatKtBookW
import Derived.Test.YtbagcjlimdilpaaGreatKtJ0
import Derived.Test.YtbagcjlimdilpaaGreatKtJ1
/- The walk of the law's 'image': one more image is kept, as a copy. -/
namespace Go.Proofs.YtbagcjlimdilpaaGreat
open Go.RowKit
attribute [local go_sem ↓] Go.wp_at_zero Go.wp_at_succ

theorem Tryz.info43 : (Tryz.prog.info? 43).map (fun i => (i.zero, i.size, i.bytes)) = some (some (.slice none 0 0), 1, 24) := by kernel_rfl

/-- which old blocks 'image' turns -/
def TurnedI (b : Nat) (vws : Value) (k : Nat) : Prop := k = b ∨ vws.ownBlock = some k

theorem own_fr {T : Nat → Prop} {w w' : World} {B : Nat} {v : Value} {zs : List Int} (h : Own B w v zs) (hf : Fr T w w') (hT : ∀ g cur, w.heap[g]? = some (.cells cur 50 (0, 0)) → ¬ T g) : Own B w' v zs := by
  refine hf.owns h (fun g hg => ?_)
  rcases h.2 with ⟨rfl, _⟩ | ⟨g', cap, cur, rfl, _, hh, _⟩
  · cases hg
  · simp [Value.ownBlock] at hg; subst hg; exact hT _ cur hh
theorem own_base {w : World} {B : Nat} {v : Value} {zs : List Int} (h : Own B w v zs) : Own 0 w v zs := by
  refine ⟨h.1, ?_⟩
  rcases h.2 with h | ⟨g, cap, cur, rfl, _, r⟩
  · exact .inl h
  · exact .inr ⟨g, cap, cur, rfl, Nat.zero_le _, r⟩

/-- the copy is made, at a step of a region that draws its order -/
theorem step_copied {W : World} {ad : Addr} {cap : Nat} {zs : List Int} (hr : RowU W (some ad) zs) (hp : 0 < zs.length) (hz : zs.length ≤ 1048576)
    {ops : Array Oper} {o : Oper} {a : Act} {w3 : World} {K : Act → World → Prop} {Q : Exit → Act → World → Prop} {E : Prop} (s x : Operand) (hgd : o.guard = none)
    (ho : o.op = .call { callee := .builtin .append, args := #[s, x], argTypes := #[43, 43] }) (hs : a.eval s = .slice (some ⟨W.heap.size, 0, none⟩) 0 0) (hx : a.eval x = .slice (some ad) zs.length cap)
    (hf : Fr New W w3) (hb : w3.heap[W.heap.size]? = some (.cells #[] 50 (0, 0)))
    (h : ∀ g c w', Own 0 w' (.slice (some ⟨g, 0, none⟩) zs.length c) zs → Fr New W w' → K (a.put o.dst (.slice (some ⟨g, 0, none⟩) zs.length c)) w') :
    if Region.wanted o (yielded ops a.tmps) = true then Oper.wp Tryz.prog o a w3 K Q else E := by
  obtain ⟨i0, hi, hz0, hz1, hz2⟩ := info_parts Tryz.info50
  have hown : w3.ownsRow 0 50 1 (.slice (some ⟨W.heap.size, 0, none⟩) 0 0) 0 [] := ⟨by simp, .inr ⟨W.heap.size, 0, #[], rfl, Nat.zero_le _, hb, Nat.le_refl _, by decide, by simp, by simp⟩⟩
  obtain ⟨ad', had, hn⟩ := news_row (rowU_fr hf hr (fun _ _ h => h)) (by simpa using hp)
  cases had
  refine step_append_lies w3 hgd s x 43 ho 0 50 i0 _ 1 8 Tryz.underlying43 hi hz0 hz1 hz2 rfl (by decide) _ 0 [] hs hown ad zs.length cap (zs.map (Value.int .u64)) hx (by simp) hn (ints_oneU zs) hp (by unfold maxLen; omega) (by omega) (Nat.zero_le _) _ rfl ?_
  intro g c w4 ho4 hg4 _ _
  have := h g c w4 (by simpa using ho4) (hf.grown hg4 (fun k hk hv => by simp [Value.ownBlock] at hv; omega))
  simpa using this

/-- behind the append to the images -/
structure LateI (W : World) (b n : Nat) (vws vhs vb vss vos : Value) (v : Value) (zs : List Int) (w6 : World) : Prop where
  bk : Wb w6 b vws vhs n vb vss vos
  own : Own 0 w6 v zs
  fr : Fr (TurnedI b vws) W w6

theorem step_image {W : World} {b n : Nat} {vws vhs vb vss vos : Value} {B nw : Nat} {xs : List Value} (hbk : Wb W b vws vhs n vb vss vos) (hws : W.ownsRow B 43 1 vws nw xs) (hB : B ≤ W.heap.size) (hnw : nw < 12)
    {v : Value} {zs : List Int} {w5 : World} (hf : Fr New W w5) (hv : Own 0 w5 v zs) (h1c : v.oneCell' = true) (N : Nat) (hb : w5.heap[N]? = some (.cells #[v] 43 (0, 0)))
    {ops : Array Oper} {o : Oper} {a : Act} {K : Act → World → Prop} {Q : Exit → Act → World → Prop} {E : Prop} (s x : Operand) (hgd : o.guard = none)
    (ho : o.op = .call { callee := .builtin .append, args := #[s, x], argTypes := #[80, 80] }) (hs : a.eval s = vws) (hx : a.eval x = .slice (some ⟨N, 0, none⟩) 1 1)
    (h : ∀ g c w', w'.ownsRow B 43 1 (.slice (some ⟨g, 0, none⟩) (nw + 1) c) (nw + 1) (xs ++ [v]) → LateI W b n vws vhs vb vss vos v zs w' → K (a.put o.dst (.slice (some ⟨g, 0, none⟩) (nw + 1) c)) w') :
    if Region.wanted o (yielded ops a.tmps) = true then Oper.wp Tryz.prog o a w5 K Q else E := by
  obtain ⟨i0, hi, hz0, hz1, hz2⟩ := info_parts Tryz.info43
  have hown := hf.owns hws (fun _ _ h => h)
  refine step_append_lies w5 hgd s x 80 ho B 43 i0 _ 1 24 Tryz.underlying80 hi hz0 hz1 hz2 rfl (by decide) vws nw xs hs hown ⟨N, 0, none⟩ 1 1 [v] hx rfl (World.news_of_block hb) (by simpa using h1c) (by decide) (by unfold maxLen; omega) (by omega) (by have := hf.size; omega) _ rfl ?_
  intro g c w6 ho6 hg6 _ _
  have hf6 : Fr (fun k => vws.ownBlock = some k) w5 w6 := (Fr.refl _ _).grown hg6 (fun k _ hk => hk)
  have hX : ∀ g cur t, t ≠ 43 → w5.heap[g]? = some (.cells cur t (0, 0)) → ¬ vws.ownBlock = some g := by
    intro g cur t ht hg hv
    rcases hown.2 with ⟨rfl, _⟩ | ⟨g', cap, cur', rfl, _, hh, _⟩
    · cases hv
    · simp [Value.ownBlock] at hv; subst hv
      rw [hh] at hg
      simp only [Option.some.injEq, Obj.cells.injEq] at hg
      exact ht hg.2.1.symm
  exact h g c w6 ho6 ⟨hf6.heap (hf.heap hbk id) (hX _ _ _ (by decide) (hf.heap hbk id)), own_fr hv hf6 (fun g cur hg => hX g cur _ (by decide) hg), ((Fr.refl _ _).same hf).trans hf6 (fun j _ hj => .inr hj)⟩

theorem LateI.last {W : World} {b n : Nat} {vws vhs vb vss vos v : Value} {zs : List Int} {w6 : World} (h : LateI W b n vws vhs vb vss vos v zs w6) {B nw : Nat} {vws' : Value} {xs : List Value} (ho : w6.ownsRow B 43 1 vws' nw xs) :
    Wb (w6.setCell ⟨b, 0, none⟩ vws') b vws' vhs n vb vss vos ∧ (w6.setCell ⟨b, 0, none⟩ vws').ownsRow B 43 1 vws' nw xs ∧ Own 0 (w6.setCell ⟨b, 0, none⟩ vws') v zs ∧ Fr (TurnedI b vws) W (w6.setCell ⟨b, 0, none⟩ vws') := by
  have hf : Fr (fun k => k = b) w6 (w6.setCell ⟨b, 0, none⟩ vws') := (Fr.refl (fun k => k = b) w6).setCell (p := ⟨b, 0, none⟩) (fun _ => rfl) _
  have hX : ∀ g cur t, t ≠ 88 → w6.heap[g]? = some (.cells cur t (0, 0)) → ¬ g = b := by
    rintro g cur t ht hg rfl
    rw [h.bk] at hg
    simp only [Option.some.injEq, Obj.cells.injEq] at hg
    exact ht hg.2.1.symm
  refine ⟨(heap_setCell_same w6 b 0 _ _ _ h.bk).trans (by simp), hf.owns ho ?_, own_fr h.own hf (fun g cur hg => hX g cur _ (by decide) hg), h.fr.setCell (fun _ => .inl rfl) _⟩
  intro g hg
  rcases ho.2 with ⟨rfl, _⟩ | ⟨g', cap, cur, rfl, _, hh, _⟩
  · cases hg
  · simp [Value.ownBlock] at hg; subst hg; exact hX _ _ _ (by decide) hh

theorem own_slice {w : World} {B : Nat} {e : TypeId} {size : Nat} {v : Value} {n : Nat} {xs : List Value} (h : w.ownsRow B e size v n xs) : ∃ a c, v = .slice a n c := by
  rcases h.2 with ⟨rfl, rfl⟩ | ⟨g, cap, cur, rfl, _⟩
  · exact ⟨_, _, rfl⟩
  · exact ⟨_, _, rfl⟩

set_option maxHeartbeats 1000000 in
set_option maxRecDepth 1000000 in
theorem image_any (b n : Nat) (vws vhs vb vss vos : Value) (ad : Addr) (cap : Nat) (zs : List Int) (B nw : Nat) (xs : List Value) (w : World)
    (hbk : Wb w b vws vhs n vb vss vos) (hws : w.ownsRow B 43 1 vws nw xs) (hB : B ≤ w.heap.size) (hnw : nw ≤ 12) (hr : RowU w (some ad) zs) (hp : 0 < zs.length) (hz : zs.length < 1000) :
    Calls Tryz.prog 89 #[.pointer (some ⟨b, 0, none⟩), .slice (some ad) zs.length cap] w fun e w' => e = .returned (.tuple #[]) ∧ ∃ vws' nw' xs', nw' ≤ 12 ∧
      Wb w' b vws' vhs n vb vss vos ∧ w'.ownsRow B 43 1 vws' nw' xs' ∧ Fr (TurnedI b vws) w w' := by
  obtain ⟨aw, cw, hvw⟩ := own_slice hws
  obtain ⟨hcb, hzb⟩ := block_cells hbk
  have hbW : b < w.heap.size := lt_of_block hbk
  by_cases h12 : nw < 12
  · have hd : decide ((nw : Int) < 12) = true := by simp; omega
    subst hvw
    go_enter Tryz.func89, Tryz.ntmps89
    go_wp2
    go_region_law (first
      | (refine step_copied (W := w) (cap := cap) hr hp (by omega) (.tmp 20) (.tmp 21) rfl rfl (by simp [Act.eval]) (by simp [Act.eval]) (by first | exact (Fr.refl New w).alloc _ | exact (Fr.refl New w).drew.alloc _) (by first | exact Go.Deep.blk_alloc_new w _ | exact Go.Deep.blk_alloc_new w.drew _) ?_; intro g c w4 ho4 hf4; obtain ⟨hc4, hz4⟩ := block_cells (hf4.heap hbk id); have hb4 := lt_of_block (hf4.heap hbk id))
      | (refine step_image hbk hws hB h12 (hf4.alloc _) (own_fr ho4 ((Fr.refl New _).alloc _) (fun _ _ _ h => h)) rfl w4.heap.size (Go.Deep.blk_alloc_new w4 _) (.tmp 19) (.tmp 23) rfl rfl (by simp [Act.eval]) (by simp [Act.eval]) ?_; intro g6 c6 w6 ho6 HL; obtain ⟨hc6, hf6⟩ := block_cells HL.bk))
    all_goals
      obtain ⟨b1, b2, _, b4⟩ := HL.last ho6
      go_end0
      exact ⟨rfl, _, _, _, by omega, b1, b2, b4⟩
  · have hd : decide ((nw : Int) < 12) = false := by simp; omega
    subst hvw
    go_enter Tryz.func89, Tryz.ntmps89
    go_wp2
    go_end0
    exact ⟨rfl, _, nw, xs, hnw, hbk, hws, Fr.refl _ _⟩
end Go.Proofs.YtbagcjlimdilpaaGreat
/- The walk of the book's 'looks': where every list that came out is full of its mark, it says so. -/
namespace Go.Proofs.YtbagcjlimdilpaaGreat
open Go.RowKit

/-- an entry of the book: a list, three longer ones, the mark -/
structure Entry where
  l : Value
  a : Value
  b : Value
  c : Value
  m : Int
def Entry.cells (e : Entry) : List Value := [e.l, e.a, e.b, e.c, .int .u64 e.m]
def Entry.good (w : World) (e : Entry) : Prop := Full w e.l e.m ∧ Full w e.a e.m ∧ Full w e.b e.m ∧ Full w e.c e.m
def cellsOf (es : List Entry) : List Value := es.flatMap Entry.cells
theorem cellsOf_snoc (es : List Entry) (e : Entry) : cellsOf (es ++ [e]) = cellsOf es ++ e.cells := by simp [cellsOf]
theorem cellsOf_len (es : List Entry) : (cellsOf es).length = es.length * 5 := by
  induction es with
  | nil => rfl
  | cons e r ih => simp only [cellsOf, List.flatMap_cons, List.length_append] at *; rw [ih]; simp [Entry.cells]; omega
theorem cellsOf_get (es : List Entry) (i j : Nat) (hi : i < es.length) (hj : j < 5) : (cellsOf es)[i * 5 + j]? = (es[i]).cells[j]? := by
  induction es generalizing i with
  | nil => simp at hi
  | cons e r ih =>
    simp only [cellsOf, List.flatMap_cons]
    cases i with
    | zero => rw [List.getElem?_append_left (by simp [Entry.cells]; omega)]; simp
    | succ i =>
      rw [List.getElem?_append_right (by simp [Entry.cells]; omega)]
      have := ih i (by simpa using hi)
      rw [show (i + 1) * 5 + j - e.cells.length = i * 5 + j by simp [Entry.cells]; omega]
      exact this
theorem Entry.good_fr {T : Nat → Prop} {w w' : World} {e : Entry} (h : e.good w) (hf : Fr T w w') (hT : ∀ g cur, w.heap[g]? = some (.cells cur 50 (0, 0)) → ¬ T g) : e.good w' :=
  ⟨h.1.fr hf hT, h.2.1.fr hf hT, h.2.2.1.fr hf hT, h.2.2.2.fr hf hT⟩

theorem full_call {w : World} {v : Value} {m : Int} (h : Full w v m) : Calls Tryz.prog 91 #[v, .int .u64 m] w fun e w' => e = .returned (.bool true) ∧ w' = w := by
  obtain ⟨k, h⟩ := h
  obtain ⟨a, cap, rfl, hm, hr, _⟩ := own_row h
  rw [List.length_replicate] at hm ⊢
  exact full_true a k cap m w hm hr

theorem full_slice {w : World} {v : Value} {m : Int} (h : Full w v m) : ∃ a n c, v = .slice a n c := by
  obtain ⟨k, h⟩ := h
  obtain ⟨a, c, h⟩ := own_slice h
  exact ⟨a, _, c, h⟩
theorem full_alloc {w : World} {v : Value} {m : Int} (h : Full w v m) (o : Obj) : Full (w.alloc o) v m := h.fr ((Fr.refl New w).alloc o) (fun _ _ _ h => h)

set_option maxHeartbeats 1000000 in
set_option maxRecDepth 1000000 in
theorem looks_true (b n : Nat) (vws vhs vb : Value) (es : List Entry) (B : Nat) (w : World) (hbk : Wb w b vws vhs n vb (.slice none 0 0) (.slice none 0 0))
    (hown : w.ownsRow B 146 5 vb es.length (cellsOf es)) (hn : es.length ≤ 1073741824) (hg : ∀ e ∈ es, e.good w) :
    Calls Tryz.prog 43 #[.pointer (some ⟨b, 2, none⟩)] w fun e w' => e = .returned (.bool true) ∧ Fr New w w' := by
  obtain ⟨av, cv, hvb⟩ := own_slice hown
  subst hvb
  go_enter Tryz.func43, Tryz.ntmps43
  go_wp2
  go_loopw [3, 4] (fun t i wr => ∃ k : Nat, k ≤ es.length ∧ t = .bool true ∧ i = .int .i64 k ∧ Fr New w wr) (fun _ i _ => es.length - (intOf i).toNat)
  case atStart => exact ⟨0, Nat.zero_le _, rfl, rfl, Fr.refl _ _⟩
  case round =>
    obtain ⟨k, hk, rfl, rfl, hf⟩ := hrel
    obtain ⟨hcb, hzb⟩ := block_cells (hf.heap hbk id)
    by_cases hlt : k < es.length
    · have hr := hf.owns hown (fun _ _ h => h)
      obtain ⟨g, c, hv, _, hgl⟩ := hr.form (by omega)
      cases hv
      have hE : ∀ j, j < 5 → wr.cell? ⟨g, k * 5 + j, none⟩ = (es[k]).cells[j]? := fun j hj => (hr.cellAt (k * 5 + j) (by omega)).trans (cellsOf_get es k j hlt hj)
      have hgd := Entry.good_fr (hg es[k] (List.getElem_mem _)) hf (fun _ _ _ h => h)
      obtain ⟨e, he⟩ : ∃ e, e = es[k] := ⟨_, rfl⟩
      rw [← he] at hE hgd
      clear he
      have e0 := hE 0 (by omega)
      have e1 := hE 1 (by omega)
      have e2 := hE 2 (by omega)
      have e3 := hE 3 (by omega)
      have e4 := hE 4 (by omega)
      clear hE hr
      simp only [Entry.cells, List.getElem?_cons_zero, List.getElem?_cons_succ, Nat.add_zero] at e0 e1 e2 e3 e4
      obtain ⟨el, ea, eb, ec, em⟩ := e
      obtain ⟨h0, h1, h2, h3⟩ := hgd
      simp only at e0 e1 e2 e3 e4 h0 h1 h2 h3
      obtain ⟨a0, n0, c0, rfl⟩ := full_slice h0
      obtain ⟨a1, n1, c1, rfl⟩ := full_slice h1
      obtain ⟨a2, n2, c2, rfl⟩ := full_slice h2
      obtain ⟨a3, n3, c3, rfl⟩ := full_slice h3
      go_wp2_with (first
        | (go_at_call 91; refine calls_same (full_call (full_alloc h0 _)) ?_)
        | (go_at_call 91; refine calls_same (full_call (full_alloc h1 _)) ?_)
        | (go_at_call 91; refine calls_same (full_call (full_alloc h2 _)) ?_)
        | (go_at_call 91; refine calls_same (full_call (full_alloc h3 _)) ?_)
        | fail)
      go_roundw
      case rel => exact ⟨k + 1, by omega, rfl, by go_num, hf.alloc _⟩
      case measure => simp [intOf]; omega
    · go_wp2
      refine wp_loop_rounds 1 ?_
      rw [rounds_succ]
      go_wp2
      refine wp_loop_rounds 1 ?_
      rw [rounds_succ]
      go_wp2
      go_ret
      exact ⟨rfl, hf⟩
end Go.Proofs.YtbagcjlimdilpaaGreat
/- The state of the law's play where no heap is open: what a step keeps, apart from the walks. -/
namespace Go.Proofs.YtbagcjlimdilpaaGreat
open Go.RowKit

/-- the World at block b, its images, its book -/
structure Parts (B b c : Nat) (vws : Value) (nw : Nat) (xs : List Value) (vb : Value) (es : List Entry) (w : World) : Prop where
  bk : Wb w b vws (.slice none 0 0) c vb (.slice none 0 0) (.slice none 0 0)
  ws : w.ownsRow B 43 1 vws nw xs
  own : w.ownsRow B 146 5 vb es.length (cellsOf es)
  good : ∀ e ∈ es, e.good w
  few : nw ≤ 12
  les : es.length ≤ c
  base : B ≤ b

/-- which old blocks a step turns -/
def T0 (b : Nat) (vws vb : Value) (k : Nat) : Prop := k = b ∨ vws.ownBlock = some k ∨ vb.ownBlock = some k

section
variable {B b c : Nat} {vws : Value} {nw : Nat} {xs : List Value} {vb : Value} {es : List Entry} {w : World}

theorem type_ne {w : World} {g g' : Nat} {c c' : Array Value} {t t' : TypeId} (h : w.heap[g]? = some (.cells c t (0, 0))) (h' : w.heap[g']? = some (.cells c' t' (0, 0))) (ht : t ≠ t') : g ≠ g' := by
  rintro rfl
  rw [h] at h'
  simp only [Option.some.injEq, Obj.cells.injEq] at h'
  exact ht h'.2.1
theorem own_block {w : World} {B : Nat} {e : TypeId} {size : Nat} {v : Value} {n : Nat} {ys : List Value} (h : w.ownsRow B e size v n ys) {g : Nat} (hg : v.ownBlock = some g) : B ≤ g ∧ ∃ cur, w.heap[g]? = some (.cells cur e (0, 0)) := by
  rcases h.2 with ⟨rfl, _⟩ | ⟨g', cap, cur, rfl, hb, hh, _⟩
  · cases hg
  · simp [Value.ownBlock] at hg; subst hg; exact ⟨hb, cur, hh⟩

theorem Parts.notU (P : Parts B b c vws nw xs vb es w) : ∀ g cur, w.heap[g]? = some (.cells cur 50 (0, 0)) → ¬ T0 b vws vb g := by
  rintro g cur hg (rfl | h | h)
  · exact type_ne hg P.bk (by decide) rfl
  · obtain ⟨_, cur', hh⟩ := own_block P.ws h; exact type_ne hg hh (by decide) rfl
  · obtain ⟨_, cur', hh⟩ := own_block P.own h; exact type_ne hg hh (by decide) rfl
theorem Parts.old (P : Parts B b c vws nw xs vb es w) : ∀ k, k < B → ¬ T0 b vws vb k := by
  rintro k hk (rfl | h | h)
  · have := P.base; omega
  · have := (own_block P.ws h).1; omega
  · have := (own_block P.own h).1; omega
theorem Parts.lt (P : Parts B b c vws nw xs vb es w) : b < w.heap.size := lt_of_block P.bk
theorem Parts.size (P : Parts B b c vws nw xs vb es w) : B ≤ w.heap.size := by have := P.lt; have := P.base; omega
theorem Parts.fr (P : Parts B b c vws nw xs vb es w) {w' : World} (hf : Fr New w w') : Parts B b c vws nw xs vb es w' :=
  ⟨hf.heap P.bk id, hf.owns P.ws (fun _ _ h => h), hf.owns P.own (fun _ _ h => h), fun e he => Entry.good_fr (P.good e he) hf (fun _ _ _ h => h), P.few, P.les, P.base⟩

/-- behind the book's 'words' -/
theorem Parts.words (P : Parts B b c vws nw xs vb es w) {w4 w5 : World} (hf : Fr New w w4) {ao : Option Addr} (hao : ∀ g, ao = some ⟨g, 0, none⟩ → w.heap.size ≤ g) {vb' l0 l1 l2 l3 : Value} {m : Int}
    (b1 : Wb w5 b vws (.slice none 0 0) (c + 1) vb' (.slice none 0 0) (.slice none 0 0)) (b2 : w5.ownsRow B 146 5 vb' (es.length + 1) (cellsOf es ++ [l0, l1, l2, l3, .int .u64 m])) (b3 : ∀ v ∈ [l0, l1, l2, l3], Full w5 v m)
    (b4 : Fr (Turned b ao vb) w4 w5) : Parts B b (c + 1) vws nw xs vb' (es ++ [⟨l0, l1, l2, l3, m⟩]) w5 ∧ Fr (T0 b vws vb) w w5 := by
  have hfr : Fr (T0 b vws vb) w w5 := ((Fr.refl _ _).same hf).trans b4 (fun j hj ht => by
    rcases ht with rfl | h | h
    · exact .inl rfl
    · have := hao j h; omega
    · exact .inr (.inr h))
  refine ⟨⟨b1, b4.owns (hf.owns P.ws (fun _ _ h => h)) ?_, by simpa [cellsOf_snoc, Entry.cells] using b2, ?_, P.few, by have := P.les; simp; omega, P.base⟩, hfr⟩
  · rintro g hg (rfl | h | h)
    · obtain ⟨_, cur, hh⟩ := own_block P.ws hg; exact type_ne hh P.bk (by decide) rfl
    · have := (P.ws.lt g hg).2; have := hao g h; omega
    · obtain ⟨_, cur, hh⟩ := own_block P.ws hg; obtain ⟨_, cur', hh'⟩ := own_block P.own h; exact type_ne hh hh' (by decide) rfl
  · intro e he
    rcases List.mem_append.1 he with he | he
    · exact Entry.good_fr (P.good e he) hfr P.notU
    · obtain rfl : e = ⟨l0, l1, l2, l3, m⟩ := by simpa using he
      exact ⟨b3 _ (by simp), b3 _ (by simp), b3 _ (by simp), b3 _ (by simp)⟩

/-- behind 'image' -/
theorem Parts.image (P : Parts B b c vws nw xs vb es w) {w' : World} {vws' : Value} {nw' : Nat} {xs' : List Value} (hn : nw' ≤ 12)
    (b1 : Wb w' b vws' (.slice none 0 0) c vb (.slice none 0 0) (.slice none 0 0)) (b2 : w'.ownsRow B 43 1 vws' nw' xs') (b4 : Fr (TurnedI b vws) w w') : Parts B b c vws' nw' xs' vb es w' := by
  refine ⟨b1, b2, b4.owns P.own ?_, fun e he => Entry.good_fr (P.good e he) b4 ?_, hn, P.les, P.base⟩
  · rintro g hg (rfl | h)
    · obtain ⟨_, cur, hh⟩ := own_block P.own hg; exact type_ne hh P.bk (by decide) rfl
    · obtain ⟨_, cur, hh⟩ := own_block P.own hg; obtain ⟨_, cur', hh'⟩ := own_block P.ws h; exact type_ne hh hh' (by decide) rfl
  · intro g cur hg h
    exact P.notU g cur hg (by rcases h with h | h; exact .inl h; exact .inr (.inl h))
theorem Parts.imageFr {w5 w6 : World} (h5 : Fr (T0 b vws vb) w w5) (h6 : Fr (TurnedI b vws) w5 w6) : Fr (T0 b vws vb) w w6 :=
  h5.trans h6 (fun j _ ht => by rcases ht with h | h; exact .inl h; exact .inr (.inl h))
end

/-- the state, whatever it holds -/
def Inv (B b c : Nat) (w : World) : Prop := ∃ vws nw xs vb es, Parts B b c vws nw xs vb es w

end Go.Proofs.YtbagcjlimdilpaaGreat
/- The walk of the document's 'walk': all objects, and the places of wrong headers. -/
namespace Go.Proofs.YtbagcjlimdilpaaGreat
open Go.RowKit

theorem Tryz.info190 : (Tryz.prog.info? 190).map (fun i => (i.zero, i.size, i.bytes)) = some (some (.agg #[.int .i64 0, .int .i64 0, .int .i64 0]), 3, 24) := by kernel_rfl
theorem Tryz.info3 : (Tryz.prog.info? 3).map (fun i => (i.zero, i.size, i.bytes)) = some (some (.int .i64 0), 1, 8) := by kernel_rfl

def obCells (o : Ob) : List Value := [.int .i64 o.block, .int .i64 o.span, .int .i64 o.ptrs]
def obsCells (l : List Ob) : List Value := l.flatMap obCells
theorem obsCells_snoc (l : List Ob) (o : Ob) : obsCells (l ++ [o]) = obsCells l ++ obCells o := by simp [obsCells]
/-- the list v is the objects l, in a row of its own -/
abbrev OwnO (base : Nat) (w : World) (v : Value) (l : List Ob) : Prop := w.ownsRow base 190 3 v l.length (obsCells l)
/-- the list v is the numbers l, in a row of its own -/
abbrev OwnN (base : Nat) (w : World) (v : Value) (l : List Nat) : Prop := w.ownsRow base 3 1 v l.length (l.map fun (x : Nat) => Value.int .i64 (x : Int))

/-- what the walk keeps -/
structure Walking (w : World) (ws : List Int) (n b : Nat) (vl vb : Value) (os : List Ob) (bs : List Nat) (wr : World) : Prop where
  l : OwnO w.heap.size wr vl os
  bad : OwnN w.heap.size wr vb bs
  fr : Fr New w wr
  all : walkS ws n 0 = (os ++ (walkS ws n b).1, bs ++ (walkS ws n b).2)
  len : os.length ≤ b
  len' : bs.length ≤ b

theorem Walking.ob {w wr w1 w2 : World} {ws : List Int} {n b : Nat} {vl vb vl' : Value} {os : List Ob} {bs : List Nat} {o : Ob} (h : Walking w ws n b vl vb os bs wr) (hb : b < n) (hs : slotAt ws b = some (some o)) (hf : Fr New wr w1)
    (ho : w2.ownsRow w.heap.size 190 3 vl' (os.length + 1) (obsCells os ++ obCells o)) (hg : w1.grownBy w2 vl.ownBlock) : Walking w ws n (b + o.span) vl' vb (os ++ [o]) bs w2 := by
  have hl1 := hf.owns h.l (fun _ _ h => h)
  have hb1 := hf.owns h.bad (fun _ _ h => h)
  have h2 : Fr (fun k => vl.ownBlock = some k) w1 w2 := (Fr.refl _ _).grown hg (fun k _ hk => hk)
  have := (slot_obs hs).2.1
  refine ⟨by unfold OwnO; rw [obsCells_snoc, List.length_append]; exact ho, h2.owns hb1 ?_, (h.fr.same hf).trans h2 (fun j hj hk => by have := (h.l.lt j hk).1; omega), ?_, by have := h.len; simp; omega, by have := h.len'; omega⟩
  · intro g hg' hv
    obtain ⟨_, c, hc⟩ := own_block hb1 hg'
    obtain ⟨_, c', hc'⟩ := own_block hl1 hv
    exact type_ne hc hc' (by decide) rfl
  · rw [h.all, walk_ob hb hs]; simp
theorem Walking.badly {w wr w1 w2 : World} {ws : List Int} {n b : Nat} {vl vb vb' : Value} {os : List Ob} {bs : List Nat} (h : Walking w ws n b vl vb os bs wr) (hb : b < n) (hs : slotAt ws b = some none) (hf : Fr New wr w1)
    (ho : w2.ownsRow w.heap.size 3 1 vb' (bs.length + 1) ((bs.map fun (x : Nat) => Value.int .i64 (x : Int)) ++ [.int .i64 ((106 + 8 * b : Nat) : Int)])) (hg : w1.grownBy w2 vb.ownBlock) : Walking w ws n (b + 1) vl vb' os (bs ++ [106 + 8 * b]) w2 := by
  have hl1 := hf.owns h.l (fun _ _ h => h)
  have hb1 := hf.owns h.bad (fun _ _ h => h)
  have h2 : Fr (fun k => vb.ownBlock = some k) w1 w2 := (Fr.refl _ _).grown hg (fun k _ hk => hk)
  refine ⟨h2.owns hl1 ?_, by unfold OwnN; rw [List.map_append, List.length_append]; exact ho, (h.fr.same hf).trans h2 (fun j hj hk => by have := (h.bad.lt j hk).1; omega), ?_, by have := h.len; omega, by have := h.len'; simp; omega⟩
  · intro g hg' hv
    obtain ⟨_, c, hc⟩ := own_block hl1 hg'
    obtain ⟨_, c', hc'⟩ := own_block hb1 hv
    exact type_ne hc hc' (by decide) rfl
  · rw [h.all, walk_bad hb hs]; simp
theorem Walking.free {w wr w1 : World} {ws : List Int} {n b : Nat} {vl vb : Value} {os : List Ob} {bs : List Nat} (h : Walking w ws n b vl vb os bs wr) (hb : b < n) (hs : slotAt ws b = none) (hf : Fr New wr w1) : Walking w ws n (b + 1) vl vb os bs w1 :=
  ⟨hf.owns h.l (fun _ _ h => h), hf.owns h.bad (fun _ _ h => h), h.fr.same hf, by rw [h.all, walk_free hb hs], by have := h.len; omega, by have := h.len'; omega⟩

theorem new_at (w : World) (o : Obj) (n : Nat) (hn : w.heap.size = n) : (w.alloc o).heap[n]? = some o := by subst hn; exact Go.Deep.blk_alloc_new w o
theorem obCells_one (o : Ob) : ∀ u ∈ obCells o, u.oneCell' = true := by
  intro u hu
  simp only [obCells, List.mem_cons, List.not_mem_nil, or_false] at hu
  rcases hu with rfl | rfl | rfl <;> rfl

theorem x_kept {wr w1 w2 : World} {B : Nat} {e : TypeId} {sz : Nat} {v : Value} {n : Nat} {xs : List Value} (h : wr.ownsRow B e sz v n xs) (hf : Fr New wr w1) {o1 o2 : Obj} (hg : ((w1.alloc o1).alloc o2).grownBy w2 v.ownBlock) : w2.heap[w1.heap.size]? = some o1 := by
  rw [hg.block w1.heap.size (by simp; omega) (fun hh => by have := (h.lt _ hh.symm).2; have := hf.size; omega), Go.Deep.blk_alloc_lt _ _ _ (by simp)]
  exact Go.Deep.blk_alloc_new w1 o1

set_option maxHeartbeats 1000000 in
set_option maxRecDepth 1000000 in
theorem walk_any (a : Option Addr) (cap : Nat) (ws : List Int) (w : World) (hn : nblk ws.length ≠ 0) (hr : RowU w a ws) :
    Calls Tryz.prog 126 #[.slice a ws.length cap] w fun e w' => ∃ vl vb, e = .returned (.tuple #[vl, vb]) ∧ OwnO w.heap.size w' vl (objs ws) ∧ OwnN w.heap.size w' vb (bads ws) ∧ Fr New w w' := by
  obtain ⟨hlen, hn1, hn2⟩ := nblk_some hn
  obtain ⟨n, hnn⟩ : ∃ n, n = nblk ws.length := ⟨_, rfl⟩
  obtain ⟨L, hL⟩ : ∃ L, L = ws.length := ⟨_, rfl⟩
  have HB : Hid (Calls Tryz.prog 127 #[.int .i64 L] w fun e w' => e = .returned (.int .i64 n) ∧ w' = w) := by rw [hL, hnn]; exact blocks_any _ w (by omega)
  rw [← hnn] at hlen hn1 hn2
  rw [← hL] at hlen
  have hLb : L ≤ 362 := by omega
  have HLn : Hid (L = 106 + 8 * n) := hlen
  clear hlen
  have HL : Hid (L = ws.length) := hL
  have HNN : Hid (n = nblk ws.length) := hnn
  rw [← hL]
  clear hn hL hnn
  obtain ⟨i0, hi, hz0, hz1, hz2⟩ := info_parts Tryz.info190
  obtain ⟨j0, hj, hy0, hy1, hy2⟩ := info_parts Tryz.info3
  have hW0 : Walking w ws n 0 (.slice none 0 0) (.slice none 0 0) [] [] w := ⟨World.ownsRow_nil _ _ _ _, World.ownsRow_nil _ _ _ _, Fr.refl _ _, by simp, by simp, by simp⟩
  go_enter Tryz.func126, Tryz.ntmps126
  go_wp2_with (go_at_call 127; refine calls_same HB.out ?_)
  go_loopg [4, 5, 7] n (fun g vl vb t wr => ∃ b os bs, b ≤ n ∧ g = n - b ∧ t = .int .i64 (b : Nat) ∧ Walking w ws n b vl vb os bs wr)
  case atStart => exact ⟨0, [], [], by omega, rfl, rfl, hW0⟩
  case round =>
    obtain ⟨b, os, bs, hbn, rfl, rfl, hw⟩ := hrel
    clear hW0
    by_cases hb : b < n
    · have HO : Hid (Calls Tryz.prog 151 #[.slice a L cap, .int .i64 b] wr fun e w' => e = .returned (objectV (slotAt ws b)) ∧ Fr New wr w') := by
        have := object_any a cap ws b wr (by rw [← HL.out]; omega) (by rw [← HL.out, HLn.out]; omega) (rowU_fr hw.fr hr (fun _ _ h => h))
        rw [← HL.out] at this
        exact this
      rcases hs : slotAt ws b with _ | _ | o
      · rw [hs] at HO
        have HO' : Hid (Calls Tryz.prog 151 #[.slice a L cap, .int .i64 b] wr fun e w' => e = .returned (.tuple #[.agg #[.int .i64 0, .int .i64 0, .int .i64 0], .int .i64 0]) ∧ Fr New wr w') := HO.out
        have hfree := fun w1 hf => hw.free (w1 := w1) hb hs hf
        clear hs HO
        go_wp2_with (first
          | (go_at_call 151; refine HO'.out.mono ?_; rintro e w1 ⟨rfl, hf1⟩)
          | fail)
        go_roundg (n - (b + 1))
        case measure => omega
        case rel => exact ⟨b + 1, os, bs, by omega, rfl, by go_num, hfree _ (hf1.alloc _)⟩
      · rw [hs] at HO
        have HO' : Hid (Calls Tryz.prog 151 #[.slice a L cap, .int .i64 b] wr fun e w' => e = .returned (.tuple #[.agg #[.int .i64 0, .int .i64 0, .int .i64 0], .int .i64 2]) ∧ Fr New wr w') := HO.out
        have HS : Hid (slotAt ws b = some none) := hs
        clear hs HO
        have hlb := hw.len'
        go_wp2_with (first
          | (go_at_call 151; refine HO'.out.mono ?_; rintro e w1 ⟨rfl, hf1⟩)
          | (at_builtin; refine wpList_append_own _ rfl (.tmp 37) (.tmp 41) 25 rfl w.heap.size 3 j0 (.int .i64 0) 1 8 Tryz.underlying25 hj hy0 hy1 hy2 rfl (by decide) _ _ _ rfl (((hf1.alloc _).alloc _).owns hw.bad (fun _ _ h => h)) ⟨w1.heap.size + 1, 0, none⟩ 1 1 [.int .i64 (106 + 8 * (b : Int))] rfl rfl (World.news_of_block (new_at _ _ _ (by simp))) (by intro u hu; simp at hu; subst hu; rfl) (by unfold maxLen; omega) (by omega) (by have := hw.fr.size; have := hf1.size; simp; omega) ?_; intro v2 w2 ho2 hg2 _)
          | fail)
        have hW2 := hw.badly hb HS.out ((hf1.alloc _).alloc _) (by rw [show ((106 + 8 * b : Nat) : Int) = 106 + 8 * (b : Int) by omega]; exact ho2) hg2
        clear ho2 hg2
        go_wp2
        go_roundg (n - (b + 1))
        case measure => omega
        case rel => exact ⟨b + 1, os, _, by omega, rfl, by go_num, hW2⟩
      · have hso := slot_obs hs
        rw [hs] at HO
        obtain ⟨ob, osp, op⟩ := o
        obtain ⟨hob, hs1, hs4, hp, hle⟩ := hso
        simp only at hob hs1 hs4 hp hle
        obtain rfl : b = ob := hob.symm
        have hle' : b + osp ≤ n := by rw [← HL.out, HLn.out] at hle; omega
        have HO' : Hid (Calls Tryz.prog 151 #[.slice a L cap, .int .i64 b] wr fun e w' => e = .returned (.tuple #[.agg #[.int .i64 b, .int .i64 osp, .int .i64 op], .int .i64 1]) ∧ Fr New wr w') := HO.out
        have HS : Hid (slotAt ws b = some (some ⟨b, osp, op⟩)) := hs
        clear hs HO hle
        have hlb := hw.len
        go_wp2_with (first
          | (go_at_call 151; refine HO'.out.mono ?_; rintro e w1 ⟨rfl, hf1⟩)
          | (at_builtin; refine wpList_append_own _ rfl (.tmp 27) (.tmp 29) 186 rfl w.heap.size 190 i0 _ 3 24 Tryz.underlying186 hi hz0 hz1 hz2 rfl (by decide) _ _ _ rfl (((hf1.alloc _).alloc _).owns hw.l (fun _ _ h => h)) ⟨w1.heap.size + 1, 0, none⟩ 1 1 (obCells ⟨b, osp, op⟩) rfl rfl (World.news_of_block (new_at _ _ _ (by simp))) (obCells_one _) (by unfold maxLen; omega) (by omega) (by have := hw.fr.size; have := hf1.size; simp; omega) ?_; intro v2 w2 ho2 hg2 _; obtain ⟨hc2, hz2'⟩ := block_cells (x_kept hw.l hf1 hg2))
          | fail)
        have hW2 := hw.ob hb HS.out ((hf1.alloc _).alloc _) ho2 hg2
        go_roundg (n - (b + osp))
        case measure => omega
        case rel => exact ⟨b + osp, _, bs, by omega, rfl, by go_num, hW2⟩
    · have hend := hw.all
      rw [walk_end hb, List.append_nil, List.append_nil] at hend
      have ho : objs ws = os := by unfold objs; rw [← HNN.out, hend]
      have hbd : bads ws = bs := by unfold bads; rw [← HNN.out, hend]
      have h1 := hw.l
      have h2 := hw.bad
      rw [← ho] at h1
      rw [← hbd] at h2
      have h3 := hw.fr
      clear hend ho hbd
      go_wp2
      go_ret2
      exact ⟨_, _, rfl, h1, h2, h3⟩
end Go.Proofs.YtbagcjlimdilpaaGreat
/- Walks of the document's find, place and reached. -/
namespace Go.Proofs.YtbagcjlimdilpaaGreat
open Go.RowKit

theorem obsCells_get (l : List Ob) (i j : Nat) (hi : i < l.length) (hj : j < 3) : (obsCells l)[i * 3 + j]? = (obCells l[i])[j]? := by
  induction l generalizing i with
  | nil => simp at hi
  | cons e r ih =>
    simp only [obsCells, List.flatMap_cons]
    cases i with
    | zero => rw [List.getElem?_append_left (by simp [obCells]; omega)]; simp
    | succ i =>
      rw [List.getElem?_append_right (by simp [obCells]; omega)]
      have := ih i (by simpa using hi)
      rw [show (i + 1) * 3 + j - (obCells e).length = i * 3 + j by simp [obCells]; omega]
      exact this

/-- a list of objects, as it lies -/
def LiesO (w : World) (v : Value) (l : List Ob) : Prop := ∃ a cap, v = .slice a l.length cap ∧ l.length ≤ 1048576 ∧ (∀ o ∈ l, o.block ≤ 1048576 ∧ o.span ≤ 4 ∧ o.ptrs < 32) ∧
  (0 < l.length → ∃ g, a = some ⟨g, 0, none⟩ ∧ g < w.heap.size ∧ ∀ i (hi : i < l.length), w.cell? ⟨g, i * 3, none⟩ = some (.int .i64 (l[i]).block) ∧ w.cell? ⟨g, i * 3 + 1, none⟩ = some (.int .i64 (l[i]).span) ∧ w.cell? ⟨g, i * 3 + 2, none⟩ = some (.int .i64 (l[i]).ptrs))
theorem lies_own {w : World} {B : Nat} {v : Value} {l : List Ob} (h : OwnO B w v l) (hl : l.length ≤ 1048576) (hb : ∀ o ∈ l, o.block ≤ 1048576 ∧ o.span ≤ 4 ∧ o.ptrs < 32) : LiesO w v l := by
  obtain ⟨a, c, rfl⟩ := own_slice h
  refine ⟨a, c, rfl, hl, hb, fun hp => ?_⟩
  obtain ⟨g, c', hv, _, hg⟩ := h.form hp
  cases hv
  have key : ∀ i (hi : i < l.length) j, j < 3 → w.cell? ⟨g, i * 3 + j, none⟩ = (obCells l[i])[j]? := fun i hi j hj => (h.cellAt (i * 3 + j) (by omega)).trans (obsCells_get l i j hi hj)
  exact ⟨g, rfl, hg, fun i hi => ⟨key i hi 0 (by omega), key i hi 1 (by omega), key i hi 2 (by omega)⟩⟩
theorem LiesO.fr {T : Nat → Prop} {w w' : World} {v : Value} {l : List Ob} (h : LiesO w v l) (hf : Fr T w w') (hn : ∀ g, v.ownBlock = some g → ¬ T g) : LiesO w' v l := by
  obtain ⟨a, c, rfl, hl, hb, hc⟩ := h
  refine ⟨a, c, rfl, hl, hb, fun hp => ?_⟩
  obtain ⟨g, rfl, hg, hcc⟩ := hc hp
  refine ⟨g, rfl, Nat.lt_of_lt_of_le hg hf.size, fun i hi => ?_⟩
  obtain ⟨h1, h2, h3⟩ := hcc i hi
  exact ⟨hf.cell h1 (hn g rfl), hf.cell h2 (hn g rfl), hf.cell h3 (hn g rfl)⟩

set_option maxRecDepth 100000 in
theorem find_any (v : Value) (l : List Ob) (h : Int) (w : World) (hv : LiesO w v l) :
    Calls Tryz.prog 130 #[v, .int .u64 h] w fun e w' => e = .returned (.int .i64 (findI l h)) ∧ w' = w := by
  obtain ⟨a, cap, rfl, hl, hb, hc⟩ := hv
  go_enter Tryz.func130, Tryz.ntmps130
  go_wp2
  go_loop [5] (fun t => ∃ k : Nat, k ≤ l.length ∧ t = .int .i64 k ∧ ∀ i (hi : i < l.length), i < k → (((l[i]).block + 1 : Nat) : Int) ≠ h) (fun t => l.length - (intOf t).toNat)
  case atStart => exact ⟨0, Nat.zero_le _, rfl, fun i hi h0 => by omega⟩
  case round =>
    obtain ⟨k, hk, rfl, hno⟩ := hrel
    have HN : Hid (∀ i (hi : i < l.length), i < k → (((l[i]).block + 1 : Nat) : Int) ≠ h) := hno
    clear hno
    by_cases hlt : k < l.length
    · obtain ⟨g, rfl, hg, hcc⟩ := hc (by omega)
      obtain ⟨h1, _, _⟩ := hcc k hlt
      obtain ⟨hb1, _, _⟩ := hb l[k] (List.getElem_mem _)
      obtain ⟨B, hB⟩ : ∃ B, B = (l[k]).block := ⟨_, rfl⟩
      rw [← hB] at h1 hb1
      have HB : Hid (B = (l[k]).block) := hB
      clear hB hcc hc
      have hw1 : IntKind.u64.wrap ((B : Int) + 1) = B + 1 := by rw [IntKind.wrap_u64]; omega
      by_cases he : (B : Int) + 1 = h
      · have HI : Hid (findI l h = k) := findI_some (idx_first hlt (by rw [← HB.out]; omega) (fun i hi => HN.out i (by omega) hi))
        subst he
        go_wp2
        go_ret
        exact ⟨ret_i HI.out.symm, rfl⟩
      · have hde : ((B : Int) + 1 == h) = false := by simpa using he
        have HX : Hid (¬ (B : Int) + 1 = h) := he
        clear he
        go_wp2
        go_round
        case rel => exact ⟨k + 1, by omega, by go_num, fun i hi hik => by
          rcases Nat.lt_or_ge i k with h' | h'
          · exact HN.out i hi h'
          · obtain rfl : i = k := by omega
            rw [← HB.out]
            have := HX.out
            omega⟩
        case measure => simp [intOf]; omega
    · have HI : Hid (findI l h = -1) := findI_none (idx_no (fun i hi => HN.out i hi (by omega)))
      go_wp2
      go_ret
      exact ⟨ret_i HI.out.symm, rfl⟩

theorem place_any (o : Ob) (p : Int) (w : World) (hb : o.block ≤ 1048576) (hp : -1 ≤ p) (hp2 : p ≤ 1048576) :
    Calls Tryz.prog 129 #[.agg #[.int .i64 o.block, .int .i64 o.span, .int .i64 o.ptrs], .int .i64 p] w fun e w' => e = .returned (.int .i64 (106 + 8 * (o.block : Int) + 1 + p)) ∧ Fr New w w' := by
  go_enter Tryz.func129, Tryz.ntmps129
  go_wp2
  go_ret
  exact ⟨rfl, (Fr.refl _ _).alloc _⟩
end Go.Proofs.YtbagcjlimdilpaaGreat
/- Walks of the program's small functions: words through the interface, shapes, places, heads. -/
namespace Go.Proofs.YtbagcjlimdilpaaGreat
open Go.RowKit

/-- words as the program hands them on -/
abbrev rowV (a : Option Addr) (n c : Nat) : Value := .iface 105 (.slice a n c)
theorem meth_len (a : Option Addr) (n c : Nat) (w : World) : (method 356 105 (.slice a n c) "Len").run Tryz.prog w = .ok (196, .slice a n c) w := by kernel_rfl
theorem meth_read (a : Option Addr) (n c : Nat) (w : World) : (method 356 105 (.slice a n c) "Read").run Tryz.prog w = .ok (197, .slice a n c) w := by kernel_rfl
theorem meth_put (a : Option Addr) (n c : Nat) (w : World) : (method 356 105 (.slice a n c) "Put").run Tryz.prog w = .ok (152, .slice a n c) w := by kernel_rfl
theorem ahead_read (a : Option Addr) (n c : Nat) (w : World) : (nilAhead 356 105 (.slice a n c) "Read").run Tryz.prog w = .ok (some false) w := by kernel_rfl
theorem ahead_put (a : Option Addr) (n c : Nat) (w : World) : (nilAhead 356 105 (.slice a n c) "Put").run Tryz.prog w = .ok (some false) w := by kernel_rfl

theorem klen_any (a : Option Addr) (n c : Nat) (w : World) :
    Calls Tryz.prog 196 #[.slice a n c] w fun e w' => e = .returned (.int .i64 n) ∧ w' = w := by
  go_enter Tryz.func196, Tryz.ntmps196
  go_wp2
  go_ret
  exact ⟨rfl, rfl⟩
theorem kread_any (sb so n c i : Nat) (x : Int) (w : World) (hi : i < n) (hc : w.cell? ⟨sb, so + i, none⟩ = some (.int .u64 x)) :
    Calls Tryz.prog 197 #[.slice (some ⟨sb, so, none⟩) n c, .int .i64 i] w fun e w' => e = .returned (.int .u64 x) ∧ w' = w := by
  go_enter Tryz.func197, Tryz.ntmps197
  go_wp2
  go_ret
  exact ⟨rfl, rfl⟩
theorem kput_any (g n c i : Nat) (x y : Int) (w : World) (hi : i < n) (hc : w.cell? ⟨g, i, none⟩ = some (.int .u64 x)) (hz : w.frozen? ⟨g, i, none⟩ = false) :
    Calls Tryz.prog 152 #[.slice (some ⟨g, 0, none⟩) n c, .int .i64 i, .int .u64 y] w fun e w' => e = .returned (.tuple #[]) ∧ w' = w.setCell ⟨g, i, none⟩ (.int .u64 y) := by
  go_enter Tryz.func152, Tryz.ntmps152
  go_wp2
  go_end0
  exact ⟨rfl, rfl⟩

/-- words behind the interface, while nothing but new blocks has come since w: how its methods are found, and what they answer -/
structure RowAt (w : World) (t : Nat) (x : Value) (fL fR : Nat) (y : Value) (ws : List Int) : Prop where
  mlen : ∀ w', Fr New w w' → (method 356 t x "Len").run Tryz.prog w' = .ok (fL, y) w'
  mread : ∀ w', Fr New w w' → (method 356 t x "Read").run Tryz.prog w' = .ok (fR, y) w'
  aread : ∀ w', (nilAhead 356 t x "Read").run Tryz.prog w' = .ok (some false) w'
  clen : ∀ a w', (callFunc fL a).run Tryz.prog w' = .ok (.enter fL a) w'
  cread : ∀ a w', (callFunc fR a).run Tryz.prog w' = .ok (.enter fR a) w'
  len : ∀ w', Fr New w w' → Calls Tryz.prog fL #[y] w' fun e w'' => e = .returned (.int .i64 ws.length) ∧ w'' = w'
  read : ∀ w', Fr New w w' → ∀ i, i < ws.length → Calls Tryz.prog fR #[y, .int .i64 (i : Nat)] w' fun e w'' => e = .returned (.int .u64 (wd ws i)) ∧ w'' = w'
theorem RowAt.grow {w w1 : World} {t : Nat} {x : Value} {fL fR : Nat} {y : Value} {ws : List Int} (h : RowAt w t x fL fR y ws) (hf : Fr New w w1) : RowAt w1 t x fL fR y ws :=
  ⟨fun w' h' => h.mlen w' (hf.same h'), fun w' h' => h.mread w' (hf.same h'), h.aread, h.clen, h.cread, fun w' h' => h.len w' (hf.same h'), fun w' h' => h.read w' (hf.same h')⟩
theorem call_klen (a : Array Value) (w : World) : (callFunc 196 a).run Tryz.prog w = .ok (.enter 196 a) w := by kernel_rfl
theorem call_kread (a : Array Value) (w : World) : (callFunc 197 a).run Tryz.prog w = .ok (.enter 197 a) w := by kernel_rfl
theorem kept_row {sb so L c : Nat} {ws : List Int} {w : World} (hL : ws.length = L) (hcw : ∀ i, i < L → w.cell? ⟨sb, so + i, none⟩ = some (.int .u64 (wd ws i))) :
    RowAt w 105 (.slice (some ⟨sb, so, none⟩) L c) 196 197 (.slice (some ⟨sb, so, none⟩) L c) ws :=
  ⟨fun w' _ => meth_len _ _ _ w', fun w' _ => meth_read _ _ _ w', fun w' => ahead_read _ _ _ w', call_klen, call_kread, fun w' _ => by rw [hL]; exact klen_any _ _ _ w', fun w' hf i hi => kread_any sb so L c i _ w' (by omega) (hf.cell (hcw i (by omega)) id)⟩

theorem place_of (b : Nat) (w : World) (hb : b ≤ 1048576) :
    Calls Tryz.prog 118 #[.int .i64 ((b + 1 : Nat) : Int)] w fun e w' => e = .returned (.int .i64 ((106 + 8 * b : Nat) : Int)) ∧ w' = w := by
  go_enter Tryz.func118, Tryz.ntmps118
  go_wp2
  go_ret
  exact ⟨ret_i (by omega), rfl⟩
theorem lblocks_any (L : Nat) (w : World) (h : 106 ≤ L) (hL : L ≤ 1048576) :
    Calls Tryz.prog 95 #[.int .i64 L] w fun e w' => e = .returned (.int .i64 (((L - 106) / 8 : Nat) : Int)) ∧ w' = w := by
  go_enter Tryz.func95, Tryz.ntmps95
  go_wp2
  go_ret
  exact ⟨ret_i (by first | omega | (rw [Int.tdiv_eq_ediv_of_nonneg (by omega)]; omega)), rfl⟩
end Go.Proofs.YtbagcjlimdilpaaGreat
/- Walks of the program's Shaped, Logged, ParseHeader, HeadOf, wrongHead. -/
namespace Go.Proofs.YtbagcjlimdilpaaGreat
open Go.RowKit

theorem lblocks_low (L : Nat) (w : World) (h : L < 106) :
    Calls Tryz.prog 95 #[.int .i64 L] w fun e w' => ∃ v : Int, v ≤ 0 ∧ e = .returned (.int .i64 v) ∧ w' = w := by
  go_enter Tryz.func95, Tryz.ntmps95
  go_wp2
  go_ret
  refine ⟨_, ?_, rfl, rfl⟩
  rw [show (L : Int) - 106 = -((106 : Int) - L) by omega, Int.neg_tdiv, Int.tdiv_eq_ediv_of_nonneg (by omega)]
  omega
theorem shaped_yes (L : Nat) (w : World) (h : nblk L ≠ 0) :
    Calls Tryz.prog 46 #[.int .i64 L] w fun e w' => e = .returned (.bool true) ∧ w' = w := by
  obtain ⟨h1, h2, h3⟩ := nblk_some h
  obtain ⟨n, hn⟩ : ∃ n, n = nblk L := ⟨_, rfl⟩
  rw [← hn] at h1 h2 h3
  clear h hn
  subst h1
  have HB : Hid (Calls Tryz.prog 95 #[.int .i64 ((106 + 8 * n : Nat) : Int)] w fun e w' => e = .returned (.int .i64 (n : Int)) ∧ w' = w) := by
    have := lblocks_any (106 + 8 * n) w (by omega) (by omega)
    rwa [show (106 + 8 * n - 106) / 8 = n by omega] at this
  have hde : (106 + 8 * (n : Int) == ((106 + 8 * n : Nat) : Int)) = true := by simp
  go_enter Tryz.func46, Tryz.ntmps46
  go_wp2_with (first
    | (go_at_call 95; refine calls_same HB.out ?_)
    | (go_at_call 64; refine calls_same (fits_true n w (by omega) (by omega)) ?_)
    | (go_at_call 65; refine calls_same (length_any n w h3) ?_))
  go_ret
  exact ⟨rfl, rfl⟩
theorem shaped_no (L : Nat) (w : World) (hL : L ≤ 1048576) (h : nblk L = 0) :
    Calls Tryz.prog 46 #[.int .i64 L] w fun e w' => e = .returned (.bool false) ∧ w' = w := by
  by_cases hlo : L < 106
  · go_enter Tryz.func46, Tryz.ntmps46
    go_wp2_with (first
      | (go_at_call 95; refine (lblocks_low L w hlo).mono ?_; rintro e w' ⟨v, hv, rfl, rfl⟩)
      | (go_at_call 64; refine calls_same (fits_false _ _ (by omega)) ?_))
    go_ret
    exact ⟨rfl, rfl⟩
  · obtain ⟨v, hv⟩ : ∃ v, v = (L - 106) / 8 := ⟨_, rfl⟩
    have HB : Hid (Calls Tryz.prog 95 #[.int .i64 (L : Int)] w fun e w' => e = .returned (.int .i64 (v : Int)) ∧ w' = w) := by
      have := lblocks_any L w (by omega) hL
      rwa [← hv] at this
    by_cases hf : 1 ≤ v ∧ v ≤ 32
    · have hne : L ≠ 106 + 8 * v := nblk_none h v hf.1 hf.2
      have hde : (106 + 8 * (v : Int) == (L : Int)) = false := by simp; omega
      clear hv
      go_enter Tryz.func46, Tryz.ntmps46
      go_wp2_with (first
        | (go_at_call 95; refine calls_same HB.out ?_)
        | (go_at_call 64; refine calls_same (fits_true v w (by omega) (by omega)) ?_)
        | (go_at_call 65; refine calls_same (length_any v w hf.2) ?_))
      go_ret
      exact ⟨rfl, rfl⟩
    · clear hv
      go_enter Tryz.func46, Tryz.ntmps46
      go_wp2_with (first
        | (go_at_call 95; refine calls_same HB.out ?_)
        | (go_at_call 64; refine calls_same (fits_false v w (by omega)) ?_))
      go_ret
      exact ⟨rfl, rfl⟩

theorem logged_any (p : Int) (L : Nat) (w : World) (h8 : 8 ≤ L) (hL : L ≤ 1048576) :
    Calls Tryz.prog 137 #[.int .u64 p, .int .i64 L] w fun e w' => e = .returned (.bool (okAt L p)) ∧ w' = w := by
  have hw1 : IntKind.u64.wrap (L : Int) = L := by rw [IntKind.wrap_u64]; omega
  by_cases h1 : p < 8
  · rw [okAt_iff.2 ⟨by omega, .inl h1⟩]
    have hd1 : decide (p < 8) = true := by simpa using h1
    go_enter Tryz.func137, Tryz.ntmps137
    go_wp2
    go_ret
    exact ⟨rfl, rfl⟩
  · have hd1 : decide (p < 8) = false := by simpa using h1
    by_cases h2 : 106 ≤ p
    · have hd2 : decide (106 ≤ p) = true := by simpa using h2
      by_cases h3 : p < L
      · rw [okAt_iff.2 ⟨h3, .inr h2⟩]
        have hd3 : decide (p < (L : Int)) = true := by simpa using h3
        go_enter Tryz.func137, Tryz.ntmps137
        go_wp2
        go_ret
        exact ⟨rfl, rfl⟩
      · have he : okAt L p = false := by
          rcases hk : okAt L p with _ | _
          · rfl
          · exact absurd (okAt_iff.1 hk).1 h3
        rw [he]
        have hd3 : decide (p < (L : Int)) = false := by simpa using h3
        go_enter Tryz.func137, Tryz.ntmps137
        go_wp2
        go_ret
        exact ⟨rfl, rfl⟩
    · have hd2 : decide (106 ≤ p) = false := by simpa using h2
      have he : okAt L p = false := by
        rcases hk : okAt L p with _ | _
        · rfl
        · have := (okAt_iff.1 hk).2; omega
      rw [he]
      go_enter Tryz.func137, Tryz.ntmps137
      go_wp2
      go_ret
      exact ⟨rfl, rfl⟩

theorem words_any' (s : Nat) (w : World) (hs : s ≤ 1048576) : Calls Tryz.prog 108 #[.int .i64 s] w fun e w' => e = .returned (.int .i64 (8 * (s : Int) - 1)) ∧ w' = w := by
  go_enter Tryz.func108, Tryz.ntmps108
  go_wp2
  go_ret
  exact ⟨rfl, rfl⟩

/-- may there be an object with that span and so many pointers? -/
def properB (s p : Int) : Bool := decide (1 ≤ s) && decide (s ≤ 4) && decide (0 ≤ p) && decide (p ≤ 8 * s - 1)
theorem properB_iff {s p : Int} : properB s p = true ↔ 1 ≤ s ∧ s ≤ 4 ∧ 0 ≤ p ∧ p < 8 * s := by
  unfold properB
  simp only [Bool.and_eq_true, decide_eq_true_eq]
  omega
theorem wordsZ_any (s : Int) (w : World) (hs : -1048576 ≤ s ∧ s ≤ 1048576) : Calls Tryz.prog 108 #[.int .i64 s] w fun e w' => e = .returned (.int .i64 (8 * s - 1)) ∧ w' = w := by
  go_enter Tryz.func108, Tryz.ntmps108
  go_wp2
  go_ret
  exact ⟨rfl, rfl⟩
theorem proper_any (s p : Int) (w : World) : Calls Tryz.prog 67 #[.int .i64 s, .int .i64 p] w fun e w' => e = .returned (.bool (properB s p)) ∧ w' = w := by
  by_cases h1 : 1 ≤ s
  · have hd1 : decide (1 ≤ s) = true := by simpa using h1
    by_cases h2 : s ≤ 4
    · have hd2 : decide (s ≤ 4) = true := by simpa using h2
      by_cases h3 : 0 ≤ p
      · have hd3 : decide (0 ≤ p) = true := by simpa using h3
        have HP : Hid (properB s p = decide (p ≤ 8 * s - 1)) := by unfold properB; rw [hd1, hd2, hd3]; rfl
        go_enter Tryz.func67, Tryz.ntmps67
        go_wp2_with (go_at_call 108; refine calls_same (wordsZ_any s w (by omega)) ?_)
        go_ret
        exact ⟨by rw [HP.out]; rfl, rfl⟩
      · have hd3 : decide (0 ≤ p) = false := by simpa using h3
        have HP : Hid (properB s p = false) := by unfold properB; rw [hd1, hd2, hd3]; rfl
        go_enter Tryz.func67, Tryz.ntmps67
        go_wp2
        go_ret
        exact ⟨by rw [HP.out]; rfl, rfl⟩
    · have hd2 : decide (s ≤ 4) = false := by simpa using h2
      have HP : Hid (properB s p = false) := by unfold properB; rw [hd1, hd2]; rfl
      go_enter Tryz.func67, Tryz.ntmps67
      go_wp2
      go_ret
      exact ⟨by rw [HP.out]; rfl, rfl⟩
  · have hd1 : decide (1 ≤ s) = false := by simpa using h1
    have HP : Hid (properB s p = false) := by unfold properB; rw [hd1]; rfl
    go_enter Tryz.func67, Tryz.ntmps67
    go_wp2
    go_ret
    exact ⟨by rw [HP.out]; rfl, rfl⟩

/-- a header by itself -/
def hdr1 (h : Int) : Prop := 1000100 ≤ h ∧ h < 1000500 ∧ ptrsOf h < 8 * spanOf h
theorem parse_yes (h : Int) (w : World) (hh : hdr1 h) :
    Calls Tryz.prog 157 #[.int .u64 h] w fun e w' => e = .returned (.tuple #[.int .i64 (spanOf h), .int .i64 (ptrsOf h), .bool true]) ∧ w' = w := by
  obtain ⟨h1, h2, h3⟩ := hh
  obtain ⟨r, hr⟩ : ∃ r, r = h - 1000000 := ⟨_, rfl⟩
  obtain rfl : h = r + 1000000 := by omega
  obtain ⟨s, hs⟩ : ∃ s, s = spanOf (r + 1000000) := ⟨_, rfl⟩
  obtain ⟨p, hp⟩ : ∃ p, p = ptrsOf (r + 1000000) := ⟨_, rfl⟩
  rw [← hs, ← hp] at h3
  have hs' : r / 100 = s := by rw [hs]; unfold spanOf; omega
  have hp' : r % 100 = p := by rw [hp]; unfold ptrsOf; omega
  have hw1 : IntKind.u64.wrap (r + 1000000 - 1000000) = r := by rw [IntKind.wrap_u64]; omega
  have hw2 : IntKind.i64.wrap r = r := by rw [IntKind.wrap_i64]; omega
  rw [← hs, ← hp]
  have HPR : Hid (Calls Tryz.prog 67 #[.int .i64 (s : Int), .int .i64 (p : Int)] w fun e w' => e = .returned (.bool true) ∧ w' = w) := by
    have := proper_any (s : Int) (p : Int) w
    rwa [properB_iff.2 ⟨by omega, by omega, by omega, by omega⟩] at this
  clear hs hp hr
  go_enter Tryz.func157, Tryz.ntmps157
  go_wp2_with (go_at_call 67; refine calls_same HPR.out ?_)
  exact bodyPost_ret (v := .tuple #[.int .i64 s, .int .i64 p, .bool true]) (by simp [results, Tryz.results157, go_sem]) rfl ⟨rfl, rfl⟩
theorem parse_no (h : Int) (w : World) (hh : ¬ hdr1 h) :
    Calls Tryz.prog 157 #[.int .u64 h] w fun e w' => e = .returned (.tuple #[.int .i64 0, .int .i64 0, .bool false]) ∧ w' = w := by
  by_cases h1 : h < 1000000
  · have hd1 : decide (h < 1000000) = true := by simpa using h1
    go_enter Tryz.func157, Tryz.ntmps157
    go_wp2
    exact bodyPost_ret (v := .tuple #[.int .i64 0, .int .i64 0, .bool false]) (by simp [results, Tryz.results157, go_sem]) rfl ⟨rfl, rfl⟩
  · have hd1 : decide (h < 1000000) = false := by simpa using h1
    by_cases h2 : 1000500 ≤ h
    · have hd2 : decide (1000500 ≤ h) = true := by simpa using h2
      go_enter Tryz.func157, Tryz.ntmps157
      go_wp2
      exact bodyPost_ret (v := .tuple #[.int .i64 0, .int .i64 0, .bool false]) (by simp [results, Tryz.results157, go_sem]) rfl ⟨rfl, rfl⟩
    · have hd2 : decide (1000500 ≤ h) = false := by simpa using h2
      obtain ⟨r, hr⟩ : ∃ r, r = h - 1000000 := ⟨_, rfl⟩
      obtain rfl : h = r + 1000000 := by omega
      obtain ⟨s, hs⟩ : ∃ s, s = spanOf (r + 1000000) := ⟨_, rfl⟩
      obtain ⟨p, hp⟩ : ∃ p, p = ptrsOf (r + 1000000) := ⟨_, rfl⟩
      have hs' : r / 100 = s := by rw [hs]; unfold spanOf; omega
      have hp' : r % 100 = p := by rw [hp]; unfold ptrsOf; omega
      have hw1 : IntKind.u64.wrap (r + 1000000 - 1000000) = r := by rw [IntKind.wrap_u64]; omega
      have hw2 : IntKind.i64.wrap r = r := by rw [IntKind.wrap_i64]; omega
      have hx : s < 1 ∨ (1 ≤ s ∧ 8 * s ≤ p) := by
        by_cases hs1 : s < 1
        · exact .inl hs1
        · right
          refine ⟨by omega, ?_⟩
          rcases Nat.lt_or_ge p (8 * s) with hlt | hge
          · exact absurd ⟨by omega, by omega, by rw [← hs, ← hp]; exact hlt⟩ hh
          · exact hge
      have HPR : Hid (Calls Tryz.prog 67 #[.int .i64 (s : Int), .int .i64 (p : Int)] w fun e w' => e = .returned (.bool false) ∧ w' = w) := by
        have := proper_any (s : Int) (p : Int) w
        rwa [show properB s p = false from by
          rcases hq : properB (s : Int) (p : Int) with _ | _
          · rfl
          · have := properB_iff.1 hq; omega] at this
      clear hs hp hr hh hx
      go_enter Tryz.func157, Tryz.ntmps157
      go_wp2_with (go_at_call 67; refine calls_same HPR.out ?_)
      exact bodyPost_ret (v := .tuple #[.int .i64 0, .int .i64 0, .bool false]) (by simp [results, Tryz.results157, go_sem]) rfl ⟨rfl, rfl⟩

/-- the words of a head -/
def headArr (hs : List Int) : Obj := .cells ((hs.map (Value.int .u64)).toArray) 126 (0, 0)
theorem head_eight {ws hs : List Int} (h8 : hs.length = 8) (h : ∀ j, j < 8 → hs[j]? = some (wd ws j)) : hs = [wd ws 0, wd ws 1, wd ws 2, wd ws 3, wd ws 4, wd ws 5, wd ws 6, wd ws 7] := by
  apply List.ext_getElem?
  intro i
  by_cases hi : i < 8
  · rw [h i hi]
    match i, hi with
    | 0, _ => rfl
    | 1, _ => rfl
    | 2, _ => rfl
    | 3, _ => rfl
    | 4, _ => rfl
    | 5, _ => rfl
    | 6, _ => rfl
    | 7, _ => rfl
  · rw [List.getElem?_eq_none (by omega), List.getElem?_eq_none (by simp; omega)]
/-- a head as a value -/
abbrev headA (ws : List Int) : Value := .agg #[.int .u64 (wd ws 0), .int .u64 (wd ws 1), .int .u64 (wd ws 2), .int .u64 (wd ws 3), .int .u64 (wd ws 4), .int .u64 (wd ws 5), .int .u64 (wd ws 6), .int .u64 (wd ws 7)]
/-- what the loop keeps -/
structure Heading (w : World) (ws : List Int) (k : Nat) (wr : World) : Prop where
  fr : Fr New w wr
  blk : ∃ hs : List Int, wr.heap[w.heap.size + 1]? = some (headArr hs) ∧ hs.length = 8 ∧ ∀ j, j < k → hs[j]? = some (wd ws j)
  res : wr.heap[w.heap.size]? = some (headArr [0, 0, 0, 0, 0, 0, 0, 0])
set_option maxRecDepth 100000 in
theorem headOf_row (t : Nat) (x : Value) (fL fR : Nat) (y : Value) (ws : List Int) (w : World) (h8 : 8 ≤ ws.length) (hrow : RowAt w t x fL fR y ws) :
    Calls Tryz.prog 111 #[.iface t x] w fun e w' => e = .returned (headA ws) ∧ Fr New w w' := by
  have HW : Hid (∀ wr, Fr New w wr → ∀ i, i < ws.length → Calls Tryz.prog fR #[y, .int .i64 (i : Nat)] wr fun e w'' => e = .returned (.int .u64 (wd ws i)) ∧ w'' = wr) := hrow.read
  have HM : Hid (∀ w', Fr New w w' → (method 356 t x "Read").run Tryz.prog w' = .ok (fR, y) w') := hrow.mread
  have hcf := hrow.cread
  clear hrow
  go_enter Tryz.func111, Tryz.ntmps111
  go_wp2
  go_loopw [5] (fun t wr => ∃ k : Nat, k ≤ 8 ∧ t = .int .i64 k ∧ Heading w ws k wr) (fun t _ => 8 - (intOf t).toNat)
  case atStart => exact ⟨0, by omega, rfl, ⟨((Fr.refl _ _).alloc _).alloc _, ⟨[0, 0, 0, 0, 0, 0, 0, 0], new_at2 w _ _, rfl, fun j hj => by omega⟩, (Go.Deep.blk_alloc_lt _ _ _ (by simp)).trans (Go.Deep.blk_alloc_new w _)⟩⟩
  case round =>
    obtain ⟨k, hk, rfl, hH⟩ := hrel
    by_cases hlt : k < 8
    · have HC : Hid (Calls Tryz.prog fR #[y, .int .i64 (k : Nat)] wr fun e w'' => e = .returned (.int .u64 (wd ws k)) ∧ w'' = wr) := HW.out wr hH.fr k (by omega)
      have hm := HM.out wr hH.fr
      obtain ⟨hs, hb, hl, hj⟩ := hH.blk
      have hcb : wr.cell? ⟨w.heap.size + 1, k, none⟩ = some (.int .u64 (hs.getD k 0)) := by
        rw [(block_cells hb).1]
        simp [List.getD, show k < hs.length by omega]
      have hzb := (block_cells hb).2 k
      have HN : Hid (Heading w ws (k + 1) (wr.setCell ⟨w.heap.size + 1, k, none⟩ (.int .u64 (wd ws k)))) := by
        refine ⟨hH.fr.setCell (fun h => absurd h (by simp)) _, ⟨hs.set k (wd ws k), ?_, by simpa using hl, fun j hjk => ?_⟩, ?_⟩
        · rw [heap_setCell_same wr _ k _ _ _ hb]
          simp [headArr, List.map_set]
        · by_cases he : j = k
          · subst he; rw [List.getElem?_set_self (by omega)]
          · rw [List.getElem?_set_ne (by omega)]; exact hj j (by omega)
        · rw [Go.Deep.blk_setCell_other _ _ _ _ (by simp)]; exact hH.res
      obtain ⟨z, hx⟩ : ∃ z, z = wd ws k := ⟨_, rfl⟩
      rw [← hx] at HC HN
      clear hb hj hx hH
      go_wp2_with (refine calls_same HC.out ?_)
      go_roundw
      case rel => exact ⟨k + 1, by omega, by go_num, HN.out⟩
      case measure => simp [intOf]; omega
    · obtain rfl : k = 8 := by omega
      obtain ⟨hs, hb, hl, hj⟩ := hH.blk
      obtain rfl := head_eight hl hj
      obtain ⟨hcc, hzz⟩ := block_cells hb
      obtain ⟨hcr, hzr⟩ := block_cells hH.res
      have hf := hH.fr
      clear hb hj hH hl
      go_wp2
      refine bodyPost_ret (v := headA ws) (by simp [results, Tryz.results111, go_sem, hcr]) rfl ⟨rfl, ?_⟩
      iterate 8 refine Fr.setCell ?_ (fun h => absurd h (by simp)) _
      exact hf
theorem headOf_any (sb so L c : Nat) (ws : List Int) (w : World) (hL : ws.length = L) (h8 : 8 ≤ L) (hcw : ∀ i, i < L → w.cell? ⟨sb, so + i, none⟩ = some (.int .u64 (wd ws i))) :
    Calls Tryz.prog 111 #[rowV (some ⟨sb, so, none⟩) L c] w fun e w' => e = .returned (headA ws) ∧ Fr New w w' := headOf_row _ _ _ _ _ ws w (by omega) (kept_row hL hcw)
end Go.Proofs.YtbagcjlimdilpaaGreat
