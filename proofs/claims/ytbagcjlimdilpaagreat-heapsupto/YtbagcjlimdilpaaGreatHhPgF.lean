/- Walks of the program's Dangling, Place, WordPlace, Walk and survey: all objects, and the wrong headers. -/
import Derived.Test.YtbagcjlimdilpaaGreatHhJ6
import Derived.Test.YtbagcjlimdilpaaGreatHhJ3
import Derived.Maps.AppendAt
namespace Go.Proofs.YtbagcjlimdilpaaGreat
open Go.RowKit

/-- not 0, and of no object -/
def dang (l : List Ob) (h : Int) : Bool := (h != 0) && (idx l h).isNone
theorem dang_yes {l : List Ob} {h : Int} (h0 : h ≠ 0) (hx : idx l h = none) : dang l h = true := by unfold dang; simp [h0, hx]
theorem dang_zero (l : List Ob) : dang l 0 = false := by unfold dang; simp
theorem dang_some {l : List Ob} {h : Int} {k : Nat} (hx : idx l h = some k) : dang l h = false := by unfold dang; simp [hx]
theorem dang_iff {l : List Ob} {h : Int} : dang l h = true ↔ h ≠ 0 ∧ idx l h = none := by unfold dang; simp
set_option maxRecDepth 100000 in
theorem dangling_any (v : Value) (l : List Ob) (h : Int) (w : World) (hv : LiesT w v l) (ha : Asc l) :
    Calls Tryz.prog 58 #[v, .int .u64 h] w fun e w' => e = .returned (.bool (dang l h)) ∧ Fr New w w' := by
  have HS : Hid (Calls Tryz.prog 56 #[v, .int .u64 h] w fun e w' => ∃ r, e = .returned r ∧ HeldIs l h r ∧ Fr New w w') := held_any v l h w hv ha
  clear hv
  by_cases h0 : h = 0
  · subst h0
    rw [dang_zero]
    go_enter Tryz.func58, Tryz.ntmps58
    go_wp2_with (go_at_call 56; refine HS.out.mono ?_; rintro e w1 ⟨r, rfl, hs, hf1⟩; obtain ⟨x0, x1, x2, x3, bb, rfl⟩ : ∃ x0 x1 x2 x3 : Int, ∃ bb : Bool, r = .tuple #[.agg #[.int .i64 x0, .int .i64 x1, .int .i64 x2, .int .i64 x3], .bool bb] := (by rcases hs with ⟨k, hk, _, e⟩ | ⟨_, e⟩; exact ⟨_, _, _, _, _, e⟩; exact ⟨_, _, _, _, _, e⟩))
    go_ret
    exact ⟨rfl, hf1.alloc _⟩
  · have hd0 : (h != 0) = true := by simpa using h0
    rcases hx : idx l h with _ | k
    · rw [dang_yes h0 hx]
      go_enter Tryz.func58, Tryz.ntmps58
      go_wp2_with (go_at_call 56; refine HS.out.mono ?_; rintro e w1 ⟨r, rfl, hs, hf1⟩; obtain rfl : r = .tuple #[.agg #[.int .i64 0, .int .i64 0, .int .i64 0, .int .i64 0], .bool false] := (by rcases hs with ⟨k, hk, hk', e⟩ | ⟨_, e⟩; (rw [hx] at hk'; cases hk'); exact e))
      go_ret
      exact ⟨rfl, hf1.alloc _⟩
    · rw [dang_some hx]
      go_enter Tryz.func58, Tryz.ntmps58
      go_wp2_with (go_at_call 56; refine HS.out.mono ?_; rintro e w1 ⟨r, rfl, hs, hf1⟩; obtain ⟨x0, x1, x2, x3, rfl⟩ : ∃ x0 x1 x2 x3 : Int, r = .tuple #[.agg #[.int .i64 x0, .int .i64 x1, .int .i64 x2, .int .i64 x3], .bool true] := (by rcases hs with ⟨k, hk, _, e⟩ | ⟨hk', _⟩; exact ⟨_, _, _, _, e⟩; (rw [hx] at hk'; cases hk')))
      go_ret
      exact ⟨rfl, hf1.alloc _⟩

theorem tplace_any (k s p : Int) (b : Nat) (w : World) (hb : b ≤ 1048576) :
    Calls Tryz.prog 100 #[.agg #[.int .i64 k, .int .i64 ((b + 1 : Nat) : Int), .int .i64 s, .int .i64 p]] w fun e w' => e = .returned (.int .i64 ((106 + 8 * b : Nat) : Int)) ∧ Fr New w w' := by
  have HP : Hid (∀ w, Calls Tryz.prog 118 #[.int .i64 ((b + 1 : Nat) : Int)] w fun e w' => e = .returned (.int .i64 ((106 + 8 * b : Nat) : Int)) ∧ w' = w) := fun w => place_of b w hb
  obtain ⟨B, hB⟩ : ∃ B : Nat, B = b + 1 := ⟨_, rfl⟩
  obtain ⟨q, hq⟩ : ∃ q : Nat, q = 106 + 8 * b := ⟨_, rfl⟩
  rw [← hB, ← hq] at HP
  rw [← hB, ← hq]
  clear hB hq
  go_enter Tryz.func100, Tryz.ntmps100
  go_wp2_with (go_at_call 118; refine calls_same (HP.out _) ?_)
  go_ret
  exact ⟨rfl, (Fr.refl _ _).alloc _⟩
theorem twplace_any (k s p : Int) (b i : Nat) (w : World) (hb : b ≤ 1048576) (hi : i ≤ 1048576) :
    Calls Tryz.prog 60 #[.agg #[.int .i64 k, .int .i64 ((b + 1 : Nat) : Int), .int .i64 s, .int .i64 p], .int .i64 i] w fun e w' => e = .returned (.int .i64 ((106 + 8 * b + 1 + i : Nat) : Int)) ∧ Fr New w w' := by
  have HP : Hid (∀ w, Calls Tryz.prog 100 #[.agg #[.int .i64 k, .int .i64 ((b + 1 : Nat) : Int), .int .i64 s, .int .i64 p]] w fun e w' => e = .returned (.int .i64 ((106 + 8 * b : Nat) : Int)) ∧ Fr New w w') := fun w => tplace_any k s p b w hb
  obtain ⟨B, hB⟩ : ∃ B : Nat, B = b + 1 := ⟨_, rfl⟩
  obtain ⟨q, hq⟩ : ∃ q : Nat, q = 106 + 8 * b := ⟨_, rfl⟩
  have hqb : q ≤ 8388714 := by omega
  rw [← hB, ← hq] at HP
  rw [← hB, ← hq]
  clear hB hq
  go_enter Tryz.func60, Tryz.ntmps60
  go_wp2_with (go_at_call 100; refine (HP.out _).mono ?_; rintro e w1 ⟨rfl, hf1⟩)
  go_ret
  exact ⟨ret_i (by omega), ((Fr.refl _ _).alloc _).same hf1⟩

theorem Tryz.info115 : (Tryz.prog.info? 115).map (fun i => (i.zero, i.size, i.bytes)) = some (some (.agg #[.int .i64 0, .int .i64 0, .int .i64 0, .int .i64 0]), 4, 32) := by kernel_rfl
def thCells (o : Ob) : List Value := [.int .i64 1, .int .i64 ((o.block + 1 : Nat) : Int), .int .i64 o.span, .int .i64 o.ptrs]
def thsCells (l : List Ob) : List Value := l.flatMap thCells
theorem thsCells_snoc (l : List Ob) (o : Ob) : thsCells (l ++ [o]) = thsCells l ++ thCells o := by simp [thsCells]
/-- a wrong header's thing, by its place -/
def bdCells (q : Nat) : List Value := [.int .i64 2, .int .i64 (((q - 106) / 8 + 1 : Nat) : Int), .int .i64 1, .int .i64 0]
def bdsCells (l : List Nat) : List Value := l.flatMap bdCells
theorem bdsCells_snoc (l : List Nat) (q : Nat) : bdsCells (l ++ [q]) = bdsCells l ++ bdCells q := by simp [bdsCells]
abbrev OwnT (base : Nat) (w : World) (v : Value) (l : List Ob) : Prop := w.ownsRow base 115 4 v l.length (thsCells l)
abbrev OwnB (base : Nat) (w : World) (v : Value) (l : List Nat) : Prop := w.ownsRow base 115 4 v l.length (bdsCells l)

/-- what the walk's closure keeps: two variables, two rows; H: they lie below it -/
structure Surv (w0 : World) (H : Nat) (os : List Ob) (bs : List Nat) (vl vb : Value) (wr : World) : Prop where
  cl : wr.heap[w0.heap.size]? = some (.cells #[vl] 111 (0, 0))
  cb : wr.heap[w0.heap.size + 1]? = some (.cells #[vb] 110 (0, 0))
  l : OwnT w0.heap.size wr vl os
  b : OwnB w0.heap.size wr vb bs
  apart : ∀ g, vl.ownBlock = some g → vb.ownBlock ≠ some g
  lowl : ∀ g, vl.ownBlock = some g → g < H
  lowb : ∀ g, vb.ownBlock = some g → g < H
  two : w0.heap.size + 2 ≤ H
  fr : Fr New w0 wr
theorem Surv.grow {w0 : World} {H H' : Nat} {os : List Ob} {bs : List Nat} {vl vb : Value} {wr w' : World} (h : Surv w0 H os bs vl vb wr) (hf : Fr New wr w') (hH : H ≤ H') : Surv w0 H' os bs vl vb w' :=
  ⟨hf.heap h.cl id, hf.heap h.cb id, hf.owns h.l (fun _ _ h => h), hf.owns h.b (fun _ _ h => h), h.apart, fun g hg => Nat.lt_of_lt_of_le (h.lowl g hg) hH, fun g hg => Nat.lt_of_lt_of_le (h.lowb g hg) hH, Nat.le_trans h.two hH, h.fr.same hf⟩

theorem Surv.varl {w0 : World} {H : Nat} {os : List Ob} {bs : List Nat} {vl vb : Value} {wr w1 w2 : World} (h : Surv w0 H os bs vl vb wr) (hf : Fr New wr w1) (hg : w1.grownBy w2 vl.ownBlock) : w2.heap[w0.heap.size]? = some (.cells #[vl] 111 (0, 0)) := by
  have h1 := h.grow hf (Nat.le_refl _)
  have h2 : Fr (fun k => vl.ownBlock = some k) w1 w2 := (Fr.refl _ _).grown hg (fun k _ hk => hk)
  exact h2.heap h1.cl (fun hv => by
    obtain ⟨_, c, hc⟩ := own_block h1.l hv
    exact type_ne h1.cl hc (by decide) rfl)
theorem Surv.varb {w0 : World} {H : Nat} {os : List Ob} {bs : List Nat} {vl vb : Value} {wr w1 w2 : World} (h : Surv w0 H os bs vl vb wr) (hf : Fr New wr w1) (hg : w1.grownBy w2 vb.ownBlock) : w2.heap[w0.heap.size + 1]? = some (.cells #[vb] 110 (0, 0)) := by
  have h1 := h.grow hf (Nat.le_refl _)
  have h2 : Fr (fun k => vb.ownBlock = some k) w1 w2 := (Fr.refl _ _).grown hg (fun k _ hk => hk)
  exact h2.heap h1.cb (fun hv => by
    obtain ⟨_, c, hc⟩ := own_block h1.b hv
    exact type_ne h1.cb hc (by decide) rfl)
/-- behind an append to the objects and its store -/
theorem Surv.ob {w0 : World} {H : Nat} {os : List Ob} {bs : List Nat} {vl vb : Value} {wr w1 w2 : World} {o : Ob} (h : Surv w0 H os bs vl vb wr) (hH : H ≤ wr.heap.size) (hf : Fr New wr w1) {v2 : Value}
    (ho : w2.ownsRow w0.heap.size 115 4 v2 (os.length + 1) (thsCells os ++ thCells o)) (hg : w1.grownBy w2 vl.ownBlock) (hb : v2.ownBlock = vl.ownBlock ∨ v2.ownBlock = some w1.heap.size) :
    Surv w0 (w2.setCell ⟨w0.heap.size, 0, none⟩ v2).heap.size (os ++ [o]) bs v2 vb (w2.setCell ⟨w0.heap.size, 0, none⟩ v2) ∧ (∀ k, H ≤ k → k < wr.heap.size → (w2.setCell ⟨w0.heap.size, 0, none⟩ v2).heap[k]? = wr.heap[k]?) := by
  have h1 := h.grow hf (Nat.le_refl _)
  have h2 : Fr (fun k => vl.ownBlock = some k) w1 w2 := (Fr.refl _ _).grown hg (fun k _ hk => hk)
  have hnl : ∀ t, t ≠ 115 → ∀ g cur, w1.heap[g]? = some (.cells cur t (0, 0)) → ¬ vl.ownBlock = some g := fun t ht g cur hg hv => by
    obtain ⟨_, c, hc⟩ := own_block h1.l hv
    exact type_ne hg hc ht rfl
  have c1 := h2.heap h1.cl (hnl _ (by decide) _ _ h1.cl)
  have c2 := h2.heap h1.cb (hnl _ (by decide) _ _ h1.cb)
  have hb2 := h2.owns h1.b (fun g hg hv => h.apart g hv hg)
  have h3 : Fr (fun k => k = w0.heap.size) w2 (w2.setCell ⟨w0.heap.size, 0, none⟩ v2) := (Fr.refl (fun k => k = w0.heap.size) w2).setCell (p := ⟨w0.heap.size, 0, none⟩) (fun _ => rfl) _
  have hne : ∀ {B : Nat} {v : Value} {n : Nat} {ys : List Value}, w2.ownsRow B 115 4 v n ys → ∀ g, v.ownBlock = some g → ¬ g = w0.heap.size := fun hw g hg he => by
    obtain ⟨_, c, hc⟩ := own_block hw hg
    exact type_ne hc c1 (by decide) he
  have hs : w2.heap.size = (w2.setCell ⟨w0.heap.size, 0, none⟩ v2).heap.size := (World.size_setCell _ _ _).symm
  refine ⟨⟨(heap_setCell_same w2 _ 0 _ _ _ c1).trans (by simp), h3.heap c2 (by simp), h3.owns (by rw [thsCells_snoc, List.length_append]; exact ho) (hne ho), h3.owns hb2 (hne hb2), ?_, ?_, ?_, ?_, ?_⟩, ?_⟩
  · intro g hg' hv
    rcases hb with hb | hb
    · exact h.apart g (by rw [← hb]; exact hg') hv
    · rw [hb] at hg'
      simp only [Option.some.injEq] at hg'
      have := h.lowb g hv
      have := hf.size
      omega
  · intro g hg'
    rw [← hs]
    exact (ho.lt g hg').2
  · intro g hg'
    rw [← hs]
    exact (hb2.lt g hg').2
  · rw [← hs]
    have := h.two; have := hf.size; have := h2.size
    omega
  · refine (h1.fr.trans h2 (fun j hj hv => ?_)).trans h3 (fun j hj he => by omega)
    have := (own_block h1.l hv).1
    omega
  · intro k hk hk'
    have := h.two
    rw [h3.block k (by have := hf.size; have := h2.size; omega) (by omega), h2.block k (by have := hf.size; omega) (fun hv => by have := h.lowl k hv; omega), hf.block k hk' id]
theorem Surv.bad {w0 : World} {H : Nat} {os : List Ob} {bs : List Nat} {vl vb : Value} {wr w1 w2 : World} {q : Nat} (h : Surv w0 H os bs vl vb wr) (hH : H ≤ wr.heap.size) (hf : Fr New wr w1) {v2 : Value}
    (ho : w2.ownsRow w0.heap.size 115 4 v2 (bs.length + 1) (bdsCells bs ++ bdCells q)) (hg : w1.grownBy w2 vb.ownBlock) (hb : v2.ownBlock = vb.ownBlock ∨ v2.ownBlock = some w1.heap.size) :
    Surv w0 (w2.setCell ⟨w0.heap.size + 1, 0, none⟩ v2).heap.size os (bs ++ [q]) vl v2 (w2.setCell ⟨w0.heap.size + 1, 0, none⟩ v2) ∧ (∀ k, H ≤ k → k < wr.heap.size → (w2.setCell ⟨w0.heap.size + 1, 0, none⟩ v2).heap[k]? = wr.heap[k]?) := by
  have h1 := h.grow hf (Nat.le_refl _)
  have h2 : Fr (fun k => vb.ownBlock = some k) w1 w2 := (Fr.refl _ _).grown hg (fun k _ hk => hk)
  have hnl : ∀ t, t ≠ 115 → ∀ g cur, w1.heap[g]? = some (.cells cur t (0, 0)) → ¬ vb.ownBlock = some g := fun t ht g cur hg hv => by
    obtain ⟨_, c, hc⟩ := own_block h1.b hv
    exact type_ne hg hc ht rfl
  have c1 := h2.heap h1.cl (hnl _ (by decide) _ _ h1.cl)
  have c2 := h2.heap h1.cb (hnl _ (by decide) _ _ h1.cb)
  have hb2 := h2.owns h1.l (fun g hg hv => h.apart g hg hv)
  have h3 : Fr (fun k => k = w0.heap.size + 1) w2 (w2.setCell ⟨w0.heap.size + 1, 0, none⟩ v2) := (Fr.refl (fun k => k = w0.heap.size + 1) w2).setCell (p := ⟨w0.heap.size + 1, 0, none⟩) (fun _ => rfl) _
  have hne : ∀ {B : Nat} {v : Value} {n : Nat} {ys : List Value}, w2.ownsRow B 115 4 v n ys → ∀ g, v.ownBlock = some g → ¬ g = w0.heap.size + 1 := fun hw g hg he => by
    obtain ⟨_, c, hc⟩ := own_block hw hg
    exact type_ne hc c2 (by decide) he
  have hs : w2.heap.size = (w2.setCell ⟨w0.heap.size + 1, 0, none⟩ v2).heap.size := (World.size_setCell _ _ _).symm
  refine ⟨⟨h3.heap c1 (by simp), (heap_setCell_same w2 _ 0 _ _ _ c2).trans (by simp), h3.owns hb2 (hne hb2), h3.owns (by rw [bdsCells_snoc, List.length_append]; exact ho) (hne ho), ?_, ?_, ?_, ?_, ?_⟩, ?_⟩
  · intro g hg' hv
    rcases hb with hb | hb
    · exact h.apart g hg' (by rw [← hb]; exact hv)
    · rw [hb] at hv
      simp only [Option.some.injEq] at hv
      have := h.lowl g hg'
      have := hf.size
      omega
  · intro g hg'
    rw [← hs]
    exact (hb2.lt g hg').2
  · intro g hg'
    rw [← hs]
    exact (ho.lt g hg').2
  · rw [← hs]
    have := h.two; have := hf.size; have := h2.size
    omega
  · refine (h1.fr.trans h2 (fun j hj hv => ?_)).trans h3 (fun j hj he => by omega)
    have := (own_block h1.b hv).1
    omega
  · intro k hk hk'
    have := h.two
    rw [h3.block k (by have := hf.size; have := h2.size; omega) (by omega), h2.block k (by have := hf.size; omega) (fun hv => by have := h.lowb k hv; omega), hf.block k hk' id]

theorem thCells_one (o : Ob) : ∀ u ∈ thCells o, u.oneCell' = true := by
  intro u hu
  simp only [thCells, List.mem_cons, List.not_mem_nil, or_false] at hu
  rcases hu with rfl | rfl | rfl | rfl <;> rfl
theorem bdCells_one (q : Nat) : ∀ u ∈ bdCells q, u.oneCell' = true := by
  intro u hu
  simp only [bdCells, List.mem_cons, List.not_mem_nil, or_false] at hu
  rcases hu with rfl | rfl | rfl | rfl <;> rfl

/-- the closure, told of a free block -/
theorem tell_free (w0 : World) (B : Int) (w : World) :
    Calls Tryz.prog 140 #[.agg #[.int .i64 0, .int .i64 B, .int .i64 1, .int .i64 0], .pointer (some ⟨w0.heap.size, 0, none⟩), .pointer (some ⟨w0.heap.size + 1, 0, none⟩)] w fun e w' => e = .returned (.tuple #[]) ∧ Fr New w w' := by
  go_enter Tryz.func140, Tryz.ntmps140
  go_wp2
  go_end0
  exact ⟨rfl, (Fr.refl _ _).alloc _⟩
set_option maxRecDepth 100000 in
theorem tell_ob (w0 : World) (H : Nat) (os : List Ob) (bs : List Nat) (vl vb : Value) (o : Ob) (w : World) (h : Surv w0 H os bs vl vb w) (hH : H ≤ w.heap.size) (hlen : os.length ≤ 1048576) :
    Calls Tryz.prog 140 #[.agg #[.int .i64 1, .int .i64 ((o.block + 1 : Nat) : Int), .int .i64 o.span, .int .i64 o.ptrs], .pointer (some ⟨w0.heap.size, 0, none⟩), .pointer (some ⟨w0.heap.size + 1, 0, none⟩)] w fun e w' => e = .returned (.tuple #[]) ∧ ∃ vl', Surv w0 w'.heap.size (os ++ [o]) bs vl' vb w' ∧ ∀ k, H ≤ k → k < w.heap.size → w'.heap[k]? = w.heap[k]? := by
  obtain ⟨i0, hi, hz0, hz1, hz2⟩ := info_parts Tryz.info115
  have hcl0 : w.cell? ⟨w0.heap.size, 0, none⟩ = some vl := ((block_cells h.cl).1 0).trans rfl
  have hlt : w0.heap.size < w.heap.size := lt_of_block h.cl
  go_enter Tryz.func140, Tryz.ntmps140
  go_wp2_with (first
    | (at_builtin; refine wpList_append_own_at _ rfl (.tmp 8) (.tmp 10) 111 rfl w0.heap.size 115 i0 _ 4 32 Tryz.underlying111 hi hz0 hz1 hz2 rfl (by decide) vl _ _ rfl (((Fr.refl New w).alloc _).alloc _ |>.owns h.l (fun _ _ h => h)) ⟨w.heap.size + 1, 0, none⟩ 1 1 (thCells o) rfl rfl (World.news_of_block (new_at2 w _ _)) (thCells_one _) (by unfold maxLen; omega) (by omega) (by simp; omega) ?_; intro v2 w2 ho2 hg2 _ hb2; have hfin := h.ob hH (((Fr.refl New w).alloc _).alloc _) ho2 hg2 hb2; obtain ⟨hcx, hzx⟩ := block_cells (h.varl (((Fr.refl New w).alloc _).alloc _) hg2); obtain ⟨a2, c2, rfl⟩ := own_slice ho2)
    | fail)
  go_end0
  exact ⟨rfl, _, hfin⟩
set_option maxRecDepth 100000 in
theorem tell_bad (w0 : World) (H : Nat) (os : List Ob) (bs : List Nat) (vl vb : Value) (b : Nat) (w : World) (h : Surv w0 H os bs vl vb w) (hH : H ≤ w.heap.size) (hlen : bs.length ≤ 1048576) :
    Calls Tryz.prog 140 #[.agg #[.int .i64 2, .int .i64 ((b + 1 : Nat) : Int), .int .i64 1, .int .i64 0], .pointer (some ⟨w0.heap.size, 0, none⟩), .pointer (some ⟨w0.heap.size + 1, 0, none⟩)] w fun e w' => e = .returned (.tuple #[]) ∧ ∃ vb', Surv w0 w'.heap.size os (bs ++ [106 + 8 * b]) vl vb' w' ∧ ∀ k, H ≤ k → k < w.heap.size → w'.heap[k]? = w.heap[k]? := by
  obtain ⟨i0, hi, hz0, hz1, hz2⟩ := info_parts Tryz.info115
  have hcl0 : w.cell? ⟨w0.heap.size + 1, 0, none⟩ = some vb := ((block_cells h.cb).1 0).trans rfl
  have hlt : w0.heap.size + 1 < w.heap.size := lt_of_block h.cb
  have he : bdCells (106 + 8 * b) = [.int .i64 2, .int .i64 ((b + 1 : Nat) : Int), .int .i64 1, .int .i64 0] := by unfold bdCells; rw [show (106 + 8 * b - 106) / 8 = b by omega]
  have HE : Hid (bdCells (106 + 8 * b) = [.int .i64 2, .int .i64 ((b + 1 : Nat) : Int), .int .i64 1, .int .i64 0]) := he
  clear he
  go_enter Tryz.func140, Tryz.ntmps140
  go_wp2_with (first
    | (at_builtin; refine wpList_append_own_at _ rfl (.tmp 14) (.tmp 16) 110 rfl w0.heap.size 115 i0 _ 4 32 Tryz.underlying110 hi hz0 hz1 hz2 rfl (by decide) vb _ _ rfl (((Fr.refl New w).alloc _).alloc _ |>.owns h.b (fun _ _ h => h)) ⟨w.heap.size + 1, 0, none⟩ 1 1 (bdCells (106 + 8 * b)) rfl rfl (by rw [HE.out]; exact World.news_of_block (new_at2 w _ _)) (bdCells_one _) (by unfold maxLen; omega) (by omega) (by simp; omega) ?_; intro v2 w2 ho2 hg2 _ hb2; have hfin := h.bad hH (((Fr.refl New w).alloc _).alloc _) ho2 hg2 hb2; obtain ⟨hcx, hzx⟩ := block_cells (h.varb (((Fr.refl New w).alloc _).alloc _) hg2); obtain ⟨a2, c2, rfl⟩ := own_slice ho2)
    | fail)
  go_end0
  exact ⟨rfl, _, hfin⟩

/-- what the walk keeps -/
structure Walk2 (w0 : World) (ws : List Int) (n b : Nat) (os : List Ob) (bs : List Nat) (wr : World) : Prop where
  s : ∃ vl vb, Surv w0 wr.heap.size os bs vl vb wr
  all : walkS ws n 0 = (os ++ (walkS ws n b).1, bs ++ (walkS ws n b).2)
  len : os.length ≤ b
  len' : bs.length ≤ b
set_option maxHeartbeats 2000000 in
set_option maxRecDepth 100000 in
theorem walk2_any (w0 : World) (t : Nat) (x : Value) (fL fR : Nat) (y : Value) (L n : Nat) (ws : List Int) (w : World) (hL : ws.length = L) (hn : L = 106 + 8 * n) (hn32 : n ≤ 32) (hrow : RowAt w0 t x fL fR y ws) (hW : Walk2 w0 ws n 0 [] [] w) :
    Calls Tryz.prog 115 #[Value.iface t x, .func (.func 140) #[] #[.pointer (some ⟨w0.heap.size, 0, none⟩), .pointer (some ⟨w0.heap.size + 1, 0, none⟩)]] w fun e w' => e = .returned (.tuple #[]) ∧ ∃ vl vb, Surv w0 w'.heap.size (walkS ws n 0).1 (walkS ws n 0).2 vl vb w' := by
  have HB : Hid (∀ w, Calls Tryz.prog 95 #[.int .i64 (L : Int)] w fun e w' => e = .returned (.int .i64 (n : Int)) ∧ w' = w) := fun w => by
    have := lblocks_any L w (by omega) (by omega)
    rwa [show (L - 106) / 8 = n by omega] at this
  have HF : Hid (∀ b, b < n → ∀ wr, Fr New w0 wr → Calls Tryz.prog 148 #[Value.iface t x, .int .i64 ((b + 1 : Nat) : Int), .int .i64 (n : Int)] wr fun e w' => e = .returned (slotV (slotAt ws b) b) ∧ Fr New wr w') := fun b hb wr hf => find_thing t x fL fR y L n b ws wr hL hn hn32 hb (hrow.grow hf)
  have HL : Hid (ws.length = 106 + 8 * n) := hL.trans hn
  have hfw : Fr New w0 w := by obtain ⟨_, _, hS⟩ := hW.s; exact hS.fr
  have hm := hrow.mlen w hfw
  have hcf := hrow.clen
  have HLN : Hid (Calls Tryz.prog fL #[y] w fun e w'' => e = .returned (.int .i64 L) ∧ w'' = w) := by rw [← hL]; exact hrow.len w hfw
  have hL1 : L ≤ 362 := by omega
  clear hL hn hrow hfw
  go_enter Tryz.func115, Tryz.ntmps115
  go_wp2_with (first
    | (go_at_call 95; refine calls_same (HB.out _) ?_)
    | (refine calls_same HLN.out ?_))
  go_loopg [5] n (fun gh t wr => ∃ b os bs, b ≤ n ∧ gh = n - b ∧ t = .int .i64 ((b + 1 : Nat) : Int) ∧ Walk2 w0 ws n b os bs wr)
  case atStart => exact ⟨0, [], [], by omega, rfl, rfl, hW⟩
  case round =>
    clear hW
    obtain ⟨b, os, bs, hbn, rfl, rfl, hw⟩ := hrel
    obtain ⟨vl, vb, hS⟩ := hw.s
    obtain ⟨B, hB⟩ : ∃ B : Nat, B = b + 1 := ⟨_, rfl⟩
    by_cases hb : b < n
    · have HO := HF.out b hb wr hS.fr
      have HO' : Hid (Calls Tryz.prog 148 #[Value.iface t x, .int .i64 (B : Int), .int .i64 (n : Int)] wr fun e w' => e = .returned (slotV (slotAt ws b) b) ∧ Fr New wr w') := by rw [hB]; exact HO
      clear HO
      rw [← hB]
      have HBB : Hid (B = b + 1) := hB
      have hBn : B ≤ n := by omega
      clear hB
      rcases hs : slotAt ws b with _ | _ | o
      · rw [hs] at HO'
        have HO2 : Hid (Calls Tryz.prog 148 #[Value.iface t x, .int .i64 (B : Int), .int .i64 (n : Int)] wr fun e w' => e = .returned (.agg #[.int .i64 0, .int .i64 B, .int .i64 1, .int .i64 0]) ∧ Fr New wr w') := by rw [HBB.out]; rw [HBB.out] at HO'; exact HO'.out
        have HN : Hid (∀ w2, Fr New wr w2 → Walk2 w0 ws n (b + 1) os bs w2) := fun w2 hf => ⟨⟨vl, vb, hS.grow hf hf.size⟩, by rw [hw.all, walk_free hb hs], by have := hw.len; omega, by have := hw.len'; omega⟩
        clear hs HO' hw hS
        go_wp2_with (first
          | (go_at_call 148; refine HO2.out.mono ?_; rintro e w1 ⟨rfl, hf1⟩)
          | (go_at_call 140; refine (tell_free w0 B _).mono ?_; rintro e w2 ⟨rfl, hf2⟩; obtain ⟨hct, hzt⟩ := block_cells (hf2.heap (Go.Deep.blk_alloc_new w1 _) id))
          | fail)
        go_roundg (n - (b + 1))
        case measure => omega
        case rel => exact ⟨b + 1, os, bs, by omega, rfl, by rw [HBB.out]; go_num, HN.out _ ((hf1.alloc _).same hf2)⟩
      · rw [hs] at HO'
        have HO2 : Hid (Calls Tryz.prog 148 #[Value.iface t x, .int .i64 (B : Int), .int .i64 (n : Int)] wr fun e w' => e = .returned (.agg #[.int .i64 2, .int .i64 B, .int .i64 1, .int .i64 0]) ∧ Fr New wr w') := by rw [HBB.out]; rw [HBB.out] at HO'; exact HO'.out
        have HT : Hid (∀ w1, Fr New wr w1 → Calls Tryz.prog 140 #[.agg #[.int .i64 2, .int .i64 (B : Int), .int .i64 1, .int .i64 0], .pointer (some ⟨w0.heap.size, 0, none⟩), .pointer (some ⟨w0.heap.size + 1, 0, none⟩)] w1 fun e w' => e = .returned (.tuple #[]) ∧ Walk2 w0 ws n (b + 1) os (bs ++ [106 + 8 * b]) w' ∧ ∀ k, wr.heap.size ≤ k → k < w1.heap.size → w'.heap[k]? = w1.heap[k]?) := fun w1 hf => by
          rw [HBB.out]
          refine (tell_bad w0 wr.heap.size os bs vl vb b w1 (hS.grow hf (Nat.le_refl _)) hf.size (by have := hw.len'; omega)).mono ?_
          rintro e w' ⟨rfl, vb', hS', hk⟩
          exact ⟨rfl, ⟨⟨vl, vb', hS'⟩, by rw [hw.all, walk_bad hb hs]; simp, by have := hw.len; omega, by have := hw.len'; simp; omega⟩, hk⟩
        clear hs HO' hw hS
        go_wp2_with (first
          | (go_at_call 148; refine HO2.out.mono ?_; rintro e w1 ⟨rfl, hf1⟩)
          | (go_at_call 140; refine (HT.out _ (hf1.alloc _)).mono ?_; rintro e w2 ⟨rfl, hw2, hk2⟩; obtain ⟨hct, hzt⟩ := block_cells ((hk2 w1.heap.size hf1.size (by simp)).trans (Go.Deep.blk_alloc_new w1 _)))
          | fail)
        go_roundg (n - (b + 1))
        case measure => omega
        case rel => exact ⟨b + 1, os, _, by omega, rfl, by rw [HBB.out]; go_num, hw2⟩
      · have hso := slot_obs hs
        rw [hs] at HO'
        obtain ⟨ob, osp, op⟩ := o
        obtain ⟨hob, hs1, hs4, hp, hle⟩ := hso
        simp only at hob hs1 hs4 hp hle
        obtain rfl : b = ob := hob.symm
        have hle' : b + osp ≤ n := by rw [HL.out] at hle; omega
        have HO2 : Hid (Calls Tryz.prog 148 #[Value.iface t x, .int .i64 (B : Int), .int .i64 (n : Int)] wr fun e w' => e = .returned (.agg #[.int .i64 1, .int .i64 B, .int .i64 osp, .int .i64 op]) ∧ Fr New wr w') := by rw [HBB.out]; rw [HBB.out] at HO'; exact HO'.out
        have HT : Hid (∀ w1, Fr New wr w1 → Calls Tryz.prog 140 #[.agg #[.int .i64 1, .int .i64 (B : Int), .int .i64 osp, .int .i64 op], .pointer (some ⟨w0.heap.size, 0, none⟩), .pointer (some ⟨w0.heap.size + 1, 0, none⟩)] w1 fun e w' => e = .returned (.tuple #[]) ∧ Walk2 w0 ws n (b + osp) (os ++ [⟨b, osp, op⟩]) bs w' ∧ ∀ k, wr.heap.size ≤ k → k < w1.heap.size → w'.heap[k]? = w1.heap[k]?) := fun w1 hf => by
          rw [HBB.out]
          refine (tell_ob w0 wr.heap.size os bs vl vb ⟨b, osp, op⟩ w1 (hS.grow hf (Nat.le_refl _)) hf.size (by have := hw.len; omega)).mono ?_
          rintro e w' ⟨rfl, vb', hS', hk⟩
          exact ⟨rfl, ⟨⟨_, _, hS'⟩, by rw [hw.all, walk_ob hb hs]; simp, by have := hw.len; simp; omega, by have := hw.len'; omega⟩, hk⟩
        clear hs HO' hw hS hle
        go_wp2_with (first
          | (go_at_call 148; refine HO2.out.mono ?_; rintro e w1 ⟨rfl, hf1⟩)
          | (go_at_call 140; refine (HT.out _ (hf1.alloc _)).mono ?_; rintro e w2 ⟨rfl, hw2, hk2⟩; obtain ⟨hct, hzt⟩ := block_cells ((hk2 w1.heap.size hf1.size (by simp)).trans (Go.Deep.blk_alloc_new w1 _)))
          | fail)
        go_roundg (n - (b + osp))
        case measure => omega
        case rel => exact ⟨b + osp, _, bs, by omega, rfl, by rw [HBB.out]; go_num, hw2⟩
    · have hend := hw.all
      rw [walk_end hb, List.append_nil, List.append_nil] at hend
      have HE : Hid (walkS ws n 0 = (os, bs)) := hend
      have hBn : n < B := by omega
      rw [← hB]
      clear hend hw hB
      go_wp2
      go_end0
      rw [HE.out]
      exact ⟨rfl, vl, vb, hS⟩
end Go.Proofs.YtbagcjlimdilpaaGreat
