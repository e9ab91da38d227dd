/- Texts that follow one another, joined. -/
import Derived.Test.YtbagcjlimdilpaaGreatHhJ9
import Derived.Maps.AppendAt
import Derived.Deep.AppendLies
import Derived.Test.YtbagcjlimdilpaaGreatHhJ4
import Derived.Deep.RegionHeld3
import Derived.Deep.CutRange
/- The document's heap whole: its words, its words now, its stores; walks of put, flush, Rollback. -/
namespace Go.Proofs.YtbagcjlimdilpaaGreat
open Go.RowKit

/-- a store -/
structure St where
  k : Int
  at' : Int
  v : Int
def stCells (s : St) : List Value := [.int .i64 s.k, .int .i64 s.at', .int .u64 s.v]
def stsCells (l : List St) : List Value := l.flatMap stCells
theorem stsCells_snoc (l : List St) (s : St) : stsCells (l ++ [s]) = stsCells l ++ stCells s := by simp [stsCells]
theorem stCells_one (s : St) : ∀ u ∈ stCells s, u.oneCell' = true := by
  intro u hu
  simp only [stCells, List.mem_cons, List.not_mem_nil, or_false] at hu
  rcases hu with rfl | rfl | rfl <;> rfl
theorem Tryz.info122 : (Tryz.prog.info? 122).map (fun i => (i.zero, i.size, i.bytes)) = some (some (.agg #[.int .i64 0, .int .i64 0, .int .u64 0]), 3, 24) := by kernel_rfl

/-- the heap at block hb: its words and its stores; vn: its words now, whatever they are -/
structure RHG (hb gw cw L : Nat) (vn vs : Value) (ws : List Int) (st : List St) (w : World) : Prop where
  blk : w.heap[hb]? = some (.cells #[.slice (some ⟨gw, 0, none⟩) L cw, vn, vs] 141 (0, 0))
  ownw : w.ownsRow 0 50 1 (.slice (some ⟨gw, 0, none⟩) L cw) L (ws.map (Value.int .u64))
  owns : w.ownsRow 0 122 3 vs st.length (stsCells st)
  lenw : ws.length = L
  n0 : nblk L ≠ 0
theorem RHG.fr {hb gw cw L : Nat} {vn vs : Value} {ws : List Int} {st : List St} {w w' : World} (h : RHG hb gw cw L vn vs ws st w) (hf : Fr New w w') : RHG hb gw cw L vn vs ws st w' :=
  ⟨hf.heap h.blk id, hf.owns h.ownw (fun _ _ h => h), hf.owns h.owns (fun _ _ h => h), h.lenw, h.n0⟩
theorem RHG.rowU {hb gw cw L : Nat} {vn vs : Value} {ws : List Int} {st : List St} {w : World} (h : RHG hb gw cw L vn vs ws st w) : RowU w (some ⟨gw, 0, none⟩) ws := rowU_own h.ownw

/-- which old blocks a store turns -/
def TurnedH (hb gw : Nat) (vs : Value) (k : Nat) : Prop := k = hb ∨ k = gw ∨ vs.ownBlock = some k
/-- behind an append to the stores, and its keeping -/
theorem RHG.stored {hb gw cw L : Nat} {vn vs : Value} {ws : List Int} {st : List St} {w w1 w2 : World} {s : St} (h : RHG hb gw cw L vn vs ws st w) (hf : Fr New w w1) {v2 : Value}
    (ho : w2.ownsRow 0 122 3 v2 (st.length + 1) (stsCells st ++ stCells s)) (hg : w1.grownBy w2 vs.ownBlock) :
    RHG hb gw cw L vn v2 ws (st ++ [s]) (w2.setCell ⟨hb, 2, none⟩ v2) ∧ Fr (TurnedH hb gw vs) w (w2.setCell ⟨hb, 2, none⟩ v2) := by
  have h1 := h.fr hf
  have h2 : Fr (fun k => vs.ownBlock = some k) w1 w2 := (Fr.refl _ _).grown hg (fun k _ hk => hk)
  have hne : ∀ t, t ≠ 122 → ∀ g cur, w1.heap[g]? = some (.cells cur t (0, 0)) → ¬ vs.ownBlock = some g := fun t ht g cur hg hv => by
    obtain ⟨_, c, hc⟩ := own_block h1.owns hv
    exact type_ne hg hc ht rfl
  have b2 := h2.heap h1.blk (hne _ (by decide) _ _ h1.blk)
  have u : ∀ {v : Value} {n : Nat} {ys : List Value}, w1.ownsRow 0 50 1 v n ys → w2.ownsRow 0 50 1 v n ys := fun hw => h2.owns hw (fun g hg => by
    obtain ⟨_, c, hc⟩ := own_block hw hg
    exact hne _ (by decide) _ _ hc)
  have h3 : Fr (fun k => k = hb) w2 (w2.setCell ⟨hb, 2, none⟩ v2) := (Fr.refl (fun k => k = hb) w2).setCell (p := ⟨hb, 2, none⟩) (fun _ => rfl) _
  have h3' : ∀ {B : Nat} {e : TypeId} {sz : Nat} {v : Value} {n : Nat} {ys : List Value}, e ≠ 141 → w2.ownsRow B e sz v n ys → (w2.setCell ⟨hb, 2, none⟩ v2).ownsRow B e sz v n ys := fun he hw => h3.owns hw (fun g hg hh => by
    obtain ⟨_, c, hc⟩ := own_block hw hg
    exact type_ne hc b2 he hh)
  refine ⟨⟨(heap_setCell_same w2 _ 2 _ _ _ b2).trans (by simp), h3' (by decide) (u h1.ownw), h3' (by decide) (by rw [stsCells_snoc, List.length_append]; exact ho), h.lenw, h.n0⟩, ?_⟩
  exact (((Fr.refl (TurnedH hb gw vs) w).same hf).trans h2 (fun j _ hv => .inr (.inr hv))).trans h3 (fun j _ he => .inl he)

set_option maxRecDepth 100000 in
theorem flush_any (hb gw cw L : Nat) (vn vs : Value) (ws : List Int) (st : List St) (w : World) (h : RHG hb gw cw L vn vs ws st w) (hl : st.length ≤ 1099511000000) :
    Calls Tryz.prog 133 #[.pointer (some ⟨hb, 0, none⟩)] w fun e w' => e = .returned (.tuple #[]) ∧ ∃ vs', RHG hb gw cw L vn vs' ws (st ++ [⟨2, 0, 0⟩]) w' ∧ Fr (TurnedH hb gw vs) w w' ∧ (vs'.ownBlock = vs.ownBlock ∨ ∀ g, vs'.ownBlock = some g → w.heap.size ≤ g) := by
  obtain ⟨i0, hi, hz0, hz1, hz2⟩ := info_parts Tryz.info122
  obtain ⟨hcb, hzb⟩ := block_cells h.blk
  have hc2 : w.cell? ⟨hb, 2, none⟩ = some vs := (hcb 2).trans rfl
  have hbw : hb < w.heap.size := lt_of_block h.blk
  obtain ⟨sa, sc, rfl⟩ := own_slice h.owns
  clear hcb hzb
  go_enter Tryz.func133, Tryz.ntmps133
  go_wp2_with (first
    | (at_builtin; refine wpList_append_own_at _ rfl (.tmp 6) (.tmp 8) 48 rfl 0 122 i0 _ 3 24 Tryz.underlying48 hi hz0 hz1 hz2 rfl (by decide) _ _ _ rfl (h.owns.alloc _) ⟨w.heap.size, 0, none⟩ 1 1 (stCells ⟨2, 0, 0⟩) rfl rfl (World.news_of_block (Go.Deep.blk_alloc_new w _)) (stCells_one _) (by unfold maxLen; omega) (by omega) (by simp) ?_; intro v2 w2 ho2 hg2 _ hb2; have hfin := h.stored ((Fr.refl New w).alloc _) ho2 hg2; obtain ⟨hcx, hzx⟩ := block_cells (((Fr.refl (fun k => (Value.slice sa st.length sc).ownBlock = some k) _).grown hg2 (fun k _ hk => hk)).heap (((Fr.refl New w).alloc _).heap h.blk id) (fun hv => by obtain ⟨_, c, hc⟩ := own_block h.owns hv; exact type_ne h.blk hc (by decide) rfl)); obtain ⟨a2, c2, rfl⟩ := own_slice ho2)
    | fail)
  go_end0
  exact ⟨rfl, _, hfin.1, hfin.2, by rcases hb2 with h' | h'; exact .inl h'; exact .inr (fun g hg => by rw [h'] at hg; simp at hg; omega)⟩

set_option maxRecDepth 100000 in
theorem put_doc (hb gw cw L : Nat) (vn vs : Value) (ws : List Int) (st : List St) (q : Nat) (y : Int) (w : World) (h : RHG hb gw cw L vn vs ws st w) (hq : q < L) (hl : st.length ≤ 1099511000000) :
    Calls Tryz.prog 132 #[.pointer (some ⟨hb, 0, none⟩), .int .i64 q, .int .u64 y] w fun e w' => e = .returned (.tuple #[]) ∧ ∃ vs', RHG hb gw cw L vn vs' (ws.set q y) (st ++ [⟨1, q, y⟩]) w' ∧ Fr (TurnedH hb gw vs) w w' ∧ (vs'.ownBlock = vs.ownBlock ∨ ∀ g, vs'.ownBlock = some g → w.heap.size ≤ g) := by
  obtain ⟨i0, hi, hz0, hz1, hz2⟩ := info_parts Tryz.info122
  obtain ⟨hcb, hzb⟩ := block_cells h.blk
  have hc0 : w.cell? ⟨hb, 0, none⟩ = some (.slice (some ⟨gw, 0, none⟩) L cw) := (hcb 0).trans rfl
  have hc2 : w.cell? ⟨hb, 2, none⟩ = some vs := (hcb 2).trans rfl
  have hbw : hb < w.heap.size := lt_of_block h.blk
  have hqc : q < ws.length := by rw [h.lenw]; exact hq
  have hcq : w.cell? ⟨gw, q, none⟩ = some (.int .u64 (wd ws q)) := by
    rw [h.ownw.cellAt q (by omega)]
    unfold wd
    simp [hqc, List.getD]
  have hfq := h.ownw.frozenAt q
  obtain ⟨_, cu, hcu⟩ := own_block h.ownw rfl
  have hgb : ¬ hb = gw := fun he => type_ne h.blk hcu (by decide) he
  have hF1 : Fr (fun k => k = gw) w (w.setCell ⟨gw, q, none⟩ (.int .u64 y)) := (Fr.refl (fun k => k = gw) w).setCell (p := ⟨gw, q, none⟩) (fun _ => rfl) _
  have h1 : RHG hb gw cw L vn vs (ws.set q y) st (w.setCell ⟨gw, q, none⟩ (.int .u64 y)) :=
    ⟨hF1.heap h.blk hgb, by rw [List.map_set]; exact (h.ownw.stored q (.int .u64 y)).1, hF1.owns h.owns (fun g hg he => by
      obtain ⟨_, c1, h1⟩ := own_block h.owns hg
      exact type_ne h1 hcu (by decide) he), by simpa using h.lenw, h.n0⟩
  have hz : (w.setCell ⟨gw, q, none⟩ (.int .u64 y)).heap.size = w.heap.size := World.size_setCell _ _ _
  obtain ⟨sa, sc, rfl⟩ := own_slice h.owns
  have hgw : gw < w.heap.size := lt_of_block hcu
  clear hcb hzb
  go_enter Tryz.func132, Tryz.ntmps132
  go_wp2_with (first
    | (at_builtin; refine wpList_append_own_at _ rfl (.tmp 17) (.tmp 21) 48 rfl 0 122 i0 _ 3 24 Tryz.underlying48 hi hz0 hz1 hz2 rfl (by decide) _ _ _ rfl (h1.owns.alloc _) ⟨w.heap.size, 0, none⟩ 1 1 (stCells ⟨1, q, y⟩) rfl rfl (World.news_of_block (new_at _ _ _ hz)) (stCells_one _) (by unfold maxLen; omega) (by omega) (by simp) ?_; intro v2 w2 ho2 hg2 _ hb2; have hfin := h1.stored ((Fr.refl New _).alloc _) ho2 hg2; obtain ⟨hcx, hzx⟩ := block_cells (((Fr.refl (fun k => (Value.slice sa st.length sc).ownBlock = some k) _).grown hg2 (fun k _ hk => hk)).heap (((Fr.refl New _).alloc _).heap h1.blk id) (fun hv => by obtain ⟨_, c, hc⟩ := own_block h1.owns hv; exact type_ne h1.blk hc (by decide) rfl)); obtain ⟨a2, c2, rfl⟩ := own_slice ho2)
    | fail)
  go_end0
  exact ⟨rfl, _, hfin.1, (hF1.mono (fun j _ he => .inr (.inl he))).trans hfin.2 (fun j _ hj => hj), by rcases hb2 with h' | h'; exact .inl h'; exact .inr (fun g hg => by rw [h'] at hg; simp at hg; omega)⟩

theorem two_put {w : World} {hb : Nat} {x y z : Value} (h : w.heap[hb]? = some (.cells #[x, y, z] 141 (0, 0))) (y' : Value) : (w.setCell ⟨hb, 1, none⟩ y').heap[hb]? = some (.cells #[x, y', z] 141 (0, 0)) := (heap_setCell_same w hb 1 _ _ _ h).trans (by simp)
set_option maxRecDepth 100000 in
theorem rollback_any (hb gw cw L : Nat) (vn vs : Value) (ws : List Int) (st : List St) (w : World) (h : RHG hb gw cw L vn vs ws st w) :
    Calls Tryz.prog 85 #[.pointer (some ⟨hb, 0, none⟩)] w fun e w' => e = .returned (.tuple #[]) ∧ ∃ gn cn, w.heap.size ≤ gn ∧ RHG hb gw cw L (.slice (some ⟨gn, 0, none⟩) L cn) vs ws st w' ∧ w'.ownsRow 0 50 1 (.slice (some ⟨gn, 0, none⟩) L cn) L (ws.map (Value.int .u64)) ∧ Fr (fun k => k = hb) w w' := by
  obtain ⟨i0, hi0, hz0, hz1, hz2⟩ := info_parts Tryz.info50
  obtain ⟨hcb, hzb⟩ := block_cells h.blk
  have hc0 : w.cell? ⟨hb, 0, none⟩ = some (.slice (some ⟨gw, 0, none⟩) L cw) := (hcb 0).trans rfl
  have hbw : hb < w.heap.size := lt_of_block h.blk
  have hL1 : 114 ≤ L := by have := (nblk_some h.n0).1; have := (nblk_some h.n0).2.1; omega
  have hL2 : L ≤ 362 := by have := (nblk_some h.n0).1; have := (nblk_some h.n0).2.2; omega
  have HLN : Hid (ws.length = L) := h.lenw
  have HRW : Hid (RowU w (some ⟨gw, 0, none⟩) ws) := h.rowU
  have HCM : Hid (∀ (w2 : World) (g c : Nat), w2.ownsRow w.heap.size 50 1 (.slice (some ⟨g, 0, none⟩) (0 + L) c) (0 + L) ([] ++ ws.map (Value.int .u64)) → (w.alloc (.cells #[] 50)).grownBy w2 (Value.slice (some ⟨w.heap.size, 0, none⟩) 0 0).ownBlock → Mem2 w g c L ws w2) := fun w2 g c h1 h2 => by
    rw [← HLN.out] at h1 ⊢
    exact copy_mem h1 h2
  clear hcb hzb
  go_enter Tryz.func85, Tryz.ntmps85
  go_wp2_with (first
    | (at_builtin; refine wpList_append_lies _ rfl (.tmp 3) (.tmp 7) 43 rfl w.heap.size 50 i0 (.int .u64 0) 1 8 Tryz.underlying43 hi0 hz0 hz1 hz2 rfl (by decide) _ _ _ rfl (emptyU w) ⟨gw, 0, none⟩ L cw (ws.map (Value.int .u64)) rfl (by simp [HLN.out]) (copy_news HRW.out _) (ints_oneU ws) (by omega) (by unfold maxLen; omega) (by omega) (by simp) _ rfl ?_; intro g cg w2 hown2 hg2 _ _; have M2 : Mem2 w g cg L ws w2 := HCM.out w2 g cg hown2 hg2; clear hown2 hg2; obtain ⟨hcy, hzy⟩ := block_cells (M2.fr.heap h.blk id))
    | fail)
  have h2 := h.fr M2.fr
  have h3 : Fr (fun k => k = hb) w2 (w2.setCell ⟨hb, 1, none⟩ (.slice (some ⟨g, 0, none⟩) (0 + L) cg)) := (Fr.refl (fun k => k = hb) w2).setCell (p := ⟨hb, 1, none⟩) (fun _ => rfl) _
  have hu : ∀ {v : Value} {n : Nat} {ys : List Value} {B : Nat} {e : TypeId} {sz : Nat}, e ≠ 141 → w2.ownsRow B e sz v n ys → ∀ g, v.ownBlock = some g → ¬ g = hb := fun he hw g hg hh => by
    obtain ⟨_, c, hc⟩ := own_block hw hg
    exact type_ne hc h2.blk he hh
  rw [Nat.zero_add] at h3
  go_end0
  exact ⟨rfl, g, cg, M2.base, ⟨two_put h2.blk _, h3.owns h2.ownw (hu (by decide) h2.ownw), h3.owns h2.owns (hu (by decide) h2.owns), h.lenw, h.n0⟩, h3.owns (own_zero M2.own) (hu (by decide) M2.own), ((Fr.refl _ _).same M2.fr).trans h3 (fun j _ he => he)⟩
end Go.Proofs.YtbagcjlimdilpaaGreat
/- The document's Open: what it answers, and a heap while it is opened. -/
namespace Go.Proofs.YtbagcjlimdilpaaGreat
open Go.RowKit

/-- the words of a heap that is opened, and its stores -/
def openW (ws : List Int) : List Int := if (asksS ws).1 = 0 then ws else (doneS ws (asksS ws).1).set 8 0
def putsS (ws : List Int) (i : Nat) : List St := (List.range i).map (fun j => ⟨1, wd ws (10 + 2 * j), wd ws (11 + 2 * j)⟩)
theorem putsS_succ (ws : List Int) (i : Nat) : putsS ws (i + 1) = putsS ws i ++ [⟨1, wd ws (10 + 2 * i), wd ws (11 + 2 * i)⟩] := by simp [putsS, List.range_succ]
theorem putsS_len (ws : List Int) (i : Nat) : (putsS ws i).length = i := by simp [putsS]
def openSt (ws : List Int) : List St := if (asksS ws).1 = 0 then [] else putsS ws (asksS ws).1 ++ [⟨2, 0, 0⟩] ++ [⟨1, 8, 0⟩] ++ [⟨2, 0, 0⟩]
def OpenErr (ws : List Int) (c : Int) : Prop := (nblk ws.length = 0 ∧ c = 2) ∨ (nblk ws.length ≠ 0 ∧ (((asksS ws).2 = false ∧ c = 4) ∨ ((asksS ws).2 = true ∧ c ≠ 0 ∧ c ≠ 8 ∧ ∃ p, CheckIs (openW ws) c p)))
def OpenOk (ws : List Int) : Prop := nblk ws.length ≠ 0 ∧ (asksS ws).2 = true ∧ ∃ c p, CheckIs (openW ws) c p ∧ (c = 0 ∨ c = 8)
theorem open_not {ws : List Int} {c : Int} (h : OpenErr ws c) (h' : OpenOk ws) : False := by
  obtain ⟨h1, h2, c', p', h3, h4⟩ := h'
  rcases h with ⟨g1, _⟩ | ⟨_, ⟨g2, _⟩ | ⟨_, g3, g4, p, g5⟩⟩
  · exact h1 g1
  · rw [h2] at g2; cases g2
  · obtain ⟨rfl, _⟩ := told_one g5 h3
    rcases h4 with h4 | h4
    · exact g3 h4
    · exact g4 h4

/-- a heap that is being opened: all of it is new -/
structure Opening (w : World) (hb gw cw L : Nat) (vs : Value) (cur : List Int) (st : List St) (wr : World) : Prop where
  g : RHG hb gw cw L (.slice none 0 0) vs cur st wr
  fr : Fr New w wr
  v : ∀ k, vs.ownBlock = some k → w.heap.size ≤ k
  b : w.heap.size ≤ hb
  w' : w.heap.size ≤ gw
theorem Opening.grow {w : World} {hb gw cw L : Nat} {vs : Value} {cur : List Int} {st : List St} {wr wx : World} (h : Opening w hb gw cw L vs cur st wr) (hf : Fr New wr wx) : Opening w hb gw cw L vs cur st wx := ⟨h.g.fr hf, h.fr.same hf, h.v, h.b, h.w'⟩
theorem Opening.next {w : World} {hb gw cw L : Nat} {vs vs' : Value} {cur cur' : List Int} {st st' : List St} {wr wx : World} (h : Opening w hb gw cw L vs cur st wr) (g : RHG hb gw cw L (.slice none 0 0) vs' cur' st' wx) (hf : Fr (TurnedH hb gw vs) wr wx) (hv : vs'.ownBlock = vs.ownBlock ∨ ∀ k, vs'.ownBlock = some k → wr.heap.size ≤ k) : Opening w hb gw cw L vs' cur' st' wx := by
  refine ⟨g, h.fr.trans hf (fun j hj ht => ?_), fun k hk => ?_, h.b, h.w'⟩
  · rcases ht with rfl | rfl | ht
    · have := h.b; omega
    · have := h.w'; omega
    · have := h.v j ht; omega
  · rcases hv with hv | hv
    · exact h.v k (by rw [← hv]; exact hk)
    · have := hv k hk; have := h.fr.size; omega
theorem Opening.cell {w : World} {hb gw cw L : Nat} {vs : Value} {cur : List Int} {st : List St} {wr : World} (h : Opening w hb gw cw L vs cur st wr) (q : Nat) (hq : q < L) : wr.cell? ⟨gw, q, none⟩ = some (.int .u64 (wd cur q)) := by
  have hq' : q < cur.length := by rw [h.g.lenw]; exact hq
  rw [h.g.ownw.cellAt q (by omega)]
  unfold wd
  simp [hq', List.getD]
theorem Opening.words {w : World} {hb gw cw L : Nat} {vs : Value} {cur : List Int} {st : List St} {wr : World} (h : Opening w hb gw cw L vs cur st wr) : wr.cell? ⟨hb, 0, none⟩ = some (.slice (some ⟨gw, 0, none⟩) L cw) ∧ hb < wr.heap.size ∧ gw < wr.heap.size := by
  obtain ⟨_, c, hc⟩ := own_block h.g.ownw rfl
  exact ⟨((block_cells h.g.blk).1 0).trans rfl, lt_of_block h.g.blk, lt_of_block hc⟩

end Go.Proofs.YtbagcjlimdilpaaGreat
/- The walk of the document's Open. -/
namespace Go.Proofs.YtbagcjlimdilpaaGreat
open Go.RowKit

theorem Opening.flush {w : World} {hb gw cw L : Nat} {vs : Value} {cur : List Int} {st : List St} {wr : World} (h : Opening w hb gw cw L vs cur st wr) (hl : st.length ≤ 1099511000000) :
    Calls Tryz.prog 133 #[.pointer (some ⟨hb, 0, none⟩)] wr fun e w' => e = .returned (.tuple #[]) ∧ ∃ vs', Opening w hb gw cw L vs' cur (st ++ [⟨2, 0, 0⟩]) w' := by
  refine (flush_any hb gw cw L _ vs cur st wr h.g hl).mono ?_
  rintro e w' ⟨rfl, vs', h1, h2, h3⟩
  exact ⟨rfl, vs', h.next h1 h2 h3⟩
theorem Opening.put {w : World} {hb gw cw L : Nat} {vs : Value} {cur : List Int} {st : List St} {wr : World} (h : Opening w hb gw cw L vs cur st wr) (hl : st.length ≤ 1099511000000) (q : Nat) (y : Int) (hq : q < L) :
    Calls Tryz.prog 132 #[.pointer (some ⟨hb, 0, none⟩), .int .i64 q, .int .u64 y] wr fun e w' => e = .returned (.tuple #[]) ∧ ∃ vs', Opening w hb gw cw L vs' (cur.set q y) (st ++ [⟨1, q, y⟩]) w' := by
  refine (put_doc hb gw cw L _ vs cur st q y wr h.g hq hl).mono ?_
  rintro e w' ⟨rfl, vs', h1, h2, h3⟩
  exact ⟨rfl, vs', h.next h1 h2 h3⟩
theorem Opening.check {w : World} {hb gw cw L : Nat} {vs : Value} {cur : List Int} {st : List St} {wr : World} (h : Opening w hb gw cw L vs cur st wr) (hl : L ≤ 1048576) :
    Calls Tryz.prog 123 #[.slice (some ⟨gw, 0, none⟩) L cw] wr fun e w' => ∃ c p, e = .returned (.tuple #[.int .i64 c, .int .i64 p]) ∧ CheckIs cur c p ∧ Opening w hb gw cw L vs cur st w' := by
  have hc : L ≤ cw := by
    rcases h.g.ownw.2 with ⟨hv, _⟩ | ⟨g', cap, cu, hv, _, _, hle, _⟩
    · cases hv
    · cases hv; exact hle
  have := check_any (some ⟨gw, 0, none⟩) cw cur wr (by rw [h.g.lenw]; exact hl) (by rw [h.g.lenw]; exact hc) h.g.rowU
  rw [h.g.lenw] at this
  refine this.mono ?_
  rintro e w' ⟨c, p, rfl, h1, h2⟩
  exact ⟨c, p, rfl, h1, h.grow h2⟩
/-- the end: the words, and the words as they are now -/
def Opened (w : World) (hb gw cw L : Nat) (vs : Value) (cur : List Int) (st : List St) (w' : World) : Prop := ∃ gn cn, RHG hb gw cw L (.slice (some ⟨gn, 0, none⟩) L cn) vs cur st w' ∧ w'.ownsRow 0 50 1 (.slice (some ⟨gn, 0, none⟩) L cn) L (cur.map (Value.int .u64)) ∧ gw ≠ gn ∧ w.heap.size ≤ gn ∧ Fr New w w'
theorem Opening.rollback {w : World} {hb gw cw L : Nat} {vs : Value} {cur : List Int} {st : List St} {wr : World} (h : Opening w hb gw cw L vs cur st wr) :
    Calls Tryz.prog 85 #[.pointer (some ⟨hb, 0, none⟩)] wr fun e w' => e = .returned (.tuple #[]) ∧ Opened w hb gw cw L vs cur st w' := by
  refine (rollback_any hb gw cw L _ vs cur st wr h.g).mono ?_
  rintro e w' ⟨rfl, gn, cn, h0, h1, h2, h3⟩
  refine ⟨rfl, gn, cn, h1, h2, ?_, Nat.le_trans h.fr.size h0, h.fr.trans h3 (fun j hj ht => ?_)⟩
  · have := h.words.2.2; omega
  · have := h.b; omega

set_option maxHeartbeats 4000000 in
set_option maxRecDepth 100000 in
theorem open_doc (a : Option Addr) (cap : Nat) (ws : List Int) (w : World) (hm : ws.length ≤ 1048576) (hU : ∀ z ∈ ws, U z) (hr : RowU w a ws) :
    Calls Tryz.prog 125 #[.slice a ws.length cap] w fun e w' => Fr New w w' ∧ ((∃ c, e = .returned (.tuple #[.pointer none, .int .i64 c]) ∧ OpenErr ws c) ∨
      (OpenOk ws ∧ ∃ hb gw cw gn cn vs, e = .returned (.tuple #[.pointer (some ⟨hb, 0, none⟩), .int .i64 0]) ∧ RHG hb gw cw ws.length (.slice (some ⟨gn, 0, none⟩) ws.length cn) vs (openW ws) (openSt ws) w' ∧
        w'.ownsRow 0 50 1 (.slice (some ⟨gn, 0, none⟩) ws.length cn) ws.length ((openW ws).map (Value.int .u64)) ∧ gw ≠ gn ∧ w.heap.size ≤ hb ∧ w.heap.size ≤ gw ∧ w.heap.size ≤ gn ∧ ∀ k, vs.ownBlock = some k → w.heap.size ≤ k)) := by
  have HB : Hid (Calls Tryz.prog 127 #[.int .i64 ws.length] w fun e w' => e = .returned (.int .i64 (nblk ws.length)) ∧ w' = w) := blocks_any _ w (by omega)
  by_cases hn : nblk ws.length = 0
  · have HT : Hid (OpenErr ws 2) := .inl ⟨hn, rfl⟩
    rw [hn] at HB
    clear hn hr
    go_enter Tryz.func125, Tryz.ntmps125
    go_wp2_with (go_at_call 127; refine calls_same HB.out ?_)
    go_ret2
    exact ⟨Fr.refl _ _, .inl ⟨2, rfl, HT.out⟩⟩
  obtain ⟨hlen, hn1, hn2⟩ := nblk_some hn
  obtain ⟨sb, so, rfl, hsb, _⟩ := rowU_plain hr (by omega)
  obtain ⟨i0, hi0, hz0, hz1, hz2⟩ := info_parts Tryz.info50
  have HRW : Hid (RowU w (some ⟨sb, so, none⟩) ws) := hr
  have HCM : Hid (∀ (w2 : World) (g c : Nat), w2.ownsRow w.heap.size 50 1 (.slice (some ⟨g, 0, none⟩) (0 + ws.length) c) (0 + ws.length) ([] ++ ws.map (Value.int .u64)) → (w.alloc (.cells #[] 50)).grownBy w2 (Value.slice (some ⟨w.heap.size, 0, none⟩) 0 0).ownBlock → Mem2 w g c ws.length ws w2) := fun w2 g c h1 h2 => copy_mem h1 h2
  have HAS : Hid (∀ g c w2, RowU w2 (some ⟨g, 0, none⟩) ws → Calls Tryz.prog 150 #[.slice (some ⟨g, 0, none⟩) ws.length c] w2 fun e w' => e = .returned (.tuple #[.int .i64 (asksS ws).1, .bool (asksS ws).2]) ∧ Fr New w2 w') := fun g c w2 hr => asks_any _ c ws w2 (by omega) (by omega) hU hr
  have HN : Hid (nblk ws.length ≠ 0) := hn
  have HUU : Hid (∀ z ∈ ws, U z) := hU
  have hk48 := asks_le ws
  have HOK : Hid (∀ i, i < (asksS ws).1 → okAt ws.length (wd ws (10 + 2 * i)) = true) := fun i hi => asks_ok hi
  obtain ⟨L, hL⟩ : ∃ L, L = ws.length := ⟨_, rfl⟩
  have HL : Hid (L = ws.length) := hL
  have hL1 : 114 ≤ L := by omega
  have hL2 : L ≤ 362 := by omega
  obtain ⟨n, hnn⟩ : ∃ n, n = nblk ws.length := ⟨_, rfl⟩
  rw [← hnn] at HB hn1 hn2
  obtain ⟨k, hkk⟩ : ∃ k, k = (asksS ws).1 := ⟨_, rfl⟩
  obtain ⟨ok, hok⟩ : ∃ ok, ok = (asksS ws).2 := ⟨_, rfl⟩
  have HKO : Hid (k = (asksS ws).1 ∧ ok = (asksS ws).2) := ⟨hkk, hok⟩
  rw [← hL] at HB HCM HAS HOK ⊢
  rw [← hkk] at hk48 HAS HOK
  rw [← hok] at HAS
  have hnz : ((n : Int) == 0) = false := by simp; omega
  clear hlen hn hr hU hL hnn hkk hok
  go_enter Tryz.func125, Tryz.ntmps125
  go_upto_region 5 with (first
    | (go_at_call 127; refine calls_same HB.out ?_)
    | (at_builtin; refine wpList_append_lies _ rfl (.tmp 16) (.tmp 17) 43 rfl w.heap.size 50 i0 (.int .u64 0) 1 8 Tryz.underlying43 hi0 hz0 hz1 hz2 rfl (by decide) _ _ _ rfl (emptyU w) ⟨sb, so, none⟩ L cap (ws.map (Value.int .u64)) rfl (by simp [HL.out]) (copy_news HRW.out _) (ints_oneU ws) (by omega) (by unfold maxLen; omega) (by omega) (by simp) _ rfl ?_; intro gw cw w2 hown2 hg2 _ _; have M2 : Mem2 w gw cw L ws w2 := HCM.out w2 gw cw hown2 hg2; clear hown2 hg2)
    | fail)
  have HO0 : Hid (Opening w w2.heap.size gw cw L (.slice none 0 0) ws [] (w2.alloc (.cells #[.slice (some ⟨gw, 0, none⟩) L cw, .slice none 0 0, .slice none 0 0] 141))) :=
    have hf : Fr New w2 (w2.alloc (.cells #[.slice (some ⟨gw, 0, none⟩) L cw, .slice none 0 0, .slice none 0 0] 141)) := (Fr.refl _ _).alloc _
    ⟨⟨Go.Deep.blk_alloc_new w2 _, hf.owns (own_zero M2.own) (fun _ _ h => h), World.ownsRow_nil _ _ _ _, M2.len, by rw [HL.out]; exact HN.out⟩, M2.fr.same hf, fun k hk => by simp [Value.ownBlock] at hk, M2.fr.size, M2.base⟩
  have hw0 := HO0.out.words.1
  have hwb := HO0.out.words.2.1
  have hrow : RowU _ _ _ := HO0.out.g.rowU
  have HRO : Hid (RowU (w2.alloc (.cells #[.slice (some ⟨gw, 0, none⟩) L cw, .slice none 0 0, .slice none 0 0] 141)) (some ⟨gw, 0, none⟩) ws) := hrow
  obtain ⟨hb, hhb⟩ : ∃ hb, hb = w2.heap.size := ⟨_, rfl⟩
  rw [← hhb] at HO0 hw0 hwb ⊢
  clear hrow
  generalize (w2.alloc (.cells #[.slice (some ⟨gw, 0, none⟩) L cw, .slice none 0 0, .slice none 0 0] 141)) = w3 at HO0 hw0 hwb HRO ⊢
  clear M2 hhb
  cases ok with
  | false =>
    have HT : Hid (OpenErr ws 4) := .inr ⟨HN.out, .inl ⟨HKO.out.2.symm, rfl⟩⟩
    go_wp2_with (go_at_call 150; refine (HAS.out gw cw w3 HRO.out).mono ?_; rintro e w4 ⟨rfl, hf4⟩)
    go_ret2
    exact ⟨(HO0.out.grow hf4).fr, .inl ⟨4, rfl, HT.out⟩⟩
  | true =>
    go_upto_if 32 with (go_at_call 150; refine (HAS.out gw cw w3 HRO.out).mono ?_; rintro e w4 ⟨rfl, hf4⟩)
    have HO1 : Hid (Opening w hb gw cw L (.slice none 0 0) ws [] w4) := HO0.out.grow hf4
    clear HO0 hw0 hwb hf4 HAS HRO
    go_cut [8] from 32 to 64 (fun _ wx => ∃ vs, Opening w hb gw cw L vs (openW ws) (openSt ws) wx)
    case first =>
      rcases Nat.eq_zero_or_pos k with rfl | hk
      · go_wp2_with fail
        go_meet
        case rel => exact ⟨_, by unfold openW openSt; rw [← HKO.out.1]; exact HO1.out⟩
      · have hdk : decide ((0 : Int) < (k : Int)) = true := by simpa using hk
        rw [show decide (0 < k) = true by simpa using hk]
        have HEN : Hid (openW ws = (doneS ws k).set 8 0 ∧ openSt ws = putsS ws k ++ [⟨2, 0, 0⟩] ++ [⟨1, ((8 : Nat) : Int), 0⟩] ++ [⟨2, 0, 0⟩]) := by
          unfold openW openSt
          rw [← HKO.out.1, if_neg (by omega), if_neg (by omega)]
          exact ⟨rfl, rfl⟩
        go_wp2_with fail
        go_loopg [8] k (fun gh t wr => ∃ (i : Nat) (vs : Value), i ≤ k ∧ gh = k - i ∧ t = .int .i64 i ∧ Opening w hb gw cw L vs (doneS ws i) (putsS ws i) wr)
        case atStart => exact ⟨0, _, by omega, rfl, rfl, HO1.out⟩
        case round =>
          clear HO1
          obtain ⟨i, vs, hik, rfl, rfl, hop⟩ := hrel
          have hw0 := hop.words.1
          have hwb := hop.words.2.1
          have hwg := hop.words.2.2
          by_cases hi : i < k
          · have hd : decide ((i : Int) < (k : Int)) = true := by simpa using hi
            have hca := hop.cell (10 + 2 * i) (by omega)
            have hcb := hop.cell (11 + 2 * i) (by omega)
            have hlg : ∀ j q, j ≤ k → 8 ≤ q → q < 106 → wd (doneS ws j) q = wd ws q := fun j q hj h8 h106 => doneS_log HUU.out (fun j' hj' => by rw [← HL.out]; exact HOK.out j' (by omega)) h8 h106
            rw [hlg i _ (by omega) (by omega) (by omega)] at hca hcb
            have hoa := HOK.out i hi
            have hxU := wd_U HUU.out (10 + 2 * i)
            have HNX : Hid (∀ W', Fr New wr W' → ∀ q : Nat, (q : Int) = wd ws (10 + 2 * i) → q < L → Calls Tryz.prog 132 #[.pointer (some ⟨hb, 0, none⟩), .int .i64 q, .int .u64 (wd ws (11 + 2 * i))] W' fun e w' => e = .returned (.tuple #[]) ∧ ∃ vs', Opening w hb gw cw L vs' (doneS ws (i + 1)) (putsS ws (i + 1)) w' ∧ w'.cell? ⟨gw, 10 + 2 * i, none⟩ = some (.int .u64 (wd ws (10 + 2 * i))) ∧ w'.cell? ⟨gw, 11 + 2 * i, none⟩ = some (.int .u64 (wd ws (11 + 2 * i))) ∧ w'.cell? ⟨hb, 0, none⟩ = some (.slice (some ⟨gw, 0, none⟩) L cw)) := fun W' hf q hq hql => by
              refine ((hop.grow hf).put (by rw [putsS_len]; omega) q (wd ws (11 + 2 * i)) hql).mono ?_
              rintro e w' ⟨rfl, vs', h'⟩
              have e1 : (doneS ws i).set q (wd ws (11 + 2 * i)) = doneS ws (i + 1) := by
                show _ = (doneS ws i).set (wd ws (10 + 2 * i)).toNat (wd ws (11 + 2 * i))
                rw [← hq, Int.toNat_natCast]
              rw [e1, hq, ← putsS_succ] at h'
              refine ⟨rfl, vs', h', ?_, ?_, h'.words.1⟩
              · rw [h'.cell _ (by omega), hlg (i + 1) _ (by omega) (by omega) (by omega)]
              · rw [h'.cell _ (by omega), hlg (i + 1) _ (by omega) (by omega) (by omega)]
            obtain ⟨x, hx⟩ : ∃ x, x = wd ws (10 + 2 * i) := ⟨_, rfl⟩
            obtain ⟨y, hy⟩ : ∃ y, y = wd ws (11 + 2 * i) := ⟨_, rfl⟩
            rw [← hx] at hca hoa hxU HNX
            rw [← hy] at hcb HNX
            obtain ⟨hxl, hx8⟩ := okAt_iff.1 hoa
            obtain ⟨q, rfl⟩ := Int.eq_ofNat_of_zero_le hxU.1
            have HPU : Hid (∀ W', Fr New wr W' → Calls Tryz.prog 132 #[.pointer (some ⟨hb, 0, none⟩), .int .i64 q, .int .u64 y] W' fun e w' => e = .returned (.tuple #[]) ∧ ∃ vs', Opening w hb gw cw L vs' (doneS ws (i + 1)) (putsS ws (i + 1)) w' ∧ w'.cell? ⟨gw, 10 + 2 * i, none⟩ = some (.int .u64 q) ∧ w'.cell? ⟨gw, 11 + 2 * i, none⟩ = some (.int .u64 y) ∧ w'.cell? ⟨hb, 0, none⟩ = some (.slice (some ⟨gw, 0, none⟩) L cw)) := fun W' hf => HNX.out W' hf q rfl (by omega)
            have hq0 : (0 : Int) ≤ (q : Int) := by omega
            have hq1 : (q : Int) < (L : Int) := by omega
            have hv1 : IntKind.i64.wrap (2 * (i : Int)) = 2 * (i : Int) := by rw [IntKind.wrap_i64]; omega
            have hv2 : IntKind.i64.wrap (10 + 2 * (i : Int)) = 10 + 2 * (i : Int) := by rw [IntKind.wrap_i64]; omega
            have hv3 : IntKind.i64.wrap (11 + 2 * (i : Int)) = 11 + 2 * (i : Int) := by rw [IntKind.wrap_i64]; omega
            have hv4 : (10 + 2 * (i : Int)).toNat = 10 + 2 * i := by omega
            have hv5 : (11 + 2 * (i : Int)).toNat = 11 + 2 * i := by omega
            have hv6 : (0 : Int) ≤ 10 + 2 * (i : Int) := by omega
            have hv7 : (0 : Int) ≤ 11 + 2 * (i : Int) := by omega
            have hv8 : 10 + 2 * (i : Int) < (L : Int) := by omega
            have hv9 : 11 + 2 * (i : Int) < (L : Int) := by omega
            have hvq : IntKind.i64.wrap (q : Int) = (q : Int) := by rw [IntKind.wrap_i64]; omega
            clear hx hy hoa hx8 hxU hop hlg HNX
            go_upto_region 12 with fail
            go_region_held3 (fun w' => w'.cell? ⟨hb, 0, none⟩ = some (.slice (some ⟨gw, 0, none⟩) L cw) ∧ w'.cell? ⟨gw, 10 + 2 * i, none⟩ = some (.int .u64 q) ∧ w'.cell? ⟨gw, 11 + 2 * i, none⟩ = some (.int .u64 y)) (first | go_keep | exact hkeep2)
              (first
                | (go_at_call 132; refine (HPU.out _ (by first | exact (Fr.refl New wr).drew | exact Fr.refl New wr)).mono ?_; rintro e w7 ⟨rfl, vs7, hop7, hk71, hk72, hk70⟩; have hkeep2 : w7.cell? ⟨hb, 0, none⟩ = some (.slice (some ⟨gw, 0, none⟩) L cw) ∧ w7.cell? ⟨gw, 10 + 2 * i, none⟩ = some (.int .u64 q) ∧ w7.cell? ⟨gw, 11 + 2 * i, none⟩ = some (.int .u64 y) := ⟨hk70, hk71, hk72⟩))
            all_goals
              go_wp2_with fail
              go_roundg (k - (i + 1))
              case measure => omega
              case rel => exact ⟨i + 1, _, by omega, rfl, by go_num, hop7⟩
          · obtain rfl : i = k := by omega
            have HF1 : Hid (Calls Tryz.prog 133 #[.pointer (some ⟨hb, 0, none⟩)] wr fun e w' => e = .returned (.tuple #[]) ∧ ∃ vs', Opening w hb gw cw L vs' (doneS ws i) (putsS ws i ++ [⟨2, 0, 0⟩]) w') := hop.flush (by rw [putsS_len]; omega)
            have HF2 : Hid (∀ vs' w', Opening w hb gw cw L vs' (doneS ws i) (putsS ws i ++ [⟨2, 0, 0⟩]) w' → Calls Tryz.prog 132 #[.pointer (some ⟨hb, 0, none⟩), .int .i64 ((8 : Nat) : Int), .int .u64 0] w' fun e w' => e = .returned (.tuple #[]) ∧ ∃ vs', Opening w hb gw cw L vs' ((doneS ws i).set 8 0) (putsS ws i ++ [⟨2, 0, 0⟩] ++ [⟨1, ((8 : Nat) : Int), 0⟩]) w') := fun vs' w' h' => h'.put (by simp [putsS_len]; omega) 8 0 (by omega)
            have HF3 : Hid (∀ vs' w', Opening w hb gw cw L vs' ((doneS ws i).set 8 0) (putsS ws i ++ [⟨2, 0, 0⟩] ++ [⟨1, ((8 : Nat) : Int), 0⟩]) w' → Calls Tryz.prog 133 #[.pointer (some ⟨hb, 0, none⟩)] w' fun e w' => e = .returned (.tuple #[]) ∧ ∃ vs', Opening w hb gw cw L vs' (openW ws) (openSt ws) w') := fun vs' w' h' => by
              rw [HEN.out.1, HEN.out.2]
              exact h'.flush (by simp [putsS_len]; omega)
            clear hop
            go_wp2_with (first
              | (go_at_call 133; refine HF1.out.mono ?_; rintro e w5 ⟨rfl, vs5, h5⟩)
              | (go_at_call 132; refine (HF2.out vs5 w5 h5).mono ?_; rintro e w6 ⟨rfl, vs6, h6⟩)
              | (go_at_call 133; refine (HF3.out vs6 w6 h6).mono ?_; rintro e w7 ⟨rfl, vs7, h7⟩)
              | fail)
            go_meet
            case rel => exact ⟨vs7, h7⟩
    case rest =>
      obtain ⟨vs, hop⟩ := hcut
      have HCK : Hid (Calls Tryz.prog 123 #[.slice (some ⟨gw, 0, none⟩) L cw] wc fun e w' => ∃ c p, e = .returned (.tuple #[.int .i64 c, .int .i64 p]) ∧ CheckIs (openW ws) c p ∧ Opening w hb gw cw L vs (openW ws) (openSt ws) w') := hop.check (by omega)
      have hw0 := hop.words.1
      have hwb := hop.words.2.1
      clear hop
      go_upto_region 17 with (go_at_call 123; refine HCK.out.mono ?_; rintro e w5 ⟨c, p, rfl, hch, hop5⟩)
      have HCH : Hid (CheckIs (openW ws) c p) := hch
      have HRB : Hid (Calls Tryz.prog 85 #[.pointer (some ⟨hb, 0, none⟩)] w5 fun e w' => e = .returned (.tuple #[]) ∧ Opened w hb gw cw L vs (openW ws) (openSt ws) w') := hop5.rollback
      have HF5 : Hid (Fr New w w5) := hop5.fr
      have HBS : Hid (w.heap.size ≤ hb ∧ w.heap.size ≤ gw ∧ ∀ k, vs.ownBlock = some k → w.heap.size ≤ k) := ⟨hop5.b, hop5.w', hop5.v⟩
      clear hch hop5 HCK
      by_cases hc0 : c = 0
      · subst hc0
        have HT : Hid (OpenOk ws) := ⟨HN.out, HKO.out.2.symm, 0, p, HCH.out, .inl rfl⟩
        go_wp2_with (go_at_call 85; refine HRB.out.mono ?_; rintro e w6 ⟨rfl, hod⟩)
        go_ret2
        obtain ⟨gn, cn, h1, h2, h3, h4, h5⟩ := hod
        exact ⟨h5, .inr ⟨HT.out, hb, gw, cw, gn, cn, vs, rfl, h1, h2, h3, HBS.out.1, HBS.out.2.1, h4, HBS.out.2.2⟩⟩
      · have hd0 : (c != 0) = true := by simpa using hc0
        by_cases hc8 : c = 8
        · subst hc8
          have HT : Hid (OpenOk ws) := ⟨HN.out, HKO.out.2.symm, 8, p, HCH.out, .inr rfl⟩
          go_wp2_with (go_at_call 85; refine HRB.out.mono ?_; rintro e w6 ⟨rfl, hod⟩)
          go_ret2
          obtain ⟨gn, cn, h1, h2, h3, h4, h5⟩ := hod
          exact ⟨h5, .inr ⟨HT.out, hb, gw, cw, gn, cn, vs, rfl, h1, h2, h3, HBS.out.1, HBS.out.2.1, h4, HBS.out.2.2⟩⟩
        · have hd8 : (c != 8) = true := by simpa using hc8
          have HT : Hid (OpenErr ws c) := .inr ⟨HN.out, .inr ⟨HKO.out.2.symm, hc0, hc8, p, HCH.out⟩⟩
          go_wp2_with fail
          go_ret2
          exact ⟨HF5.out, .inl ⟨c, rfl, HT.out⟩⟩
end Go.Proofs.YtbagcjlimdilpaaGreat
/- The document's Commit: its parts. -/
namespace Go.Proofs.YtbagcjlimdilpaaGreat
open Go.RowKit

/-- the words that a Commit makes -/
def countS (now : List Int) : List Int := now.set 2 (IntKind.u64.wrap (wd now 2 + 1))
def nextS (now : List Int) : List Int := (countS now).set 7 (sumL ((countS now).take 7))
theorem nextS_len (now : List Int) : (nextS now).length = now.length := by simp [nextS, countS]
/-- the places of its records -/
def diffAt (cur nx : List Int) (q : Nat) : Bool := decide (wd nx q ≠ wd cur q) && (decide (q < 8) || decide (106 ≤ q))
def diffS (cur nx : List Int) (k : Nat) : List Nat := (List.range k).filter (diffAt cur nx)
theorem diffS_succ (cur nx : List Int) (k : Nat) : diffS cur nx (k + 1) = diffS cur nx k ++ (if diffAt cur nx k then [k] else []) := by
  unfold diffS
  rw [List.range_succ, List.filter_append]
  congr 1
  cases h : diffAt cur nx k <;> simp [h]
theorem diffS_mem {cur nx : List Int} {k q : Nat} : q ∈ diffS cur nx k ↔ q < k ∧ wd nx q ≠ wd cur q ∧ (q < 8 ∨ 106 ≤ q) := by
  simp [diffS, diffAt]
theorem diffS_le (cur nx : List Int) (k : Nat) : (diffS cur nx k).length ≤ k := by
  have := List.length_filter_le (diffAt cur nx) (List.range k)
  simpa [diffS] using this
/-- the stores that lay the records into the log, and those that lay them over the words -/
def recSt (nx : List Int) (ps : List Nat) (i : Nat) : List St := (List.range i).flatMap (fun j => [⟨1, ((10 + 2 * j : Nat) : Int), ((ps.getD j 0 : Nat) : Int)⟩, ⟨1, ((11 + 2 * j : Nat) : Int), wd nx (ps.getD j 0)⟩])
def laySt (nx : List Int) (ps : List Nat) (i : Nat) : List St := (List.range i).map (fun j => ⟨1, ((ps.getD j 0 : Nat) : Int), wd nx (ps.getD j 0)⟩)
def recW (cur nx : List Int) (ps : List Nat) : Nat → List Int
  | 0 => cur
  | i + 1 => ((recW cur nx ps i).set (10 + 2 * i) ((ps.getD i 0 : Nat) : Int)).set (11 + 2 * i) (wd nx (ps.getD i 0))
def layW (cur nx : List Int) (ps : List Nat) : Nat → List Int
  | 0 => cur
  | i + 1 => (layW cur nx ps i).set (ps.getD i 0) (wd nx (ps.getD i 0))
theorem recSt_succ (nx : List Int) (ps : List Nat) (i : Nat) : recSt nx ps (i + 1) = recSt nx ps i ++ [⟨1, ((10 + 2 * i : Nat) : Int), ((ps.getD i 0 : Nat) : Int)⟩] ++ [⟨1, ((11 + 2 * i : Nat) : Int), wd nx (ps.getD i 0)⟩] := by simp [recSt, List.range_succ]
theorem laySt_succ (nx : List Int) (ps : List Nat) (i : Nat) : laySt nx ps (i + 1) = laySt nx ps i ++ [⟨1, ((ps.getD i 0 : Nat) : Int), wd nx (ps.getD i 0)⟩] := by simp [laySt, List.range_succ]
theorem recSt_len (nx : List Int) (ps : List Nat) (i : Nat) : (recSt nx ps i).length = 2 * i := by
  induction i with
  | zero => rfl
  | succ i ih => rw [recSt_succ]; simp [ih]; omega
theorem laySt_len (nx : List Int) (ps : List Nat) (i : Nat) : (laySt nx ps i).length = i := by simp [laySt]
/-- the log's sum, and all of a Commit: its words, its stores -/
def recSum (nx : List Int) (ps : List Nat) : Int := sumL ((ps.length : Int) :: (List.range ps.length).flatMap (fun j => [((ps.getD j 0 : Nat) : Int), wd nx (ps.getD j 0)]))
def commitW (cur now : List Int) : List Int :=
  let nx := nextS now
  let ps := diffS cur nx nx.length
  ((layW (((recW cur nx ps ps.length).set 9 (recSum nx ps)).set 8 (ps.length : Int)) nx ps ps.length)).set 8 0
def commitSt (cur now : List Int) : List St :=
  let nx := nextS now
  let ps := diffS cur nx nx.length
  recSt nx ps ps.length ++ [⟨1, 9, recSum nx ps⟩] ++ [⟨2, 0, 0⟩] ++ [⟨1, 8, (ps.length : Int)⟩] ++ [⟨2, 0, 0⟩] ++ laySt nx ps ps.length ++ [⟨2, 0, 0⟩] ++ [⟨1, 8, 0⟩] ++ [⟨2, 0, 0⟩]

/-- a heap with its words as they are now -/
structure RHN (hb gw cw gn cn L : Nat) (vs : Value) (ws now : List Int) (st : List St) (w : World) : Prop where
  g : RHG hb gw cw L (.slice (some ⟨gn, 0, none⟩) L cn) vs ws st w
  ownn : w.ownsRow 0 50 1 (.slice (some ⟨gn, 0, none⟩) L cn) L (now.map (Value.int .u64))
  len : now.length = L
  ne : gw ≠ gn
theorem RHN.cells {hb gw cw gn cn L : Nat} {vs : Value} {ws now : List Int} {st : List St} {w : World} (h : RHN hb gw cw gn cn L vs ws now st w) :
    w.cell? ⟨hb, 0, none⟩ = some (.slice (some ⟨gw, 0, none⟩) L cw) ∧ w.cell? ⟨hb, 1, none⟩ = some (.slice (some ⟨gn, 0, none⟩) L cn) ∧
    (∀ q, q < L → w.cell? ⟨gw, q, none⟩ = some (.int .u64 (wd ws q))) ∧ ∀ q, q < L → w.cell? ⟨gn, q, none⟩ = some (.int .u64 (wd now q)) := by
  refine ⟨((block_cells h.g.blk).1 0).trans rfl, ((block_cells h.g.blk).1 1).trans rfl, fun q hq => ?_, fun q hq => ?_⟩
  · have hq' : q < ws.length := by rw [h.g.lenw]; exact hq
    rw [h.g.ownw.cellAt q (by omega)]
    unfold wd
    simp [hq', List.getD]
  · have hq' : q < now.length := by rw [h.len]; exact hq
    rw [h.ownn.cellAt q (by omega)]
    unfold wd
    simp [hq', List.getD]
theorem RHN.fr {hb gw cw gn cn L : Nat} {vs : Value} {ws now : List Int} {st : List St} {w w' : World} (h : RHN hb gw cw gn cn L vs ws now st w) (hf : Fr New w w') : RHN hb gw cw gn cn L vs ws now st w' := ⟨h.g.fr hf, hf.owns h.ownn (fun _ _ h => h), h.len, h.ne⟩

set_option maxRecDepth 100000 in
/-- nothing was changed: nothing is done -/
theorem commit_none (hb gw cw gn cn L : Nat) (vs : Value) (ws : List Int) (st : List St) (w : World) (h : RHN hb gw cw gn cn L vs ws ws st w) :
    Calls Tryz.prog 84 #[.pointer (some ⟨hb, 0, none⟩)] w fun e w' => e = .returned (.int .i64 0) ∧ ∃ j, w' = w.drewN j := by
  have hL2 : L ≤ 362 := by have := (nblk_some h.g.n0).1; have := (nblk_some h.g.n0).2.2; omega
  obtain ⟨hc0, hc1, hcw, hcn⟩ := h.cells
  have HCW : Hid (∀ q, q < L → w.cell? ⟨gw, q, none⟩ = some (.int .u64 (wd ws q)) ∧ w.cell? ⟨gn, q, none⟩ = some (.int .u64 (wd ws q))) := fun q hq => ⟨hcw q hq, hcn q hq⟩
  have hbw : hb < w.heap.size := lt_of_block h.g.blk
  clear hcw hcn h
  go_enter Tryz.func84, Tryz.ntmps84
  go_wp2
  go_loopg [4, 5] L (fun gh s t wr => ∃ i j : Nat, i ≤ L ∧ gh = L - i ∧ s = .bool true ∧ t = .int .i64 i ∧ wr = w.drewN j)
  case atStart => exact ⟨0, 0, by omega, rfl, rfl, rfl, rfl⟩
  case round =>
    obtain ⟨i, j, hi, rfl, rfl, rfl, rfl⟩ := hrel
    by_cases hiL : i < L
    · have hd : decide ((i : Int) < (L : Int)) = true := by simpa using hiL
      obtain ⟨hca, hcb⟩ := HCW.out i hiL
      have hi0 : (0 : Int) ≤ (i : Int) := by omega
      have hi1 : (i : Int) < (L : Int) := by omega
      go_wp2
      go_quiet (fail)
      go_wp2
      go_roundg (L - (i + 1))
      case measure => omega
      case rel => exact ⟨i + 1, j + nq, by omega, rfl, by simp, by go_num, rfl⟩
    · obtain rfl : i = L := by omega
      go_wp2
      go_ret
      exact ⟨rfl, j, rfl⟩
end Go.Proofs.YtbagcjlimdilpaaGreat
/- The document's Commit with too many records. -/
namespace Go.Proofs.YtbagcjlimdilpaaGreat
open Go.RowKit

theorem count_mem {w : World} {g c L : Nat} {cur : List Int} {wr : World} (M : Mem2 w g c L cur wr) : Mem2 w g c L (nextS cur) ((wr.setCell ⟨g, 2, none⟩ (.int .u64 (IntKind.u64.wrap (wd cur 2 + 1)))).setCell ⟨g, 7, none⟩ (.int .u64 (sumL ((countS cur).take 7)))) := (M.put 2 _).put 7 _

theorem mem_grown {w : World} {g c L : Nat} {cur : List Int} {W : World} (M : Mem2 w g c L cur W) {v : Value} {l : List Nat} (ho : OwnN w.heap.size W v l) {o : Obj} {w2 : World} (hg : (W.alloc o).grownBy w2 v.ownBlock) : Mem2 w g c L cur w2 := by
  have h1 := M.grow ((Fr.refl New W).alloc o)
  have ho1 := ho.alloc o
  have h2 : Fr (fun k => v.ownBlock = some k) (W.alloc o) w2 := (Fr.refl _ _).grown hg (fun k _ hk => hk)
  refine ⟨h2.owns h1.own (fun g' hg' hv => ?_), M.len, h1.fr.trans h2 (fun j hj hv => ?_)⟩
  · obtain ⟨_, c1, hc1⟩ := own_block h1.own hg'
    obtain ⟨_, c2, hc2⟩ := own_block ho1 hv
    exact type_ne hc1 hc2 (by decide) rfl
  · have := (own_block ho1 hv).1
    omega

set_option maxHeartbeats 4000000 in
set_option maxRecDepth 100000 in
theorem commit_full (hb gw cw gn cn L : Nat) (vs : Value) (ws now : List Int) (st : List St) (w : World) (h : RHN hb gw cw gn cn L vs ws now st w) (hne : ∃ q, q < L ∧ wd now q ≠ wd ws q) (hbig : 48 < (diffS ws (nextS now) L).length) :
    Calls Tryz.prog 84 #[.pointer (some ⟨hb, 0, none⟩)] w fun e w' => e = .returned (.int .i64 4) ∧ Fr New w w' := by
  have hL1 : 114 ≤ L := by have := (nblk_some h.g.n0).1; have := (nblk_some h.g.n0).2.1; omega
  have hL2 : L ≤ 362 := by have := (nblk_some h.g.n0).1; have := (nblk_some h.g.n0).2.2; omega
  obtain ⟨i0, hi0, hz0, hz1, hz2⟩ := info_parts Tryz.info50
  obtain ⟨j0, hj0, hy0, hy1, hy2⟩ := info_parts Tryz.info3
  obtain ⟨hc0, hc1, hcw, hcn⟩ := h.cells
  have HCW : Hid (∀ q, q < L → w.cell? ⟨gw, q, none⟩ = some (.int .u64 (wd ws q)) ∧ w.cell? ⟨gn, q, none⟩ = some (.int .u64 (wd now q))) := fun q hq => ⟨hcw q hq, hcn q hq⟩
  have hbw : hb < w.heap.size := lt_of_block h.g.blk
  have HNE : Hid (∃ q, q < L ∧ wd now q ≠ wd ws q) := hne
  have HBG : Hid (48 < (diffS ws (nextS now) L).length) := hbig
  have HRH : Hid (RHN hb gw cw gn cn L vs ws now st w) := h
  clear hcw hcn h hne hbig
  go_enter Tryz.func84, Tryz.ntmps84
  go_wp2
  go_loopg [4, 5] L (fun gh s t wr => ∃ (i j : Nat) (b : Bool), i ≤ L ∧ gh = L - i ∧ s = .bool b ∧ t = .int .i64 i ∧ wr = w.drewN j ∧ (b = true ↔ ∀ q, q < i → wd now q = wd ws q))
  case atStart => exact ⟨0, 0, true, by omega, rfl, rfl, rfl, rfl, ⟨fun _ q hq => by omega, fun _ => rfl⟩⟩
  case round =>
    obtain ⟨i, j, b, hi, rfl, rfl, rfl, rfl, hb⟩ := hrel
    have HBI : Hid (b = true ↔ ∀ q, q < i → wd now q = wd ws q) := hb
    clear hb
    by_cases hiL : i < L
    · have hd : decide ((i : Int) < (L : Int)) = true := by simpa using hiL
      obtain ⟨hca, hcb⟩ := HCW.out i hiL
      have hia : (0 : Int) ≤ (i : Int) := by omega
      have hib : (i : Int) < (L : Int) := by omega
      obtain ⟨x, hx⟩ : ∃ x, x = wd now i := ⟨_, rfl⟩
      obtain ⟨y, hy⟩ : ∃ y, y = wd ws i := ⟨_, rfl⟩
      have HXY : Hid (x = wd now i ∧ y = wd ws i) := ⟨hx, hy⟩
      rw [← hx] at hcb
      rw [← hy] at hca
      clear hx hy
      cases b with
      | false =>
        have HN : Hid (false = true ↔ ∀ q, q < i + 1 → wd now q = wd ws q) := ⟨fun h => (by cases h), fun h => HBI.out.2 (fun q hq => h q (by omega))⟩
        go_wp2
        go_quiet (fail)
        go_wp2
        go_roundg (L - (i + 1))
        case measure => omega
        case rel => exact ⟨i + 1, j + nq, false, by omega, rfl, rfl, by go_num, rfl, HN.out⟩
      | true =>
        rcases hxy : (x == y) with _ | _
        · have HN : Hid (false = true ↔ ∀ q, q < i + 1 → wd now q = wd ws q) := ⟨fun h => (by cases h), fun h => absurd (h i (by omega)) (by rw [← HXY.out.1, ← HXY.out.2]; simpa using hxy)⟩
          go_wp2
          go_quiet (fail)
          go_wp2
          go_roundg (L - (i + 1))
          case measure => omega
          case rel => exact ⟨i + 1, j + nq, false, by omega, rfl, rfl, by go_num, rfl, HN.out⟩
        · have HN : Hid (∀ q, q < i + 1 → wd now q = wd ws q) := fun q hq => by
            rcases Nat.lt_succ_iff_lt_or_eq.1 hq with h' | rfl
            · exact HBI.out.1 rfl q h'
            · rw [← HXY.out.1, ← HXY.out.2]; simpa using hxy
          go_wp2
          go_quiet (fail)
          go_wp2
          go_roundg (L - (i + 1))
          case measure => omega
          case rel => exact ⟨i + 1, j + nq, true, by omega, rfl, rfl, by go_num, rfl, ⟨fun _ => HN.out, fun _ => rfl⟩⟩
    · obtain rfl : i = L := by omega
      obtain rfl : b = false := by
        cases b with
        | false => rfl
        | true =>
          obtain ⟨q, hq, hne⟩ := HNE.out
          exact absurd (HBI.out.1 rfl q hq) hne
      have hf1 : Fr New w (w.drewN j) := (Fr.refl _ _).drewN _
      have HR1 : Hid (RHN hb gw cw gn cn i vs ws now st (w.drewN j)) := HRH.out.fr hf1
      generalize w.drewN j = w1 at HR1 hf1
      have HF1 : Hid (Fr New w w1) := hf1
      obtain ⟨ha0, ha1, haw, han⟩ := HR1.out.cells
      have HAW : Hid (∀ q, q < i → w1.cell? ⟨gw, q, none⟩ = some (.int .u64 (wd ws q))) := haw
      have hbw1 : hb < w1.heap.size := lt_of_block HR1.out.g.blk
      have HLN : Hid (now.length = i) := HR1.out.len
      have HRW : Hid (RowU w1 (some ⟨gn, 0, none⟩) now) := rowU_own HR1.out.ownn
      have HCM : Hid (∀ (w2 : World) (g c : Nat), w2.ownsRow w1.heap.size 50 1 (.slice (some ⟨g, 0, none⟩) (0 + i) c) (0 + i) ([] ++ now.map (Value.int .u64)) → (w1.alloc (.cells #[] 50)).grownBy w2 (Value.slice (some ⟨w1.heap.size, 0, none⟩) 0 0).ownBlock → Mem2 w1 g c i now w2) := fun w2 g c h1 h2 => by
        rw [← HLN.out] at h1 ⊢
        exact copy_mem h1 h2
      clear hc0 hc1 hbw haw han hf1 HCW HRH HBI HNE
      go_upto_region 11 with (first
        | (at_builtin; refine wpList_append_lies _ rfl (.tmp 40) (.tmp 44) 43 rfl w1.heap.size 50 i0 (.int .u64 0) 1 8 Tryz.underlying43 hi0 hz0 hz1 hz2 rfl (by decide) _ _ _ rfl (emptyU w1) ⟨gn, 0, none⟩ i cn (now.map (Value.int .u64)) rfl (by simp [HLN.out]) (copy_news HRW.out _) (ints_oneU now) (by omega) (by unfold maxLen; omega) (by omega) (by simp) _ rfl ?_; intro gx cx w2 hown2 hg2 _ _; have M2 : Mem2 w1 gx cx i now w2 := HCM.out w2 gx cx hown2 hg2; clear hown2 hg2; have hx2 := M2.cell 2 (by omega); have hx2' := M2.free 2)
        | fail)
      have HSE : Hid (Calls Tryz.prog 131 #[.slice (some ⟨gx, 0, none⟩) i cx] (w2.setCell ⟨gx, 2, none⟩ (.int .u64 (IntKind.u64.wrap (wd now 2 + 1)))) fun e w' => e = .returned (.tuple #[]) ∧ Mem2 w1 gx cx i (nextS now) w') := (seal_mem (M2.put 2 _) (by omega) (by omega)).mono (by
        rintro e w' ⟨rfl, rfl⟩
        exact ⟨rfl, count_mem M2⟩)
      clear M2 hx2 hx2'
      go_wp2_with (go_at_call 131; refine HSE.out.mono ?_; rintro e w3 ⟨rfl, M3⟩)
      obtain ⟨nx, hnx⟩ : ∃ nx, nx = nextS now := ⟨_, rfl⟩
      rw [← hnx] at M3 HBG
      clear HSE HCM HRW HLN hnx
      go_loopg [3, 7] i (fun gh v t wr => ∃ k : Nat, k ≤ i ∧ gh = i - k ∧ t = .int .i64 k ∧ OwnN w1.heap.size wr v (diffS ws nx k) ∧ Mem2 w1 gx cx i nx wr)
      case atStart => exact ⟨0, by omega, rfl, rfl, World.ownsRow_nil _ _ _ _, M3⟩
      case round =>
        clear M3
        obtain ⟨k, hki, rfl, rfl, hown, M⟩ := hrel
        obtain ⟨va, vc, rfl⟩ := own_slice hown
        have hdl := diffS_le ws nx k
        by_cases hkL : k < i
        · have hd : decide ((k : Int) < (i : Int)) = true := by simpa using hkL
          have hr0 : wr.cell? ⟨hb, 0, none⟩ = some (.slice (some ⟨gw, 0, none⟩) i cw) := M.fr.cell ha0 id
          have hbr : hb < wr.heap.size := Nat.lt_of_lt_of_le hbw1 M.fr.size
          have hca : wr.cell? ⟨gw, k, none⟩ = some (.int .u64 (wd ws k)) := M.fr.cell (HAW.out k hkL) id
          have hcb := M.cell k hkL
          have hia : (0 : Int) ≤ (k : Int) := by omega
          have hib : (k : Int) < (i : Int) := by omega
          obtain ⟨x, hx⟩ : ∃ x, x = wd nx k := ⟨_, rfl⟩
          obtain ⟨y, hy⟩ : ∃ y, y = wd ws k := ⟨_, rfl⟩
          have HXY : Hid (x = wd nx k ∧ y = wd ws k) := ⟨hx, hy⟩
          rw [← hx] at hcb
          rw [← hy] at hca
          clear hx hy
          have HOW : Hid (∀ j, OwnN w1.heap.size (wr.drewN j) (.slice va (diffS ws nx k).length vc) (diffS ws nx k) ∧ Mem2 w1 gx cx i nx (wr.drewN j)) := fun j => ⟨((Fr.refl New wr).drewN j).owns hown (fun _ _ h => h), M.grow ((Fr.refl New wr).drewN j)⟩
          have HSK : Hid (diffAt ws nx k = false → diffS ws nx (k + 1) = diffS ws nx k) := fun h' => by rw [diffS_succ, h']; simp
          have HTK : Hid (diffAt ws nx k = true → diffS ws nx (k + 1) = diffS ws nx k ++ [k]) := fun h' => by rw [diffS_succ, h']; simp
          have HDA : Hid (diffAt ws nx k = ((x != y) && (decide (k < 8) || decide (106 ≤ k)))) := by
            show diffAt ws nx k = _
            unfold diffAt
            rw [HXY.out.1, HXY.out.2]
            congr 1
            by_cases h' : wd nx k = wd ws k <;> simp [h']
          have HLW : Hid (w1.heap.size ≤ wr.heap.size) := M.fr.size
          clear hown M
          rcases hxy : (x != y) with _ | _
          · have HD : Hid (diffS ws nx (k + 1) = diffS ws nx k) := HSK.out (by rw [HDA.out, hxy]; rfl)
            go_wp2
            go_quiet (fail)
            go_wp2
            go_roundg (i - (k + 1))
            case measure => omega
            case rel => exact ⟨k + 1, by omega, rfl, by go_num, by rw [HD.out]; exact (HOW.out nq).1, (HOW.out nq).2⟩
          · by_cases hk8 : k < 8
            · have hd8 : decide ((k : Int) < 8) = true := by simp; omega
              have HD : Hid (diffS ws nx (k + 1) = diffS ws nx k ++ [k]) := HTK.out (by rw [HDA.out, hxy]; simp [hk8])
              go_wp2
              go_quiet (fail)
              have hq := HOW.out nq
              have HLN : Hid (w1.heap.size ≤ (wr.drewN nq).heap.size) := hq.2.fr.size
              have HQ : Hid (OwnN w1.heap.size (wr.drewN nq) (.slice va (diffS ws nx k).length vc) (diffS ws nx k) ∧ Mem2 w1 gx cx i nx (wr.drewN nq)) := hq
              clear hq
              generalize wr.drewN nq = w5 at HQ HLN
              go_wp2_with (first
                | (at_builtin; refine wpList_append_own _ rfl (.tmp 79) (.tmp 81) 25 rfl w1.heap.size 3 j0 (.int .i64 0) 1 8 Tryz.underlying25 hj0 hy0 hy1 hy2 rfl (by decide) _ _ _ rfl (HQ.out.1.alloc _) ⟨w5.heap.size, 0, none⟩ 1 1 [.int .i64 (k : Int)] rfl rfl (World.news_of_block (new_at _ _ _ rfl)) (by intro u hu; simp at hu; subst hu; rfl) (by unfold maxLen; omega) (by omega) (by have := HLN.out; simp; omega) ?_; intro v2 w6 ho6 hg6 _)
                | fail)
              have M6 := mem_grown HQ.out.2 HQ.out.1 hg6
              go_roundg (i - (k + 1))
              case measure => omega
              case rel => exact ⟨k + 1, by omega, rfl, by go_num, by rw [HD.out]; simpa [OwnN] using ho6, M6⟩
            · have hd8 : decide ((k : Int) < 8) = false := by simp; omega
              by_cases hk106 : 106 ≤ k
              · have hd106 : decide ((106 : Int) ≤ (k : Int)) = true := by simp; omega
                have HD : Hid (diffS ws nx (k + 1) = diffS ws nx k ++ [k]) := HTK.out (by rw [HDA.out, hxy]; simp [hk106])
                go_wp2
                go_quiet (fail)
                have hq := HOW.out nq
                have HLN : Hid (w1.heap.size ≤ (wr.drewN nq).heap.size) := hq.2.fr.size
                have HQ : Hid (OwnN w1.heap.size (wr.drewN nq) (.slice va (diffS ws nx k).length vc) (diffS ws nx k) ∧ Mem2 w1 gx cx i nx (wr.drewN nq)) := hq
                clear hq
                generalize wr.drewN nq = w5 at HQ HLN
                go_wp2_with (first
                  | (at_builtin; refine wpList_append_own _ rfl (.tmp 79) (.tmp 81) 25 rfl w1.heap.size 3 j0 (.int .i64 0) 1 8 Tryz.underlying25 hj0 hy0 hy1 hy2 rfl (by decide) _ _ _ rfl (HQ.out.1.alloc _) ⟨w5.heap.size, 0, none⟩ 1 1 [.int .i64 (k : Int)] rfl rfl (World.news_of_block (new_at _ _ _ rfl)) (by intro u hu; simp at hu; subst hu; rfl) (by unfold maxLen; omega) (by omega) (by have := HLN.out; simp; omega) ?_; intro v2 w6 ho6 hg6 _)
                  | fail)
                have M6 := mem_grown HQ.out.2 HQ.out.1 hg6
                go_roundg (i - (k + 1))
                case measure => omega
                case rel => exact ⟨k + 1, by omega, rfl, by go_num, by rw [HD.out]; simpa [OwnN] using ho6, M6⟩
              · have hd106 : decide ((106 : Int) ≤ (k : Int)) = false := by simp; omega
                have HD : Hid (diffS ws nx (k + 1) = diffS ws nx k) := HSK.out (by rw [HDA.out]; simp [hk8, hk106])
                go_wp2
                go_quiet (fail)
                go_wp2
                go_roundg (i - (k + 1))
                case measure => omega
                case rel => exact ⟨k + 1, by omega, rfl, by go_num, by rw [HD.out]; exact (HOW.out nq).1, (HOW.out nq).2⟩
        · obtain rfl : k = i := by omega
          obtain ⟨D, hD⟩ : ∃ D, D = (diffS ws nx k).length := ⟨_, rfl⟩
          have hD48 : 48 < D := by rw [hD]; exact HBG.out
          rw [← hD]
          have hdD : decide ((48 : Int) < (D : Int)) = true := by simp; omega
          have HFR : Hid (Fr New w wr) := HF1.out.same M.fr
          clear hown hdl hD M
          go_wp2
          go_ret
          exact ⟨rfl, HFR.out⟩
end Go.Proofs.YtbagcjlimdilpaaGreat
/- A heap of the document while its Commit runs. -/
namespace Go.Proofs.YtbagcjlimdilpaaGreat
open Go.RowKit

/-- w: ahead of it, with the stores vs0; gx: the next words; vp: the places of the records -/
structure Going (w : World) (hb gw cw L : Nat) (vn vs0 : Value) (gx cx : Nat) (nx : List Int) (vp : Value) (ps : List Nat) (vs : Value) (cur : List Int) (st : List St) (wr : World) : Prop where
  g : RHG hb gw cw L vn vs cur st wr
  x : wr.ownsRow w.heap.size 50 1 (.slice (some ⟨gx, 0, none⟩) L cx) L (nx.map (Value.int .u64))
  lenx : nx.length = L
  p : OwnN w.heap.size wr vp ps
  fr : Fr (TurnedH hb gw vs0) w wr
  v : vs.ownBlock = vs0.ownBlock ∨ ∀ k, vs.ownBlock = some k → w.heap.size ≤ k
  b : gw < w.heap.size
theorem Going.grow {w : World} {hb gw cw L : Nat} {vn vs0 : Value} {gx cx : Nat} {nx : List Int} {vp : Value} {ps : List Nat} {vs : Value} {cur : List Int} {st : List St} {wr wx : World} (h : Going w hb gw cw L vn vs0 gx cx nx vp ps vs cur st wr) (hf : Fr New wr wx) : Going w hb gw cw L vn vs0 gx cx nx vp ps vs cur st wx :=
  ⟨h.g.fr hf, hf.owns h.x (fun _ _ h => h), h.lenx, hf.owns h.p (fun _ _ h => h), h.fr.same hf, h.v, h.b⟩
/-- a row that is younger than the heap's words is not turned by a store -/
theorem Going.kept {w : World} {hb gw cw L : Nat} {vn vs0 : Value} {gx cx : Nat} {nx : List Int} {vp : Value} {ps : List Nat} {vs : Value} {cur : List Int} {st : List St} {wr : World} (h : Going w hb gw cw L vn vs0 gx cx nx vp ps vs cur st wr)
    {B : Nat} {e : TypeId} {sz : Nat} {v : Value} {n : Nat} {ys : List Value} (ho : wr.ownsRow B e sz v n ys) (h1 : e ≠ 141) (h2 : e ≠ 122) (hB : w.heap.size ≤ B) : ∀ g, v.ownBlock = some g → ¬ TurnedH hb gw vs g := fun g hg ht => by
  obtain ⟨hb', c, hc⟩ := own_block ho hg
  rcases ht with rfl | rfl | ht
  · exact type_ne hc h.g.blk h1 rfl
  · have := h.b; omega
  · obtain ⟨_, c2, hc2⟩ := own_block h.g.owns ht
    exact type_ne hc hc2 h2 rfl
theorem Going.next {w : World} {hb gw cw L : Nat} {vn vs0 : Value} {gx cx : Nat} {nx : List Int} {vp : Value} {ps : List Nat} {vs vs' : Value} {cur cur' : List Int} {st st' : List St} {wr wx : World} (h : Going w hb gw cw L vn vs0 gx cx nx vp ps vs cur st wr)
    (g : RHG hb gw cw L vn vs' cur' st' wx) (hf : Fr (TurnedH hb gw vs) wr wx) (hv : vs'.ownBlock = vs.ownBlock ∨ ∀ k, vs'.ownBlock = some k → wr.heap.size ≤ k) : Going w hb gw cw L vn vs0 gx cx nx vp ps vs' cur' st' wx := by
  refine ⟨g, hf.owns h.x (h.kept h.x (by decide) (by decide) (Nat.le_refl _)), h.lenx, hf.owns h.p (h.kept h.p (by decide) (by decide) (Nat.le_refl _)), h.fr.trans hf (fun j hj ht => ?_), ?_, h.b⟩
  · rcases ht with ht | ht | ht
    · exact .inl ht
    · exact .inr (.inl ht)
    · rcases h.v with hv' | hv'
      · exact .inr (.inr (by rw [← hv']; exact ht))
      · have := hv' j ht; omega
  · rcases hv with hv | hv
    · rcases h.v with hv' | hv'
      · exact .inl (hv.trans hv')
      · exact .inr (fun k hk => hv' k (by rw [← hv]; exact hk))
    · exact .inr (fun k hk => Nat.le_trans h.fr.size (hv k hk))
theorem Going.flush {w : World} {hb gw cw L : Nat} {vn vs0 : Value} {gx cx : Nat} {nx : List Int} {vp : Value} {ps : List Nat} {vs : Value} {cur : List Int} {st : List St} {wr : World} (h : Going w hb gw cw L vn vs0 gx cx nx vp ps vs cur st wr) (hl : st.length ≤ 1099511000000) :
    Calls Tryz.prog 133 #[.pointer (some ⟨hb, 0, none⟩)] wr fun e w' => e = .returned (.tuple #[]) ∧ ∃ vs', Going w hb gw cw L vn vs0 gx cx nx vp ps vs' cur (st ++ [⟨2, 0, 0⟩]) w' ∧ Fr (TurnedH hb gw vs) wr w' := by
  refine (flush_any hb gw cw L _ vs cur st wr h.g hl).mono ?_
  rintro e w' ⟨rfl, vs', h1, h2, h3⟩
  exact ⟨rfl, vs', h.next h1 h2 h3, h2⟩
theorem Going.put {w : World} {hb gw cw L : Nat} {vn vs0 : Value} {gx cx : Nat} {nx : List Int} {vp : Value} {ps : List Nat} {vs : Value} {cur : List Int} {st : List St} {wr : World} (h : Going w hb gw cw L vn vs0 gx cx nx vp ps vs cur st wr) (hl : st.length ≤ 1099511000000) (q : Nat) (y : Int) (hq : q < L) :
    Calls Tryz.prog 132 #[.pointer (some ⟨hb, 0, none⟩), .int .i64 q, .int .u64 y] wr fun e w' => e = .returned (.tuple #[]) ∧ ∃ vs', Going w hb gw cw L vn vs0 gx cx nx vp ps vs' (cur.set q y) (st ++ [⟨1, q, y⟩]) w' ∧ Fr (TurnedH hb gw vs) wr w' := by
  refine (put_doc hb gw cw L _ vs cur st q y wr h.g hq hl).mono ?_
  rintro e w' ⟨rfl, vs', h1, h2, h3⟩
  exact ⟨rfl, vs', h.next h1 h2 h3, h2⟩
theorem Going.xcell {w : World} {hb gw cw L : Nat} {vn vs0 : Value} {gx cx : Nat} {nx : List Int} {vp : Value} {ps : List Nat} {vs : Value} {cur : List Int} {st : List St} {wr : World} (h : Going w hb gw cw L vn vs0 gx cx nx vp ps vs cur st wr) (q : Nat) (hq : q < L) : wr.cell? ⟨gx, q, none⟩ = some (.int .u64 (wd nx q)) := by
  have hq' : q < nx.length := by rw [h.lenx]; exact hq
  rw [h.x.cellAt q (by omega)]
  unfold wd
  simp [hq', List.getD]
/-- behind the second loop -/
theorem RHN.going {hb gw cw gn cn L : Nat} {vs : Value} {ws now : List Int} {st : List St} {w w1 wr : World} (h : RHN hb gw cw gn cn L vs ws now st w1) (hf1 : Fr New w w1) (hs : gw < w.heap.size) {gx cx : Nat} {nx : List Int} (M : Mem2 w1 gx cx L nx wr) {vp : Value} {ps : List Nat} (ho : OwnN w1.heap.size wr vp ps) :
    Going w1 hb gw cw L (.slice (some ⟨gn, 0, none⟩) L cn) vs gx cx nx vp ps vs ws st wr := by
  have h2 := h.fr M.fr
  exact ⟨h2.g, M.own, M.len, ho, M.fr.mono (fun _ _ h => False.elim h), .inl rfl, Nat.lt_of_lt_of_le hs hf1.size⟩
/-- the end: Rollback -/
theorem Going.rollback {w : World} {hb gw cw L : Nat} {vn vs0 : Value} {gx cx : Nat} {nx : List Int} {vp : Value} {ps : List Nat} {vs : Value} {cur : List Int} {st : List St} {wr : World} (h : Going w hb gw cw L vn vs0 gx cx nx vp ps vs cur st wr) :
    Calls Tryz.prog 85 #[.pointer (some ⟨hb, 0, none⟩)] wr fun e w' => e = .returned (.tuple #[]) ∧ ∃ gn cn, w.heap.size ≤ gn ∧ RHN hb gw cw gn cn L vs cur cur st w' ∧ Fr (TurnedH hb gw vs0) w w' := by
  refine (rollback_any hb gw cw L _ vs cur st wr h.g).mono ?_
  rintro e w' ⟨rfl, gn, cn, h0, h1, h2, h3⟩
  have hs : w.heap.size ≤ gn := Nat.le_trans h.fr.size h0
  exact ⟨rfl, gn, cn, hs, ⟨h1, h2, h.g.lenw, by have := h.b; omega⟩, h.fr.trans h3 (fun j _ he => .inl he)⟩
end Go.Proofs.YtbagcjlimdilpaaGreat
/- What a Commit of the document leaves: its words. -/
namespace Go.Proofs.YtbagcjlimdilpaaGreat
open Go.RowKit

end Go.Proofs.YtbagcjlimdilpaaGreat
