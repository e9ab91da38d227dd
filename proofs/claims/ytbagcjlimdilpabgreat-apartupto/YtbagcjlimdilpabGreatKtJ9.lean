/- Texts that follow one another, joined. -/
import Derived.Test.YtbagcjlimdilpabGreatKtJ5
import Derived.Test.YtbagcjlimdilpabGreatKtJ8
import Derived.MapKept
import Derived.Test.YtbagcjlimdilpabGreatKtJ3
/- Walks of the program's Told: Put, Flush, Tell; Changed's Drop; both made. -/
namespace Go.Proofs.YtbagcjlimdilpabGreat
open Go.RowKit Go.Maps

/-- a row that is told, with its stores -/
structure TG (tb g : Nat) (vs : Value) (ws : List Int) (st : List St) (w : World) : Prop where
  t : ToldIs w tb g ws vs
  o : w.ownsRow 0 140 3 vs st.length (stsCells st)
/-- which old blocks a store turns -/
def TurnedT (tb g : Nat) (vs : Value) (k : Nat) : Prop := k = tb ∨ k = g ∨ vs.ownBlock = some k
theorem TG.fr {tb g : Nat} {vs : Value} {ws : List Int} {st : List St} {w w' : World} {T : Nat → Prop} (h : TG tb g vs ws st w) (hf : Fr T w w') (h1 : ¬ T tb) (h2 : ¬ T g) (h3 : ∀ k, vs.ownBlock = some k → ¬ T k) : TG tb g vs ws st w' :=
  ⟨h.t.fr hf h1 h2, hf.owns h.o h3⟩
theorem TG.new {tb g : Nat} {vs : Value} {ws : List Int} {st : List St} {w w' : World} (h : TG tb g vs ws st w) (hf : Fr New w w') : TG tb g vs ws st w' := h.fr hf id id (fun _ _ h => h)
theorem TG.stored {tb g : Nat} {vs : Value} {ws : List Int} {st : List St} {w w1 w2 : World} {s : St} (h : TG tb g vs ws st w) (hf : Fr New w w1) {v2 : Value}
    (ho : w2.ownsRow 0 140 3 v2 (st.length + 1) (stsCells st ++ stCells s)) (hg : w1.grownBy w2 vs.ownBlock) :
    TG tb g v2 ws (st ++ [s]) (w2.setCell ⟨tb, 1, none⟩ v2) ∧ Fr (TurnedT tb g vs) w (w2.setCell ⟨tb, 1, none⟩ v2) := by
  have h1 := h.new hf
  have h2 : Fr (fun k => vs.ownBlock = some k) w1 w2 := (Fr.refl _ _).grown hg (fun k _ hk => hk)
  have hne : ∀ t, t ≠ 140 → ∀ g cur, w1.heap[g]? = some (.cells cur t (0, 0)) → ¬ vs.ownBlock = some g := fun t ht g cur hg hv => by
    obtain ⟨_, c, hc⟩ := own_block h1.o hv
    exact type_ne hg hc ht rfl
  have b2 := h2.heap h1.t.td (hne _ (by decide) _ _ h1.t.td)
  have u2 := h2.heap h1.t.wb (hne _ (by decide) _ _ h1.t.wb)
  have h3 : Fr (fun k => k = tb) w2 (w2.setCell ⟨tb, 1, none⟩ v2) := (Fr.refl (fun k => k = tb) w2).setCell (p := ⟨tb, 1, none⟩) (fun _ => rfl) _
  refine ⟨⟨⟨(heap_setCell_same w2 _ 1 _ _ _ b2).trans (by simp), h3.heap u2 (fun e => type_ne u2 b2 (by decide) e), h.t.len⟩, h3.owns (by rw [stsCells_snoc, List.length_append]; exact ho) (fun g' hg' hh => by
    obtain ⟨_, c, hc⟩ := own_block ho hg'
    exact type_ne hc b2 (by decide) hh)⟩, ?_⟩
  exact (((Fr.refl (TurnedT tb g vs) w).same hf).trans h2 (fun j _ hv => .inr (.inr hv))).trans h3 (fun j _ he => .inl he)

set_option maxRecDepth 100000 in
theorem tflush_any (tb g : Nat) (vs : Value) (ws : List Int) (st : List St) (w : World) (h : TG tb g vs ws st w) (hl : st.length ≤ 1099511627776) :
    Calls Tryz.prog 72 #[.pointer (some ⟨tb, 0, none⟩)] w fun e w' => e = .returned (.tuple #[]) ∧ ∃ vs', TG tb g vs' ws (st ++ [⟨2, 0, 0⟩]) w' ∧ Fr (TurnedT tb g vs) w w' ∧ (vs'.ownBlock = vs.ownBlock ∨ ∀ g, vs'.ownBlock = some g → w.heap.size ≤ g) := by
  obtain ⟨i0, hi, hz0, hz1, hz2⟩ := info_parts Tryz.info140
  obtain ⟨hcb, hzb⟩ := block_cells h.t.td
  have hc2 : w.cell? ⟨tb, 1, none⟩ = some vs := h.t.stores
  have hbw : tb < w.heap.size := lt_of_block h.t.td
  obtain ⟨sa, sc, rfl⟩ := own_slice h.o
  clear hcb hzb
  go_enter Tryz.func72, Tryz.ntmps72
  go_wp2_with (first
    | (at_builtin; refine wpList_append_own_at _ rfl (.tmp 6) (.tmp 8) 67 rfl 0 140 i0 _ 3 24 Tryz.underlying67 hi hz0 hz1 hz2 rfl (by decide) _ _ _ rfl (h.o.alloc _) ⟨w.heap.size, 0, none⟩ 1 1 (stCells ⟨2, 0, 0⟩) rfl rfl (World.news_of_block (Go.Deep.blk_alloc_new w _)) (stCells_one _) (by unfold maxLen; omega) (by omega) (by simp) ?_; intro v2 w2 ho2 hg2 _ hb2; have hfin := h.stored ((Fr.refl New w).alloc _) ho2 hg2; obtain ⟨hcx, hzx⟩ := block_cells (((Fr.refl (fun k => (Value.slice sa st.length sc).ownBlock = some k) _).grown hg2 (fun k _ hk => hk)).heap (((Fr.refl New w).alloc _).heap h.t.td id) (fun hv => by obtain ⟨_, c, hc⟩ := own_block h.o hv; exact type_ne h.t.td hc (by decide) rfl)); obtain ⟨a2, c2, rfl⟩ := own_slice ho2)
    | fail)
  go_end0
  exact ⟨rfl, _, hfin.1, hfin.2, by rcases hb2 with h' | h'; exact .inl h'; exact .inr (fun g hg => by rw [h'] at hg; simp at hg; omega)⟩
theorem told_word {w : World} {tb g : Nat} {ws : List Int} {vs : Value} (h : ToldIs w tb g ws vs) (q : Nat) (y : Int) : ToldIs (w.setCell ⟨g, q, none⟩ (.int .u64 y)) tb g (ws.set q y) vs :=
  ⟨by
    rw [List.length_set, Go.Deep.blk_setCell_other _ _ _ _ (fun e => type_ne h.td h.wb (by decide) e)]
    exact h.td, (heap_setCell_same w g q _ _ _ h.wb).trans (by simp [List.map_set]), by simpa using h.len⟩
set_option maxRecDepth 100000 in
theorem tput_any (tb g : Nat) (vs : Value) (ws : List Int) (st : List St) (q : Nat) (y : Int) (w : World) (h : TG tb g vs ws st w) (hq : q < ws.length) (hl : st.length ≤ 1099511627776) :
    Calls Tryz.prog 73 #[.pointer (some ⟨tb, 0, none⟩), .int .i64 q, .int .u64 y] w fun e w' => e = .returned (.tuple #[]) ∧ ∃ vs', TG tb g vs' (ws.set q y) (st ++ [⟨1, q, y⟩]) w' ∧ Fr (TurnedT tb g vs) w w' ∧ (vs'.ownBlock = vs.ownBlock ∨ ∀ g, vs'.ownBlock = some g → w.heap.size ≤ g) := by
  obtain ⟨i0, hi, hz0, hz1, hz2⟩ := info_parts Tryz.info140
  have hc0 := h.t.head
  have hc2 := h.t.stores
  have hbw : tb < w.heap.size := lt_of_block h.t.td
  have hcq : w.cell? ⟨g, q, none⟩ = some (.int .u64 (wd ws q)) := by have := h.t.cells q hq; rwa [Nat.zero_add] at this
  have hfq := (block_cells h.t.wb).2 q
  have hgb : ¬ tb = g := fun he => type_ne h.t.td h.t.wb (by decide) he
  have hF1 : Fr (fun k => k = g) w (w.setCell ⟨g, q, none⟩ (.int .u64 y)) := (Fr.refl (fun k => k = g) w).setCell (p := ⟨g, q, none⟩) (fun _ => rfl) _
  have h1 : TG tb g vs (ws.set q y) st (w.setCell ⟨g, q, none⟩ (.int .u64 y)) :=
    ⟨told_word h.t q y, hF1.owns h.o (fun g' hg he => by
      obtain ⟨_, c1, h1⟩ := own_block h.o hg
      exact type_ne h1 h.t.wb (by decide) he)⟩
  have hz : (w.setCell ⟨g, q, none⟩ (.int .u64 y)).heap.size = w.heap.size := World.size_setCell _ _ _
  obtain ⟨sa, sc, rfl⟩ := own_slice h.o
  have hgw : g < w.heap.size := lt_of_block h.t.wb
  have HK : Hid (Calls Tryz.prog 85 #[.slice (some ⟨g, 0, none⟩) ws.length ws.length, .int .i64 q, .int .u64 y] w fun e w' => e = .returned (.tuple #[]) ∧ w' = w.setCell ⟨g, q, none⟩ (.int .u64 y)) := kput_any g _ _ q _ y w hq hcq hfq
  have hd1 := h1.t.stores
  go_enter Tryz.func73, Tryz.ntmps73
  go_wp2_with (first
    | (go_at_call 85; refine HK.out.mono ?_; rintro e w1 ⟨rfl, rfl⟩)
    | (at_builtin; refine wpList_append_own_at _ rfl (.tmp 17) (.tmp 21) 67 rfl 0 140 i0 _ 3 24 Tryz.underlying67 hi hz0 hz1 hz2 rfl (by decide) _ _ _ rfl (h1.o.alloc _) ⟨w.heap.size, 0, none⟩ 1 1 (stCells ⟨1, q, y⟩) rfl rfl (World.news_of_block (new_at _ _ _ hz)) (stCells_one _) (by unfold maxLen; omega) (by omega) (by simp) ?_; intro v2 w2 ho2 hg2 _ hb2; have hfin := h1.stored ((Fr.refl New _).alloc _) ho2 hg2; obtain ⟨hcx, hzx⟩ := block_cells (((Fr.refl (fun k => (Value.slice sa st.length sc).ownBlock = some k) _).grown hg2 (fun k _ hk => hk)).heap (((Fr.refl New _).alloc _).heap h1.t.td id) (fun hv => by obtain ⟨_, c, hc⟩ := own_block h1.o hv; exact type_ne h1.t.td hc (by decide) rfl)); obtain ⟨a2, c2, rfl⟩ := own_slice ho2)
    | fail)
  go_end0
  exact ⟨rfl, _, hfin.1, (hF1.mono (fun j _ he => .inr (.inl he))).trans hfin.2 (fun j _ hj => hj), by rcases hb2 with h' | h'; exact .inl h'; exact .inr (fun g hg => by rw [h'] at hg; simp at hg; omega)⟩
end Go.Proofs.YtbagcjlimdilpabGreat

/- Walks of the program's NewTold, NewChanged, Drop. -/
namespace Go.Proofs.YtbagcjlimdilpabGreat
open Go.RowKit Go.Maps

set_option maxRecDepth 100000 in
theorem newTold_any (a : Option Addr) (cap : Nat) (ws : List Int) (w : World) (hm : ws.length ≤ 1048576) (hp : 0 < ws.length) (hr : RowU w a ws) :
    Calls Tryz.prog 25 #[.slice a ws.length cap] w fun e w' => ∃ tb g, e = .returned (.pointer (some ⟨tb, 0, none⟩)) ∧ TG tb g (.slice none 0 0) ws [] w' ∧ w.heap.size ≤ tb ∧ w.heap.size ≤ g ∧ Fr New w w' := by
  have HC : Hid (Calls Tryz.prog 23 #[.slice a ws.length cap] w fun e w' => e = .returned (.slice (some ⟨w.heap.size, 0, none⟩) ws.length ws.length) ∧ Row w' w.heap.size ws ∧ Fr New w w') := kcopy_any a cap ws w hm hp hr
  clear hr
  go_enter Tryz.func25, Tryz.ntmps25
  go_wp2_with (go_at_call 23; refine HC.out.mono ?_; rintro e w1 ⟨rfl, hR, hf⟩)
  go_ret
  refine ⟨w1.heap.size, w.heap.size, rfl, ⟨⟨Go.Deep.blk_alloc_new w1 _, ((Fr.refl New w1).alloc _).heap hR id, hm⟩, World.ownsRow_nil _ _ _ _⟩, hf.size, Nat.le_refl _, hf.alloc _⟩
theorem newChanged_any (tb : Nat) (ws : List Int) (w : World) (hU : ∀ z ∈ ws, U z) :
    Calls Tryz.prog 28 #[.iface 62 (.pointer (some ⟨tb, 0, none⟩))] w fun e w' => ∃ cb mb, e = .returned (.pointer (some ⟨cb, 0, none⟩)) ∧ ChgIs w' cb tb mb ws ws ∧ w.heap.size ≤ cb ∧ w.heap.size ≤ mb ∧ Fr New w w' := by
  have hmm := @run_makeMap Tryz.prog
  go_enter Tryz.func28, Tryz.ntmps28
  go_wp2
  go_ret
  refine ⟨w.heap.size + 1, w.heap.size, rfl, ⟨new_at2 w _ _, ⟨.map [], (World.ownsMap_made w _ _ _).alloc _, diff_none ws⟩, rfl, hU⟩, by omega, Nat.le_refl _, ((Fr.refl New w).alloc _).alloc _⟩
theorem clear_map {w : World} {mb : Nat} {es : Array MapEntry} {clock : Nat} (ty : TypeId) (hb : w.heap[mb]? = some (.map es clock)) : (Builtin.clear_ #[111] ty #[.map (some mb)]).run Tryz.prog w = .ok (.tuple #[]) (Go.ChangeMaps.setBlock w mb (.map #[] clock)) := by
  simp [Builtin.clear_, run_underlying Tryz.underlying111, MapKept.run_getObj_map hb, MapKept.run_setObj_map _ hb, Result.andThen]
  rfl
theorem drop_any (cb tb mb : Nat) (ws now : List Int) (w : World) (hc : ChgIs w cb tb mb ws now) (hU : ∀ z ∈ ws, U z) :
    Calls Tryz.prog 48 #[.pointer (some ⟨cb, 0, none⟩)] w fun e w' => e = .returned (.tuple #[]) ∧ ChgIs w' cb tb mb ws ws ∧ Fr (fun k => k = mb) w w' ∧ w'.heap.size = w.heap.size := by
  have hmp := hc.map
  obtain ⟨D, ⟨es, clock, hb, hF, _⟩, hd⟩ := hc.mp
  have hcl := fun ty => clear_map (w := w) ty hb
  have hne : cb ≠ mb := by rintro rfl; rw [hc.cg] at hb; cases hb
  go_enter Tryz.func48, Tryz.ntmps48
  go_wp2
  go_end0
  have hfr : Fr (fun k => k = mb) w (Go.ChangeMaps.setBlock w mb (.map #[] clock)) := ⟨rfl, rfl, rfl, by simp [Go.ChangeMaps.setBlock], fun k hk hn => by simp [Go.ChangeMaps.setBlock, Ne.symm hn]⟩
  refine ⟨rfl, ⟨hfr.heap hc.cg hne, ⟨.map [], ⟨#[], clock, by simp [Go.ChangeMaps.setBlock, lt_of_block hb], ⟨by simp, Go.MapKept.stamped_empty clock, by simp⟩, by simp, by simp⟩, diff_none ws⟩, rfl, hU⟩, hfr, by simp [Go.ChangeMaps.setBlock]⟩
end Go.Proofs.YtbagcjlimdilpabGreat

