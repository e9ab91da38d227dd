/- Texts that follow one another, joined. -/
import Derived.Test.YtbagcjlimdilpaaGreatHhJ11
import Derived.Test.YtbagcjlimdilpaaGreatHhJ10
import Derived.MapKept
import Derived.Test.YtbagcjlimdilpaaGreatHhJ5
import Derived.Test.YtbagcjlimdilpaaGreatHhJ7
import Derived.Test.YtbagcjlimdilpaaGreatHhJ0
import Derived.Test.YtbagcjlimdilpaaGreatHhJ9
/- Walks of the program's Told: Put, Flush, Tell; Changed's Drop; both made. -/
namespace Go.Proofs.YtbagcjlimdilpaaGreat
open Go.RowKit Go.Maps

/-- a row that is told, with its stores -/
structure TG (tb g : Nat) (vs : Value) (ws : List Int) (st : List St) (w : World) : Prop where
  t : ToldIs w tb g ws vs
  o : w.ownsRow 0 122 3 vs st.length (stsCells st)
/-- which old blocks a store turns -/
def TurnedT (tb g : Nat) (vs : Value) (k : Nat) : Prop := k = tb ∨ k = g ∨ vs.ownBlock = some k
theorem TG.fr {tb g : Nat} {vs : Value} {ws : List Int} {st : List St} {w w' : World} {T : Nat → Prop} (h : TG tb g vs ws st w) (hf : Fr T w w') (h1 : ¬ T tb) (h2 : ¬ T g) (h3 : ∀ k, vs.ownBlock = some k → ¬ T k) : TG tb g vs ws st w' :=
  ⟨h.t.fr hf h1 h2, hf.owns h.o h3⟩
theorem TG.new {tb g : Nat} {vs : Value} {ws : List Int} {st : List St} {w w' : World} (h : TG tb g vs ws st w) (hf : Fr New w w') : TG tb g vs ws st w' := h.fr hf id id (fun _ _ h => h)
theorem TG.stored {tb g : Nat} {vs : Value} {ws : List Int} {st : List St} {w w1 w2 : World} {s : St} (h : TG tb g vs ws st w) (hf : Fr New w w1) {v2 : Value}
    (ho : w2.ownsRow 0 122 3 v2 (st.length + 1) (stsCells st ++ stCells s)) (hg : w1.grownBy w2 vs.ownBlock) :
    TG tb g v2 ws (st ++ [s]) (w2.setCell ⟨tb, 1, none⟩ v2) ∧ Fr (TurnedT tb g vs) w (w2.setCell ⟨tb, 1, none⟩ v2) := by
  have h1 := h.new hf
  have h2 : Fr (fun k => vs.ownBlock = some k) w1 w2 := (Fr.refl _ _).grown hg (fun k _ hk => hk)
  have hne : ∀ t, t ≠ 122 → ∀ g cur, w1.heap[g]? = some (.cells cur t (0, 0)) → ¬ vs.ownBlock = some g := fun t ht g cur hg hv => by
    obtain ⟨_, c, hc⟩ := own_block h1.o hv
    exact type_ne hg hc ht rfl
  have b2 := h2.heap h1.t.td (hne _ (by decide) _ _ h1.t.td)
  have u2 := h2.heap h1.t.wb (hne _ (by decide) _ _ h1.t.wb)
  have h3 : Fr (fun k => k = tb) w2 (w2.setCell ⟨tb, 1, none⟩ v2) := (Fr.refl (fun k => k = tb) w2).setCell (p := ⟨tb, 1, none⟩) (fun _ => rfl) _
  refine ⟨⟨⟨(heap_setCell_same w2 _ 1 _ _ _ b2).trans (by simp), h3.heap u2 (fun e => type_ne u2 b2 (by decide) e), h.t.len⟩, h3.owns (by rw [stsCells_snoc, List.length_append]; exact ho) (fun g' hg' hh => by
    obtain ⟨_, c, hc⟩ := own_block ho hg'
    exact type_ne hc b2 (by decide) hh)⟩, ?_⟩
  exact (((Fr.refl (TurnedT tb g vs) w).same hf).trans h2 (fun j _ hv => .inr (.inr hv))).trans h3 (fun j _ he => .inl he)

set_option maxRecDepth 100000 in
theorem tflush_any (tb g : Nat) (vs : Value) (ws : List Int) (st : List St) (w : World) (h : TG tb g vs ws st w) (hl : st.length ≤ 1099511627776) :
    Calls Tryz.prog 138 #[.pointer (some ⟨tb, 0, none⟩)] w fun e w' => e = .returned (.tuple #[]) ∧ ∃ vs', TG tb g vs' ws (st ++ [⟨2, 0, 0⟩]) w' ∧ Fr (TurnedT tb g vs) w w' ∧ (vs'.ownBlock = vs.ownBlock ∨ ∀ g, vs'.ownBlock = some g → w.heap.size ≤ g) := by
  obtain ⟨i0, hi, hz0, hz1, hz2⟩ := info_parts Tryz.info122
  obtain ⟨hcb, hzb⟩ := block_cells h.t.td
  have hc2 : w.cell? ⟨tb, 1, none⟩ = some vs := h.t.stores
  have hbw : tb < w.heap.size := lt_of_block h.t.td
  obtain ⟨sa, sc, rfl⟩ := own_slice h.o
  clear hcb hzb
  go_enter Tryz.func138, Tryz.ntmps138
  go_wp2_with (first
    | (at_builtin; refine wpList_append_own_at _ rfl (.tmp 6) (.tmp 8) 48 rfl 0 122 i0 _ 3 24 Tryz.underlying48 hi hz0 hz1 hz2 rfl (by decide) _ _ _ rfl (h.o.alloc _) ⟨w.heap.size, 0, none⟩ 1 1 (stCells ⟨2, 0, 0⟩) rfl rfl (World.news_of_block (Go.Deep.blk_alloc_new w _)) (stCells_one _) (by unfold maxLen; omega) (by omega) (by simp) ?_; intro v2 w2 ho2 hg2 _ hb2; have hfin := h.stored ((Fr.refl New w).alloc _) ho2 hg2; obtain ⟨hcx, hzx⟩ := block_cells (((Fr.refl (fun k => (Value.slice sa st.length sc).ownBlock = some k) _).grown hg2 (fun k _ hk => hk)).heap (((Fr.refl New w).alloc _).heap h.t.td id) (fun hv => by obtain ⟨_, c, hc⟩ := own_block h.o hv; exact type_ne h.t.td hc (by decide) rfl)); obtain ⟨a2, c2, rfl⟩ := own_slice ho2)
    | fail)
  go_end0
  exact ⟨rfl, _, hfin.1, hfin.2, by rcases hb2 with h' | h'; exact .inl h'; exact .inr (fun g hg => by rw [h'] at hg; simp at hg; omega)⟩
theorem told_word {w : World} {tb g : Nat} {ws : List Int} {vs : Value} (h : ToldIs w tb g ws vs) (q : Nat) (y : Int) : ToldIs (w.setCell ⟨g, q, none⟩ (.int .u64 y)) tb g (ws.set q y) vs :=
  ⟨by
    rw [List.length_set, Go.Deep.blk_setCell_other _ _ _ _ (fun e => type_ne h.td h.wb (by decide) e)]
    exact h.td, (heap_setCell_same w g q _ _ _ h.wb).trans (by simp [List.map_set]), by simpa using h.len⟩
set_option maxRecDepth 100000 in
theorem tput_any (tb g : Nat) (vs : Value) (ws : List Int) (st : List St) (q : Nat) (y : Int) (w : World) (h : TG tb g vs ws st w) (hq : q < ws.length) (hl : st.length ≤ 1099511627776) :
    Calls Tryz.prog 139 #[.pointer (some ⟨tb, 0, none⟩), .int .i64 q, .int .u64 y] w fun e w' => e = .returned (.tuple #[]) ∧ ∃ vs', TG tb g vs' (ws.set q y) (st ++ [⟨1, q, y⟩]) w' ∧ Fr (TurnedT tb g vs) w w' ∧ (vs'.ownBlock = vs.ownBlock ∨ ∀ g, vs'.ownBlock = some g → w.heap.size ≤ g) := by
  obtain ⟨i0, hi, hz0, hz1, hz2⟩ := info_parts Tryz.info122
  have hc0 := h.t.head
  have hc2 := h.t.stores
  have hbw : tb < w.heap.size := lt_of_block h.t.td
  have hcq : w.cell? ⟨g, q, none⟩ = some (.int .u64 (wd ws q)) := by have := h.t.cells q hq; rwa [Nat.zero_add] at this
  have hfq := (block_cells h.t.wb).2 q
  have hgb : ¬ tb = g := fun he => type_ne h.t.td h.t.wb (by decide) he
  have hF1 : Fr (fun k => k = g) w (w.setCell ⟨g, q, none⟩ (.int .u64 y)) := (Fr.refl (fun k => k = g) w).setCell (p := ⟨g, q, none⟩) (fun _ => rfl) _
  have h1 : TG tb g vs (ws.set q y) st (w.setCell ⟨g, q, none⟩ (.int .u64 y)) :=
    ⟨told_word h.t q y, hF1.owns h.o (fun g' hg he => by
      obtain ⟨_, c1, h1⟩ := own_block h.o hg
      exact type_ne h1 h.t.wb (by decide) he)⟩
  have hz : (w.setCell ⟨g, q, none⟩ (.int .u64 y)).heap.size = w.heap.size := World.size_setCell _ _ _
  obtain ⟨sa, sc, rfl⟩ := own_slice h.o
  have hgw : g < w.heap.size := lt_of_block h.t.wb
  have HK : Hid (Calls Tryz.prog 152 #[.slice (some ⟨g, 0, none⟩) ws.length ws.length, .int .i64 q, .int .u64 y] w fun e w' => e = .returned (.tuple #[]) ∧ w' = w.setCell ⟨g, q, none⟩ (.int .u64 y)) := kput_any g _ _ q _ y w hq hcq hfq
  have hd1 := h1.t.stores
  go_enter Tryz.func139, Tryz.ntmps139
  go_wp2_with (first
    | (go_at_call 152; refine HK.out.mono ?_; rintro e w1 ⟨rfl, rfl⟩)
    | (at_builtin; refine wpList_append_own_at _ rfl (.tmp 17) (.tmp 21) 48 rfl 0 122 i0 _ 3 24 Tryz.underlying48 hi hz0 hz1 hz2 rfl (by decide) _ _ _ rfl (h1.o.alloc _) ⟨w.heap.size, 0, none⟩ 1 1 (stCells ⟨1, q, y⟩) rfl rfl (World.news_of_block (new_at _ _ _ hz)) (stCells_one _) (by unfold maxLen; omega) (by omega) (by simp) ?_; intro v2 w2 ho2 hg2 _ hb2; have hfin := h1.stored ((Fr.refl New _).alloc _) ho2 hg2; obtain ⟨hcx, hzx⟩ := block_cells (((Fr.refl (fun k => (Value.slice sa st.length sc).ownBlock = some k) _).grown hg2 (fun k _ hk => hk)).heap (((Fr.refl New _).alloc _).heap h1.t.td id) (fun hv => by obtain ⟨_, c, hc⟩ := own_block h1.o hv; exact type_ne h1.t.td hc (by decide) rfl)); obtain ⟨a2, c2, rfl⟩ := own_slice ho2)
    | fail)
  go_end0
  exact ⟨rfl, _, hfin.1, (hF1.mono (fun j _ he => .inr (.inl he))).trans hfin.2 (fun j _ hj => hj), by rcases hb2 with h' | h'; exact .inl h'; exact .inr (fun g hg => by rw [h'] at hg; simp at hg; omega)⟩
theorem ttell_any (tb g : Nat) (vs : Value) (ws : List Int) (st : List St) (w : World) (h : TG tb g vs ws st w) :
    Calls Tryz.prog 54 #[.pointer (some ⟨tb, 0, none⟩)] w fun e w' => e = .returned vs ∧ TG tb g (.slice none 0 0) ws [] w' ∧ Fr (fun k => k = tb) w w' ∧ w'.ownsRow 0 122 3 vs st.length (stsCells st) ∧ w'.heap.size = w.heap.size := by
  have hc2 := h.t.stores
  have hz2 := (block_cells h.t.td).2 1
  have hbw : tb < w.heap.size := lt_of_block h.t.td
  have h3 : Fr (fun k => k = tb) w (w.setCell ⟨tb, 1, none⟩ (.slice none 0 0)) := (Fr.refl (fun k => k = tb) w).setCell (p := ⟨tb, 1, none⟩) (fun _ => rfl) _
  have hg : TG tb g (.slice none 0 0) ws [] (w.setCell ⟨tb, 1, none⟩ (.slice none 0 0)) :=
    ⟨⟨(heap_setCell_same w _ 1 _ _ _ h.t.td).trans (by simp), h3.heap h.t.wb (fun e => type_ne h.t.wb h.t.td (by decide) e), h.t.len⟩, World.ownsRow_nil _ _ _ _⟩
  have ho := h3.owns h.o (fun g' hg' hh => by
    obtain ⟨_, c, hc⟩ := own_block h.o hg'
    exact type_ne hc h.t.td (by decide) hh)
  obtain ⟨sa, sc, rfl⟩ := own_slice h.o
  go_enter Tryz.func54, Tryz.ntmps54
  go_wp2
  go_ret
  exact ⟨rfl, hg, h3, ho, World.size_setCell _ _ _⟩
end Go.Proofs.YtbagcjlimdilpaaGreat
/- Walks of the program's NewTold, NewChanged, Drop. -/
namespace Go.Proofs.YtbagcjlimdilpaaGreat
open Go.RowKit Go.Maps

set_option maxRecDepth 100000 in
theorem newTold_any (a : Option Addr) (cap : Nat) (ws : List Int) (w : World) (hm : ws.length ≤ 1048576) (hp : 0 < ws.length) (hr : RowU w a ws) :
    Calls Tryz.prog 47 #[.slice a ws.length cap] w fun e w' => ∃ tb g, e = .returned (.pointer (some ⟨tb, 0, none⟩)) ∧ TG tb g (.slice none 0 0) ws [] w' ∧ w.heap.size ≤ tb ∧ w.heap.size ≤ g ∧ Fr New w w' := by
  have HC : Hid (Calls Tryz.prog 51 #[.slice a ws.length cap] w fun e w' => e = .returned (.slice (some ⟨w.heap.size, 0, none⟩) ws.length ws.length) ∧ Row w' w.heap.size ws ∧ Fr New w w') := kcopy_any a cap ws w hm hp hr
  clear hr
  go_enter Tryz.func47, Tryz.ntmps47
  go_wp2_with (go_at_call 51; refine HC.out.mono ?_; rintro e w1 ⟨rfl, hR, hf⟩)
  go_ret
  refine ⟨w1.heap.size, w.heap.size, rfl, ⟨⟨Go.Deep.blk_alloc_new w1 _, ((Fr.refl New w1).alloc _).heap hR id, hm⟩, World.ownsRow_nil _ _ _ _⟩, hf.size, Nat.le_refl _, hf.alloc _⟩
theorem newChanged_any (tb : Nat) (ws : List Int) (w : World) (hU : ∀ z ∈ ws, U z) :
    Calls Tryz.prog 50 #[.iface 97 (.pointer (some ⟨tb, 0, none⟩))] w fun e w' => ∃ cb mb, e = .returned (.pointer (some ⟨cb, 0, none⟩)) ∧ ChgIs w' cb tb mb ws ws ∧ w.heap.size ≤ cb ∧ w.heap.size ≤ mb ∧ Fr New w w' := by
  have hmm := @run_makeMap Tryz.prog
  go_enter Tryz.func50, Tryz.ntmps50
  go_wp2
  go_ret
  refine ⟨w.heap.size + 1, w.heap.size, rfl, ⟨new_at2 w _ _, ⟨.map [], (World.ownsMap_made w _ _ _).alloc _, diff_none ws⟩, rfl, hU⟩, by omega, Nat.le_refl _, ((Fr.refl New w).alloc _).alloc _⟩
theorem clear_map {w : World} {mb : Nat} {es : Array MapEntry} {clock : Nat} (ty : TypeId) (hb : w.heap[mb]? = some (.map es clock)) : (Builtin.clear_ #[166] ty #[.map (some mb)]).run Tryz.prog w = .ok (.tuple #[]) (Go.ChangeMaps.setBlock w mb (.map #[] clock)) := by
  simp [Builtin.clear_, run_underlying Tryz.underlying166, MapKept.run_getObj_map hb, MapKept.run_setObj_map _ hb, Result.andThen]
  rfl
theorem drop_any (cb tb mb : Nat) (ws now : List Int) (w : World) (hc : ChgIs w cb tb mb ws now) (hU : ∀ z ∈ ws, U z) :
    Calls Tryz.prog 52 #[.pointer (some ⟨cb, 0, none⟩)] w fun e w' => e = .returned (.tuple #[]) ∧ ChgIs w' cb tb mb ws ws ∧ Fr (fun k => k = mb) w w' ∧ w'.heap.size = w.heap.size := by
  have hmp := hc.map
  obtain ⟨D, ⟨es, clock, hb, hF, _⟩, hd⟩ := hc.mp
  have hcl := fun ty => clear_map (w := w) ty hb
  have hne : cb ≠ mb := by rintro rfl; rw [hc.cg] at hb; cases hb
  go_enter Tryz.func52, Tryz.ntmps52
  go_wp2
  go_end0
  have hfr : Fr (fun k => k = mb) w (Go.ChangeMaps.setBlock w mb (.map #[] clock)) := ⟨rfl, rfl, rfl, by simp [Go.ChangeMaps.setBlock], fun k hk hn => by simp [Go.ChangeMaps.setBlock, Ne.symm hn]⟩
  refine ⟨rfl, ⟨hfr.heap hc.cg hne, ⟨.map [], ⟨#[], clock, by simp [Go.ChangeMaps.setBlock, lt_of_block hb], ⟨by simp, Go.MapKept.stamped_empty clock, by simp⟩, by simp, by simp⟩, diff_none ws⟩, rfl, hU⟩, hfr, by simp [Go.ChangeMaps.setBlock]⟩
end Go.Proofs.YtbagcjlimdilpaaGreat
/- The program's heap; walks of its objects, Root, SetRoot, Image, Rollback, Stores. -/
namespace Go.Proofs.YtbagcjlimdilpaaGreat
open Go.RowKit Go.Maps

/-- a heap of the program: its words, the words with what was changed, its stores -/
structure PH (hb tb cb mb g : Nat) (vs : Value) (ws now : List Int) (st : List St) (w : World) : Prop where
  hp : w.heap[hb]? = some (.cells #[.pointer (some ⟨tb, 0, none⟩), .pointer (some ⟨cb, 0, none⟩)] 104 (0, 0))
  tg : TG tb g vs ws st w
  cg : ChgIs w cb tb mb ws now
  uw : ∀ z ∈ ws, U z
  n0 : nblk ws.length ≠ 0
/-- the old blocks that calls of a heap may turn -/
def TurnedP (tb mb g : Nat) (vs : Value) (k : Nat) : Prop := k = tb ∨ k = mb ∨ k = g ∨ vs.ownBlock = some k
namespace PH
variable {hb tb cb mb g : Nat} {vs : Value} {ws now : List Int} {st : List St} {w : World}
theorem fr {T : Nat → Prop} {w' : World} (h : PH hb tb cb mb g vs ws now st w) (hf : Fr T w w') (h0 : ¬ T hb) (h1 : ¬ T tb) (h2 : ¬ T cb) (h3 : ¬ T mb) (h4 : ¬ T g) (h5 : ∀ k, vs.ownBlock = some k → ¬ T k) : PH hb tb cb mb g vs ws now st w' :=
  ⟨hf.heap h.hp h0, h.tg.fr hf h1 h4 h5, h.cg.fr hf h2 h3, h.uw, h.n0⟩
theorem new {w' : World} (h : PH hb tb cb mb g vs ws now st w) (hf : Fr New w w') : PH hb tb cb mb g vs ws now st w' := h.fr hf id id id id id (fun _ _ h => h)
theorem p0 (h : PH hb tb cb mb g vs ws now st w) : w.cell? ⟨hb, 0, none⟩ = some (.pointer (some ⟨tb, 0, none⟩)) := ((block_cells h.hp).1 0).trans rfl
theorem p1 (h : PH hb tb cb mb g vs ws now st w) : w.cell? ⟨hb, 1, none⟩ = some (.pointer (some ⟨cb, 0, none⟩)) := ((block_cells h.hp).1 1).trans rfl
theorem lens (h : PH hb tb cb mb g vs ws now st w) : 114 ≤ ws.length ∧ ws.length ≤ 362 := by
  obtain ⟨h1, h2, h3⟩ := nblk_some h.n0
  omega
theorem mapNe (h : PH hb tb cb mb g vs ws now st w) {k : Nat} {cs : Array Value} {t : TypeId} {f : Nat × Nat} (hk : w.heap[k]? = some (.cells cs t f)) : k ≠ mb := by
  rintro rfl
  obtain ⟨D, ⟨es, clock, hm, _⟩, _⟩ := h.cg.mp
  rw [hk] at hm
  cases hm
theorem row (h : PH hb tb cb mb g vs ws now st w) : RowAt w 101 (.pointer (some ⟨cb, 0, none⟩)) 198 70 (.pointer (some ⟨cb, 0, none⟩)) now := chg_row h.tg.t h.cg
/-- behind a change of the map alone -/
theorem turn {w' : World} {now' : List Int} (h : PH hb tb cb mb g vs ws now st w) (hf : Fr (fun k => k = mb) w w') (hc : ChgIs w' cb tb mb ws now') : PH hb tb cb mb g vs ws now' st w' :=
  ⟨hf.heap h.hp (h.mapNe h.hp), h.tg.fr hf (h.mapNe h.tg.t.td) (h.mapNe h.tg.t.wb) (fun k hk => by
    obtain ⟨_, c, hc⟩ := own_block h.tg.o hk
    exact h.mapNe hc), hc, h.uw, h.n0⟩
theorem unow (h : PH hb tb cb mb g vs ws now st w) : ∀ z ∈ now, U z := h.cg.un
theorem len (h : PH hb tb cb mb g vs ws now st w) : now.length = ws.length := h.cg.len
end PH

set_option maxRecDepth 100000 in
theorem hobjects_any (hb tb cb mb g : Nat) (vs : Value) (ws now : List Int) (st : List St) (w : World) (h : PH hb tb cb mb g vs ws now st w) :
    Calls Tryz.prog 55 #[.pointer (some ⟨hb, 0, none⟩)] w fun e w' => ∃ vl, e = .returned vl ∧ OwnT w.heap.size w' vl (objs now) ∧ Fr New w w' := by
  have hc1 := h.p1
  have HS : Hid (Calls Tryz.prog 99 #[.iface 101 (.pointer (some ⟨cb, 0, none⟩))] w fun e w' => ∃ vl vb, e = .returned (.tuple #[vl, vb]) ∧ OwnT w.heap.size w' vl (objs now) ∧ OwnB w.heap.size w' vb (bads now) ∧ Fr New w w') := survey_row _ _ _ _ _ (nblk now.length) now w rfl (by rw [h.len]; exact h.n0) h.row
  clear h
  go_enter Tryz.func55, Tryz.ntmps55
  go_wp2_with (go_at_call 99; refine HS.out.mono ?_; rintro e w1 ⟨vl, vb, rfl, hl, _, hf⟩)
  go_ret
  exact ⟨_, rfl, hl, hf⟩
theorem isRoot_any (i : Int) (w : World) : Calls Tryz.prog 62 #[.int .i64 i] w fun e w' => e = .returned (.bool (decide (0 ≤ i) && decide (i < 4))) ∧ w' = w := by
  by_cases h0 : 0 ≤ i
  · have hd : decide (0 ≤ i) = true := by simpa using h0
    rw [hd, Bool.true_and]
    go_enter Tryz.func62, Tryz.ntmps62
    go_wp2
    go_ret
    exact ⟨rfl, rfl⟩
  · have hd : decide (0 ≤ i) = false := by simpa using h0
    rw [hd, Bool.false_and]
    go_enter Tryz.func62, Tryz.ntmps62
    go_wp2
    go_ret
    exact ⟨rfl, rfl⟩
theorem isRoot_no (i : Int) (w : World) (h : i < 0 ∨ 4 ≤ i) : Calls Tryz.prog 62 #[.int .i64 i] w fun e w' => e = .returned (.bool false) ∧ w' = w := by
  have := isRoot_any i w
  rwa [show (decide (0 ≤ i) && decide (i < 4)) = false by simp; omega] at this
theorem isRoot_yes (i : Nat) (w : World) (h : i < 4) : Calls Tryz.prog 62 #[.int .i64 (i : Int)] w fun e w' => e = .returned (.bool true) ∧ w' = w := by
  have := isRoot_any (i : Int) w
  rwa [show (decide (0 ≤ (i : Int)) && decide ((i : Int) < 4)) = true by simp; omega] at this

set_option maxRecDepth 100000 in
theorem hroot_any (hb tb cb mb g : Nat) (vs : Value) (ws now : List Int) (st : List St) (i : Int) (w : World) (h : PH hb tb cb mb g vs ws now st w) :
    Calls Tryz.prog 41 #[.pointer (some ⟨hb, 0, none⟩), .int .i64 i] w fun e w' => e = .returned (.tuple #[.int .i64 (rootS now i).1, .int .i64 (rootS now i).2]) ∧ w' = w := by
  have hc1 := h.p1
  unfold rootS
  by_cases hi : i < 0 ∨ 4 ≤ i
  · rw [if_pos hi]
    have HI : Hid (Calls Tryz.prog 62 #[.int .i64 i] w fun e w' => e = .returned (.bool false) ∧ w' = w) := isRoot_no i w hi
    clear hi h
    go_enter Tryz.func41, Tryz.ntmps41
    go_wp2_with (go_at_call 62; refine calls_same HI.out ?_)
    go_ret2
    exact ⟨rfl, rfl⟩
  · rw [if_neg hi]
    obtain ⟨j, rfl⟩ := Int.eq_ofNat_of_zero_le (show 0 ≤ i by omega)
    have hj : j < 4 := by omega
    have HI : Hid (Calls Tryz.prog 62 #[.int .i64 (j : Int)] w fun e w' => e = .returned (.bool true) ∧ w' = w) := isRoot_yes j w hj
    have hl := h.lens
    have HR : Hid (Calls Tryz.prog 70 #[.pointer (some ⟨cb, 0, none⟩), .int .i64 ((3 + j : Nat) : Int)] w fun e w' => e = .returned (.int .u64 (wd now (3 + j))) ∧ w' = w) := cread_any cb tb g mb ws now vs w (3 + j) (by omega) h.tg.t h.cg
    simp only [Int.toNat_natCast]
    clear hi h hl
    go_enter Tryz.func41, Tryz.ntmps41
    go_wp2_with (first
      | (go_at_call 62; refine calls_same HI.out ?_)
      | (go_at_call 70; refine calls_same HR.out ?_))
    go_ret2
    exact ⟨rfl, rfl⟩
/-- a handle as a word finds what it finds as a number -/
theorem idx_wrap {now : List Int} {n : Int} (h0 : -9223372036854775808 ≤ n) (h1 : n ≤ 9223372036854775807) : idx (objs now) (IntKind.u64.wrap n) = idx (objs now) n := by
  by_cases hn : 0 ≤ n
  · rw [show IntKind.u64.wrap n = n by rw [IntKind.wrap_u64]; omega]
  · rw [show IntKind.u64.wrap n = n + 18446744073709551616 by rw [IntKind.wrap_u64]; omega, show idx (objs now) n = none from idx_low (by omega)]
    refine idx_no (fun i hi => ?_)
    have := (objs_in (List.getElem_mem hi)).2.2.2.2
    have := nblk_le now.length
    omega
theorem dang_wrap {now : List Int} {n : Int} (h0 : -9223372036854775808 ≤ n) (h1 : n ≤ 9223372036854775807) : dang (objs now) (IntKind.u64.wrap n) = decide (n ≠ 0 ∧ idx (objs now) n = none) := by
  unfold dang
  rw [idx_wrap h0 h1]
  have : (IntKind.u64.wrap n != 0) = decide (n ≠ 0) := by
    have : IntKind.u64.wrap n = 0 ↔ n = 0 := by rw [IntKind.wrap_u64]; omega
    by_cases hn : n = 0
    · subst hn; rfl
    · rw [show decide (n ≠ 0) = true by simpa using hn]
      simpa using fun e => hn (this.1 e)
  rw [this]
  rcases idx (objs now) n with _ | k <;> simp
set_option maxRecDepth 100000 in
theorem hsetRoot_any (hb tb cb mb g : Nat) (vs : Value) (ws now : List Int) (st : List St) (i n : Int) (w : World) (h0 : -9223372036854775808 ≤ n) (h1 : n ≤ 9223372036854775807) (h : PH hb tb cb mb g vs ws now st w) :
    Calls Tryz.prog 35 #[.pointer (some ⟨hb, 0, none⟩), .int .i64 i, .int .i64 n] w fun e w' => e = .returned (.int .i64 (setRootS now i n).2) ∧ PH hb tb cb mb g vs ws (setRootS now i n).1 st w' ∧ Fr (fun k => k = mb) w w' := by
  have hc1 := h.p1
  unfold setRootS
  by_cases hi : i < 0 ∨ 4 ≤ i
  · rw [if_pos hi]
    have HI : Hid (Calls Tryz.prog 62 #[.int .i64 i] w fun e w' => e = .returned (.bool false) ∧ w' = w) := isRoot_no i w hi
    clear hi
    go_enter Tryz.func35, Tryz.ntmps35
    go_wp2_with (go_at_call 62; refine calls_same HI.out ?_)
    go_ret
    exact ⟨rfl, h, Fr.refl _ _⟩
  · rw [if_neg hi]
    obtain ⟨j, rfl⟩ := Int.eq_ofNat_of_zero_le (show 0 ≤ i by omega)
    have hj : j < 4 := by omega
    have HI : Hid (Calls Tryz.prog 62 #[.int .i64 (j : Int)] w fun e w' => e = .returned (.bool true) ∧ w' = w) := isRoot_yes j w hj
    have hl := h.lens
    have HO : Hid (Calls Tryz.prog 55 #[.pointer (some ⟨hb, 0, none⟩)] w fun e w' => ∃ vl, e = .returned vl ∧ OwnT w.heap.size w' vl (objs now) ∧ Fr New w w') := hobjects_any hb tb cb mb g vs ws now st w h
    have hdw := dang_wrap (now := now) h0 h1
    have HU : Hid (U (IntKind.u64.wrap n)) := by rw [IntKind.wrap_u64]; unfold U; show _ ∧ _; omega
    obtain ⟨x, hx⟩ : ∃ x, x = IntKind.u64.wrap n := ⟨_, rfl⟩
    rw [← hx] at hdw HU
    have HXN : Hid (0 ≤ n → x = n) := fun hn => by rw [hx, IntKind.wrap_u64]; omega
    have hxs := hx.symm
    have HD : Hid (∀ w1 vl, OwnT w.heap.size w1 vl (objs now) → Calls Tryz.prog 58 #[vl, .int .u64 x] w1 fun e w' => e = .returned (.bool (dang (objs now) x)) ∧ Fr New w1 w') := fun w1 vl ho => dangling_any vl (objs now) x w1 (liesT_objs ho) (objs_asc now)
    have HPT : Hid (∀ w1, Fr New w w1 → Calls Tryz.prog 59 #[.pointer (some ⟨cb, 0, none⟩), .int .i64 ((3 + j : Nat) : Int), .int .u64 x] w1 fun e w' => e = .returned (.tuple #[]) ∧ ChgIs w' cb tb mb ws (now.set (3 + j) x) ∧ Fr (fun k => k = mb) w1 w' ∧ w'.heap.size = w1.heap.size) := fun w1 hf => cput_any cb tb g mb ws now vs w1 (3 + j) x (by omega) HU.out (h.new hf).tg.t (h.new hf).cg
    have HC1 : Hid (∀ w1, Fr New w w1 → w1.cell? ⟨hb, 1, none⟩ = some (.pointer (some ⟨cb, 0, none⟩))) := fun w1 hf => (h.new hf).p1
    simp only [Int.toNat_natCast]
    by_cases hn : n ≠ 0 ∧ idx (objs now) n = none
    · rw [if_pos hn]
      rw [hdw, show decide (n ≠ 0 ∧ idx (objs now) n = none) = true by simpa using hn] at HD
      clear hi hl hx hdw hn
      go_enter Tryz.func35, Tryz.ntmps35
      go_wp2_with (first
        | (go_at_call 62; refine calls_same HI.out ?_)
        | (go_at_call 55; refine HO.out.mono ?_; rintro e w1 ⟨vl, rfl, hol, hf1⟩)
        | (go_at_call 58; refine (HD.out _ _ hol).mono ?_; rintro e w2 ⟨rfl, hf2⟩))
      go_ret
      exact ⟨rfl, h.new (hf1.same hf2), (hf1.same hf2).mono (fun _ _ h => h.elim)⟩
    · rw [if_neg hn]
      rw [hdw, show decide (n ≠ 0 ∧ idx (objs now) n = none) = false by simpa using hn] at HD
      have hn0 : 0 ≤ n := by
        rcases (show n < 0 ∨ 0 ≤ n by omega) with hlt | hge
        · exact absurd ⟨by omega, idx_low (by omega)⟩ hn
        · exact hge
      have HXE : Hid (x = n) := HXN.out hn0
      clear hi hl hx hdw hn hn0
      go_enter Tryz.func35, Tryz.ntmps35
      go_wp2_with (first
        | (go_at_call 62; refine calls_same HI.out ?_)
        | (go_at_call 55; refine HO.out.mono ?_; rintro e w1 ⟨vl, rfl, hol, hf1⟩)
        | (go_at_call 58; refine (HD.out _ _ hol).mono ?_; rintro e w2 ⟨rfl, hf2⟩; have hc2 := HC1.out w2 (hf1.same hf2))
        | (go_at_call 59; refine (HPT.out w2 (hf1.same hf2)).mono ?_; rintro e w3 ⟨rfl, hch, hf3, hsz⟩))
      go_ret
      rw [HXE.out] at hch
      exact ⟨rfl, (h.new (hf1.same hf2)).turn hf3 hch, ((hf1.same hf2).mono (fun _ _ h => h.elim)).trans hf3 (fun _ _ h => h)⟩
theorem himage_any (hb tb cb mb g : Nat) (vs : Value) (ws now : List Int) (st : List St) (w : World) (h : PH hb tb cb mb g vs ws now st w) :
    Calls Tryz.prog 21 #[.pointer (some ⟨hb, 0, none⟩)] w fun e w' => e = .returned (.slice (some ⟨w.heap.size, 0, none⟩) ws.length ws.length) ∧ Row w' w.heap.size ws ∧ Fr New w w' := by
  have hc0 := h.p0
  have hct := h.tg.t.head
  have hl := h.lens
  have HC : Hid (Calls Tryz.prog 51 #[.slice (some ⟨g, 0, none⟩) ws.length ws.length] w fun e w' => e = .returned (.slice (some ⟨w.heap.size, 0, none⟩) ws.length ws.length) ∧ Row w' w.heap.size ws ∧ Fr New w w') := kcopy_any _ _ ws w (by omega) (by omega) (Row.rowU (show Row w g ws from h.tg.t.wb))
  clear h hl
  go_enter Tryz.func21, Tryz.ntmps21
  go_wp2_with (go_at_call 51; refine HC.out.mono ?_; rintro e w1 ⟨rfl, hR, hf⟩)
  go_ret
  exact ⟨rfl, hR, hf⟩
theorem hrollback_any (hb tb cb mb g : Nat) (vs : Value) (ws now : List Int) (st : List St) (w : World) (h : PH hb tb cb mb g vs ws now st w) :
    Calls Tryz.prog 22 #[.pointer (some ⟨hb, 0, none⟩)] w fun e w' => e = .returned (.tuple #[]) ∧ PH hb tb cb mb g vs ws ws st w' ∧ Fr (fun k => k = mb) w w' := by
  have hc1 := h.p1
  have HD : Hid (Calls Tryz.prog 52 #[.pointer (some ⟨cb, 0, none⟩)] w fun e w' => e = .returned (.tuple #[]) ∧ ChgIs w' cb tb mb ws ws ∧ Fr (fun k => k = mb) w w' ∧ w'.heap.size = w.heap.size) := drop_any cb tb mb ws now w h.cg h.uw
  go_enter Tryz.func22, Tryz.ntmps22
  go_wp2_with (go_at_call 52; refine HD.out.mono ?_; rintro e w1 ⟨rfl, hch, hf, _⟩)
  go_end0
  exact ⟨rfl, h.turn hf hch, hf⟩
theorem hstores_any (hb tb cb mb g : Nat) (vs : Value) (ws now : List Int) (st : List St) (w : World) (h : PH hb tb cb mb g vs ws now st w) :
    Calls Tryz.prog 25 #[.pointer (some ⟨hb, 0, none⟩)] w fun e w' => e = .returned vs ∧ PH hb tb cb mb g (.slice none 0 0) ws now [] w' ∧ Fr (fun k => k = tb) w w' ∧ w'.ownsRow 0 122 3 vs st.length (stsCells st) ∧ w'.heap.size = w.heap.size := by
  have hc0 := h.p0
  have HT : Hid (Calls Tryz.prog 54 #[.pointer (some ⟨tb, 0, none⟩)] w fun e w' => e = .returned vs ∧ TG tb g (.slice none 0 0) ws [] w' ∧ Fr (fun k => k = tb) w w' ∧ w'.ownsRow 0 122 3 vs st.length (stsCells st) ∧ w'.heap.size = w.heap.size) := ttell_any tb g vs ws st w h.tg
  go_enter Tryz.func25, Tryz.ntmps25
  go_wp2_with (go_at_call 54; refine HT.out.mono ?_; rintro e w1 ⟨rfl, htg, hf, ho, hsz⟩)
  go_ret
  exact ⟨rfl, ⟨hf.heap h.hp (fun e => type_ne h.hp h.tg.t.td (by decide) e), htg, h.cg.fr hf (fun e => type_ne h.cg.cg h.tg.t.td (by decide) e) (fun e => h.mapNe h.tg.t.td e.symm), h.uw, h.n0⟩, hf, ho, hsz⟩
end Go.Proofs.YtbagcjlimdilpaaGreat
/- The walk of the program's Words: an object's words, in a list of their own. -/
namespace Go.Proofs.YtbagcjlimdilpaaGreat
open Go.RowKit Go.Maps

/-- an object's words behind its header -/
def objW (ws : List Int) (o : Ob) : List Int := (List.range (8 * o.span - 1)).map (fun i => wd ws (pl o i))
theorem objW_len (ws : List Int) (o : Ob) : (objW ws o).length = 8 * o.span - 1 := by simp [objW]
/-- the list while it is filled -/
structure WordsTo (ws : List Int) (o : Ob) (N i : Nat) (cur : List Int) : Prop where
  len : cur.length = N
  got : ∀ j, j < i → wd cur j = wd ws (pl o j)
theorem words_done {ws cur : List Int} {o : Ob} (h : WordsTo ws o (8 * o.span - 1) (8 * o.span - 1) cur) : cur = objW ws o := by
  refine wd_ext (by rw [objW_len]; exact h.len) (fun q => ?_)
  by_cases hq : q < 8 * o.span - 1
  · rw [h.got q hq]
    unfold objW
    simp [wd, hq]
  · have h1 := h.len
    have h2 := objW_len ws o
    simp only [wd, List.getD]
    rw [List.getElem?_eq_none (by omega), List.getElem?_eq_none (by omega)]
set_option maxHeartbeats 2000000 in
set_option maxRecDepth 100000 in
theorem twords_row (rt : Nat) (rx : Value) (fL fR : Nat) (ry : Value) (ws : List Int) (o : Ob) (w : World) (hrow : RowAt w rt rx fL fR ry ws) (hs1 : 1 ≤ o.span) (hs4 : o.span ≤ 4) (hb : 106 + 8 * (o.block + o.span) ≤ ws.length) (hl : ws.length ≤ 1048576) :
    Calls Tryz.prog 94 #[.agg #[.int .i64 1, .int .i64 ((o.block + 1 : Nat) : Int), .int .i64 o.span, .int .i64 o.ptrs], .iface rt rx] w fun e w' => ∃ g, w.heap.size ≤ g ∧ e = .returned (.slice (some ⟨g, 0, none⟩) (8 * o.span - 1) (8 * o.span - 1)) ∧ Row w' g (objW ws o) ∧ Fr New w w' := by
  have HFIN : Hid (∀ cur, WordsTo ws o (8 * o.span - 1) (8 * o.span - 1) cur → cur = objW ws o) := fun cur h => words_done h
  have HPT : Hid (∀ i, pl o i = 106 + 8 * o.block + 1 + i) := fun i => rfl
  have HWP : Hid (∀ i, i < 8 * o.span - 1 → ∀ w, Calls Tryz.prog 60 #[.agg #[.int .i64 1, .int .i64 ((o.block + 1 : Nat) : Int), .int .i64 o.span, .int .i64 o.ptrs], .int .i64 (i : Nat)] w fun e w' => e = .returned (.int .i64 ((pl o i : Nat) : Int)) ∧ Fr New w w') := fun i hi w => twplace_any 1 o.span o.ptrs o.block i w (by omega) (by omega)
  have HWD : Hid (∀ w, Calls Tryz.prog 108 #[.int .i64 (o.span : Int)] w fun e w' => e = .returned (.int .i64 ((8 * o.span - 1 : Nat) : Int)) ∧ w' = w) := fun w => by
    have := words_any' o.span w (by omega)
    rwa [show (8 * (o.span : Int) - 1) = ((8 * o.span - 1 : Nat) : Int) by omega] at this
  have HRD : Hid (∀ i, i < 8 * o.span - 1 → ∀ w', Fr New w w' → Calls Tryz.prog fR #[ry, .int .i64 ((pl o i : Nat) : Int)] w' fun e w'' => e = .returned (.int .u64 (wd ws (pl o i))) ∧ w'' = w') := fun i hi w' hf => hrow.read w' hf (pl o i) (by rw [HPT.out]; omega)
  have HM : Hid (∀ w', Fr New w w' → (method 356 rt rx "Read").run Tryz.prog w' = .ok (fR, ry) w') := hrow.mread
  have hcf := hrow.cread
  have har := hrow.aread
  have hmf : ∀ (fn : Fn) (first cap : Array Value) (w : World), (Instr.makeFunc fn first cap).run Tryz.prog w = .ok (.func fn first cap) w := fun _ _ _ _ => rfl
  obtain ⟨i0, hi0, hz0, hz1, hz2⟩ := info_parts Tryz.info50
  obtain ⟨N, hN⟩ : ∃ N : Nat, N = 8 * o.span - 1 := ⟨_, rfl⟩
  rw [← hN] at HFIN HWP HWD HRD ⊢
  have hN31 : N ≤ 31 := by omega
  have hN7 : 7 ≤ N := by omega
  obtain ⟨B, hB⟩ : ∃ B : Nat, B = o.block + 1 := ⟨_, rfl⟩
  obtain ⟨sp, hsp⟩ : ∃ sp : Nat, sp = o.span := ⟨_, rfl⟩
  obtain ⟨pt, hpt⟩ : ∃ pt : Nat, pt = o.ptrs := ⟨_, rfl⟩
  rw [← hB, ← hsp, ← hpt] at HWP
  rw [← hsp] at HWD
  rw [← hB, ← hsp, ← hpt]
  clear hrow hs1 hs4 hb hl hN hB hsp hpt HPT
  go_enter Tryz.func94, Tryz.ntmps94
  have hfA : Fr New w (w.alloc (.cells #[.int .i64 1, .int .i64 B, .int .i64 sp, .int .i64 pt] 115)) := (Fr.refl _ _).alloc _
  have hT0 : (w.alloc (.cells #[.int .i64 1, .int .i64 B, .int .i64 sp, .int .i64 pt] 115)).heap[w.heap.size]? = some (.cells #[.int .i64 1, .int .i64 B, .int .i64 sp, .int .i64 pt] 115 (0, 0)) := Go.Deep.blk_alloc_new w _
  go_wp2_with (first
    | (go_at_call 108; refine calls_same (HWD.out _) ?_)
    | (at_make; refine wpList_make_full _ rfl (.tmp 9) (.tmp 9) 43 rfl (w.heap.size + 1) 50 i0 (.int .u64 0) 1 Tryz.underlying43 hi0 hz0 hz1 .i64 .i64 _ _ N rfl rfl (by omega) (by omega) (by rw [hz2]; omega) (by unfold maxLen; omega) (by simp) ?_; intro w1 hown1 hg1; have hr1 := Row.ofOwn hown1 (made_zeros _); have hf1 : Fr New (w.alloc (.cells #[.int .i64 1, .int .i64 B, .int .i64 sp, .int .i64 pt] 115)) w1 := ((Fr.refl New _).grownNew hg1); clear hown1 hg1)
    | fail)
  have hr2 : Row w1 (w.heap.size + 1) (List.replicate N 0) := by simpa using hr1
  have hT1 := hf1.heap hT0 id
  have hF1 : Fr New w w1 := hfA.same hf1
  have hlw : w.heap.size + 1 < w1.heap.size := lt_of_block hr2
  obtain ⟨gl, hgl⟩ : ∃ gl, gl = w.heap.size + 1 := ⟨_, rfl⟩
  obtain ⟨gt, hgt⟩ : ∃ gt, gt = w.heap.size := ⟨_, rfl⟩
  have HGL : Hid (w.heap.size ≤ gl) := by show _ ≤ _; omega
  have hne : ¬ gt = gl := by omega
  have hne' : ¬ gl = gt := by omega
  rw [← hgl] at hr2
  rw [← hgt] at hT1
  rw [← hgl, ← hgt]
  have HBW : Hid (gt = w.heap.size ∧ gl = w.heap.size + 1) := ⟨hgt, hgl⟩
  clear hr1 hT0 hfA hf1 hgl hgt hlw
  go_loopg [13] N (fun gh t wr => ∃ (i : Nat) (cur : List Int), i ≤ N ∧ gh = N - i ∧ t = .int .i64 i ∧ Row wr gl cur ∧ WordsTo ws o N i cur ∧ wr.heap[gt]? = some (.cells #[.int .i64 1, .int .i64 B, .int .i64 sp, .int .i64 pt] 115 (0, 0)) ∧ Fr New w wr)
  case atStart => exact ⟨0, _, by omega, rfl, rfl, hr2, ⟨by simp, fun j hj => by omega⟩, hT1, hF1⟩
  case round =>
    clear hr2 hT1 hF1
    obtain ⟨i, cur, hiN, rfl, rfl, hR, hWT, hT, hF⟩ := hrel
    have hcl := hWT.len
    by_cases hi : i < N
    · have HPL : Hid (∀ w, Calls Tryz.prog 60 #[.agg #[.int .i64 1, .int .i64 B, .int .i64 sp, .int .i64 pt], .int .i64 (i : Nat)] w fun e w' => e = .returned (.int .i64 ((pl o i : Nat) : Int)) ∧ Fr New w w') := HWP.out i hi
      have HR : Hid (∀ w', Fr New w w' → Calls Tryz.prog fR #[ry, .int .i64 ((pl o i : Nat) : Int)] w' fun e w'' => e = .returned (.int .u64 (wd ws (pl o i))) ∧ w'' = w') := HRD.out i hi
      have HCL : Hid (∀ w', Fr New wr w' → w'.cell? ⟨gl, i, none⟩ = some (.int .u64 (wd cur i)) ∧ w'.frozen? ⟨gl, i, none⟩ = false ∧ gl < w'.heap.size) := fun w' hf => by
        have hb := block_cells (hf.heap (show wr.heap[gl]? = some (.cells ((cur.map (Value.int .u64)).toArray) 50 (0, 0)) from hR) id)
        refine ⟨?_, hb.2 i, lt_of_block (hf.heap (show wr.heap[gl]? = some (.cells ((cur.map (Value.int .u64)).toArray) 50 (0, 0)) from hR) id)⟩
        rw [hb.1]
        simp [wd, show i < cur.length by omega]
      obtain ⟨v, hv⟩ : ∃ v, v = wd ws (pl o i) := ⟨_, rfl⟩
      have HNX : Hid (∀ w', Fr New wr w' → Row (w'.setCell ⟨gl, i, none⟩ (.int .u64 v)) gl (cur.set i v) ∧ WordsTo ws o N (i + 1) (cur.set i v) ∧ (w'.setCell ⟨gl, i, none⟩ (.int .u64 v)).heap[gt]? = some (.cells #[.int .i64 1, .int .i64 B, .int .i64 sp, .int .i64 pt] 115 (0, 0)) ∧ Fr New w (w'.setCell ⟨gl, i, none⟩ (.int .u64 v))) := fun w' hf => by
        have hR' : w'.heap[gl]? = some (.cells ((cur.map (Value.int .u64)).toArray) 50 (0, 0)) := hf.heap (show wr.heap[gl]? = _ from hR) id
        refine ⟨(heap_setCell_same w' gl i _ _ _ hR').trans (by simp [List.map_set]), ⟨by simpa using hcl, fun j hj => ?_⟩, ?_, ?_⟩
        · rw [wd_set (by omega)]
          split
          · next e => rw [hv, e]
          · exact hWT.got j (by omega)
        · rw [Go.Deep.blk_setCell_other _ _ _ _ (fun e => hne e)]
          exact hf.heap hT id
        · exact (hF.same hf).setCell (p := ⟨gl, i, none⟩) (fun h => by have := HBW.out; simp only at h; omega) _
      rw [← hv] at HR
      obtain ⟨q, hq⟩ : ∃ q, q = pl o i := ⟨_, rfl⟩
      rw [← hq] at HPL HR
      obtain ⟨ht, hz⟩ := block_cells hT
      have ht0 : wr.cell? ⟨gt, 0, none⟩ = some (.int .i64 1) := (ht 0).trans rfl
      have ht1 : wr.cell? ⟨gt, 1, none⟩ = some (.int .i64 B) := (ht 1).trans rfl
      have ht2 : wr.cell? ⟨gt, 2, none⟩ = some (.int .i64 sp) := (ht 2).trans rfl
      have ht3 : wr.cell? ⟨gt, 3, none⟩ = some (.int .i64 pt) := (ht 3).trans rfl
      have hi0' : (0 : Int) ≤ (i : Int) := by omega
      have hi1' : (i : Int) < (N : Int) := by omega
      clear ht hz hq hv hWT hR hcl
      go_upto_region 5 with fail
      go_region_with (first
        | (go_at_call 60; refine (HPL.out _).mono ?_; rintro e w4 ⟨rfl, hf4⟩; have hf4' : Fr New wr w4 := (by first | exact hf4 | exact (Fr.refl New wr).drew.same hf4); obtain ⟨c4, z4, l4⟩ := HCL.out w4 hf4')
        | (rw [HM.out]; rotate_left 1; focus (first | exact hF.same hf4' | exact (hF.same hf4').drew))
        | (refine calls_same (HR.out _ (by first | exact hF.same hf4' | exact (hF.same hf4').drew)) ?_))
      all_goals (try go_wp2_with fail)
      all_goals
        obtain ⟨n1, n2, n3, n4⟩ := HNX.out w4 hf4'
        go_roundg (N - (i + 1))
        case measure => omega
        case rel => exact ⟨i + 1, _, by omega, rfl, by go_num, n1, n2, n3, n4⟩
    · obtain rfl : i = N := by omega
      have hfin := HFIN.out cur hWT
      go_wp2
      go_ret
      exact ⟨gl, HGL.out, rfl, hfin ▸ hR, hF⟩
end Go.Proofs.YtbagcjlimdilpaaGreat
/- Mathematics of a heap's words: what its calls make of its objects and roots. -/
namespace Go.Proofs.YtbagcjlimdilpaaGreat

/-- x is a handle of one of l -/
def Hnd (l : List Ob) (x : Int) : Prop := ∃ o ∈ l, ((o.block + 1 : Nat) : Int) = x
theorem idx_hnd {l : List Ob} {x : Int} : idx l x ≠ none ↔ Hnd l x := by
  constructor
  · intro h
    rcases hk : idx l x with _ | k
    · exact absurd hk h
    · obtain ⟨h1, h2⟩ := idx_mem hk
      exact ⟨l[k], List.getElem_mem _, h2⟩
  · rintro ⟨o, ho, h⟩
    exact idx_some_of_mem ho h
/-- the words of a heap: a head, no wrong header, roots and pointers that hold something or nothing -/
structure Good (now : List Int) : Prop where
  n0 : nblk now.length ≠ 0
  bad : bads now = []
  magic : wd now 0 = 20261114
  n : wd now 1 = nblk now.length
  log : wd now 8 = 0
  root : ∀ r, r < 4 → wd now (3 + r) = 0 ∨ Hnd (objs now) (wd now (3 + r))
  ptr : ∀ o ∈ objs now, ∀ p, p < o.ptrs → wd now (pl o p) = 0 ∨ Hnd (objs now) (wd now (pl o p))
theorem Good.tiles {now : List Int} (h : Good now) : Tiles now (objs now) := objs_tiles h.n0 h.bad
theorem Good.len {now : List Int} (h : Good now) : now.length = 106 + 8 * nblk now.length ∧ 1 ≤ nblk now.length ∧ nblk now.length ≤ 32 := nblk_some h.n0

/-- words with the same headers have the same objects -/
theorem objs_congr {a b : List Int} (hl : b.length = a.length) (h : ∀ c, wd b (106 + 8 * c) = wd a (106 + 8 * c)) : objs b = objs a ∧ bads b = bads a := by
  have hs : ∀ c, slotAt b c = slotAt a c := fun c => slot_same hl (h c)
  unfold objs bads walkS
  rw [hl, walkF_congr hs]
  exact ⟨rfl, rfl⟩
theorem objW_congr {a b : List Int} {o : Ob} (h : ∀ i, i < 8 * o.span - 1 → wd b (pl o i) = wd a (pl o i)) : objW b o = objW a o := by
  unfold objW
  apply List.map_congr_left
  intro i hi
  exact h i (by simpa using hi)
/-- words that part only where nothing is said of objects and roots -/
theorem Good.congr {a b : List Int} (h : Good a) (hl : b.length = a.length) (h0 : wd b 0 = wd a 0) (h1 : wd b 1 = wd a 1) (h8 : wd b 8 = 0) (hr : ∀ r, r < 4 → wd b (3 + r) = wd a (3 + r)) (hw : ∀ q, 106 ≤ q → wd b q = wd a q) : Good b ∧ objs b = objs a ∧ ∀ o, objW b o = objW a o := by
  obtain ⟨e1, e2⟩ := objs_congr hl (fun c => hw _ (by omega))
  refine ⟨⟨by rw [hl]; exact h.n0, e2.trans h.bad, h0.trans h.magic, by rw [h1, hl]; exact h.n, h8, fun r hr' => by rw [hr r hr', e1]; exact h.root r hr', fun o ho p hp => ?_⟩, e1, fun o => objW_congr (fun i _ => hw _ (by unfold pl; omega))⟩
  rw [e1] at ho ⊢
  rw [hw _ (by unfold pl; omega)]
  exact h.ptr o ho p hp

theorem split_at (b : Nat) : ∀ (l : List Ob), l.Pairwise (fun o o' => o.block + o.span ≤ o'.block) → ∃ l1 l2, l = l1 ++ l2 ∧ (∀ x ∈ l1, x.block < b) ∧ ∀ x ∈ l2, b ≤ x.block
  | [], _ => ⟨[], [], rfl, (fun x hx => by cases hx), fun x hx => by cases hx⟩
  | o :: l, h => by
    obtain ⟨h1, h2⟩ := List.pairwise_cons.1 h
    by_cases hb : o.block < b
    · obtain ⟨l1, l2, e, a1, a2⟩ := split_at b l h2
      refine ⟨o :: l1, l2, by rw [e]; rfl, fun x hx => ?_, a2⟩
      rcases List.mem_cons.1 hx with rfl | hx
      · exact hb
      · exact a1 x hx
    · refine ⟨[], o :: l, rfl, (fun x hx => by cases hx), fun x hx => ?_⟩
      rcases List.mem_cons.1 hx with rfl | hx
      · omega
      · have := h1 x hx; omega

/-- what a successful Alloc makes: an object more -/
structure Alloced (now r : List Int) (o : Ob) (l1 l2 : List Ob) : Prop where
  good : Good r
  was : objs now = l1 ++ l2
  objs : objs r = l1 ++ o :: l2
  low : ∀ x ∈ l1, x.block < o.block
  high : ∀ x ∈ l2, o.block < x.block
  words : ∀ x ∈ l1 ++ l2, objW r x = objW now x
  new : objW r o = List.replicate (8 * o.span - 1) 0
  len : r.length = now.length
  head : ∀ q, q < 106 → wd r q = wd now q
  hdr : wd r (106 + 8 * o.block) = 1000000 + 100 * (o.span : Int) + (o.ptrs : Int)
  rest : ∀ q, (q < 106 + 8 * o.block ∨ 106 + 8 * o.block + 8 * o.span ≤ q) → wd r q = wd now q
  zero : ∀ q, 106 + 8 * o.block < q → q < 106 + 8 * o.block + 8 * o.span → wd r q = 0
theorem alloc_good {now z r : List Int} {b s p : Nat} (h : Good now) (hs1 : 1 ≤ s) (hs4 : s ≤ 4) (hp : p < 8 * s) (hf : FreeRow (objs now) (nblk now.length) s b) (hz : Zeroed now z (blockZ b (8 * s))) (hr : r = z.set (106 + 8 * b) (1000000 + 100 * (s : Int) + (p : Int))) :
    ∃ l1 l2, Alloced now r ⟨b, s, p⟩ l1 l2 := by
  have ht := h.tiles
  obtain ⟨hl, hn1, hn32⟩ := h.len
  obtain ⟨hf1, hf2⟩ := hf
  have hrl : r.length = now.length := by rw [hr, List.length_set, hz.len]
  have hw : ∀ q, wd r q = if q = 106 + 8 * b then (1000000 + 100 * (s : Int) + (p : Int)) else wd z q := fun q => by rw [hr, wd_set (by rw [hz.len]; omega)]
  have hout : ∀ q, (q < 106 + 8 * b ∨ 106 + 8 * b + 8 * s ≤ q) → wd r q = wd now q := fun q hq => by
    rw [hw, if_neg (by omega)]
    exact hz.no q (by unfold blockZ; omega)
  have hin : ∀ q, 106 + 8 * b < q → q < 106 + 8 * b + 8 * s → wd r q = 0 := fun q h1 h2 => by
    rw [hw, if_neg (by omega)]
    exact hz.yes q (by unfold blockZ; omega)
  have hhd : wd r (106 + 8 * b) = 1000000 + 100 * (s : Int) + (p : Int) := by rw [hw, if_pos rfl]
  obtain ⟨l1, l2, e, a1, a2⟩ := split_at b (objs now) ht.apart
  have hmem : ∀ x, x ∈ objs now ↔ x ∈ l1 ∨ x ∈ l2 := fun x => by rw [e, List.mem_append]
  have h1 : ∀ x ∈ l1, x.block + x.span ≤ b := fun x hx => by
    have := a1 x hx
    have := hf2 x ((hmem x).2 (.inl hx))
    omega
  have h2 : ∀ x ∈ l2, b + s ≤ x.block := fun x hx => by
    have := a2 x hx
    have := hf2 x ((hmem x).2 (.inr hx))
    have := (ht.fits x ((hmem x).2 (.inr hx))).2.1
    omega
  have hap := ht.apart
  rw [e, List.pairwise_append] at hap
  have hT : Tiles r (l1 ++ (⟨b, s, p⟩ : Ob) :: l2) := by
    unfold Tiles
    rw [hrl]
    refine ⟨?_, fun x hx => ?_, fun c _ hc hno => ?_⟩
    · rw [List.pairwise_append]
      refine ⟨hap.1, List.pairwise_cons.2 ⟨fun x hx => h2 x hx, hap.2.1⟩, fun x hx y hy => ?_⟩
      rcases List.mem_cons.1 hy with rfl | hy
      · exact h1 x hx
      · exact hap.2.2 x hx y hy
    · rcases List.mem_append.1 hx with hx | hx
      · have := ht.fits x ((hmem x).2 (.inl hx))
        have hb := h1 x hx
        rw [hout _ (by omega)]
        exact this
      · rcases List.mem_cons.1 hx with rfl | hx
        · exact ⟨by omega, hs1, hs4, hp, hf1, hhd⟩
        · have := ht.fits x ((hmem x).2 (.inr hx))
          have hb := h2 x hx
          rw [hout _ (by omega)]
          exact this
    · have hb := hno ⟨b, s, p⟩ (by simp)
      simp only at hb
      rw [hout _ (by omega)]
      refine ht.free c (by omega) hc (fun o ho => hno o ?_)
      rcases (hmem o).1 ho with ho | ho
      · exact List.mem_append.2 (.inl ho)
      · exact List.mem_append.2 (.inr (List.mem_cons_of_mem _ ho))
  obtain ⟨eo, eb⟩ := tiles_objs (by rw [hrl]; exact h.n0) hT
  have hup : ∀ x, Hnd (objs now) x → Hnd (objs r) x := fun x ⟨o, ho, hx⟩ => by
    refine ⟨o, ?_, hx⟩
    rw [eo]
    rcases (hmem o).1 ho with ho | ho
    · exact List.mem_append.2 (.inl ho)
    · exact List.mem_append.2 (.inr (List.mem_cons_of_mem _ ho))
  have hold : ∀ x ∈ l1 ++ l2, ∀ i, i < 8 * x.span - 1 → wd r (pl x i) = wd now (pl x i) := fun x hx i hi => by
    refine hout _ ?_
    unfold pl
    rcases List.mem_append.1 hx with hx | hx
    · have := h1 x hx; omega
    · have := h2 x hx; omega
  have hlow : ∀ q, q < 106 → wd r q = wd now q := fun q hq => hout q (by omega)
  refine ⟨l1, l2, ⟨⟨by rw [hrl]; exact h.n0, eb, (hlow 0 (by omega)).trans h.magic, by rw [hlow 1 (by omega), hrl]; exact h.n, (hlow 8 (by omega)).trans h.log, fun k hk => ?_, fun o ho i hi => ?_⟩, e, eo, fun x hx => by have := h1 x hx; have := (ht.fits x ((hmem x).2 (.inl hx))).2.1; show x.block < b; omega, fun x hx => by have := h2 x hx; show b < x.block; omega, fun x hx => objW_congr (hold x hx), ?_, hrl, hlow, hhd, hout, hin⟩⟩
  · rw [hlow _ (by omega)]
    exact (h.root k hk).imp id (hup _)
  · rw [eo] at ho
    have hcase : o = ⟨b, s, p⟩ ∨ o ∈ l1 ++ l2 := by
      rcases List.mem_append.1 ho with ho | ho
      · exact .inr (List.mem_append.2 (.inl ho))
      · rcases List.mem_cons.1 ho with ho | ho
        · exact .inl ho
        · exact .inr (List.mem_append.2 (.inr ho))
    rcases hcase with rfl | ho'
    · left
      refine hin _ ?_ ?_ <;> unfold pl <;> simp only at hi ⊢ <;> omega
    · have hm := (hmem o).2 (List.mem_append.1 ho')
      have := (ht.fits o hm).2.2.2.1
      rw [hold o ho' i (by omega)]
      exact (h.ptr o hm i hi).imp id (hup _)
  · refine List.ext_getElem (by simp [objW_len]) (fun i h1' h2' => ?_)
    simp only [objW, List.length_map, List.length_range] at h1'
    simp only [objW, List.getElem_map, List.getElem_range, List.getElem_replicate]
    refine hin _ ?_ ?_ <;> unfold pl <;> simp only <;> omega

/-- what a successful Free makes: an object less -/
structure Freed (now r : List Int) (o : Ob) (l1 l2 : List Ob) : Prop where
  good : Good r
  was : objs now = l1 ++ o :: l2
  objs : objs r = l1 ++ l2
  words : ∀ x ∈ l1 ++ l2, objW r x = objW now x
  len : r.length = now.length
  head : ∀ q, q < 106 → wd r q = wd now q
theorem free_good {now r : List Int} {k : Nat} (h : Good now) (hk : k < (objs now).length) (hh : ¬ HeldBy now (objs now) ((((objs now)[k]).block + 1 : Nat) : Int)) (hz : Zeroed now r (leakZ1 (objs now)[k] ((objs now)[k]).span)) :
    Freed now r (objs now)[k] ((objs now).take k) ((objs now).drop (k + 1)) := by
  have ht := h.tiles
  have e : objs now = (objs now).take k ++ (objs now)[k] :: (objs now).drop (k + 1) := by simp
  obtain ⟨o, ho⟩ : ∃ o, o = (objs now)[k] := ⟨_, rfl⟩
  obtain ⟨l1, hl1⟩ : ∃ l1, l1 = (objs now).take k := ⟨_, rfl⟩
  obtain ⟨l2, hl2⟩ : ∃ l2, l2 = (objs now).drop (k + 1) := ⟨_, rfl⟩
  rw [← ho, ← hl1, ← hl2] at e
  rw [← ho, ← hl1, ← hl2]
  rw [← ho] at hh hz
  clear ho hl1 hl2
  have hmem : ∀ x, x ∈ objs now ↔ x ∈ l1 ∨ x = o ∨ x ∈ l2 := fun x => by rw [e, List.mem_append, List.mem_cons]
  have hap := ht.apart
  rw [e, List.pairwise_append] at hap
  obtain ⟨ap1, ap2, ap3⟩ := hap
  obtain ⟨ap4, ap5⟩ := List.pairwise_cons.1 ap2
  have hoth : ∀ x ∈ l1 ++ l2, x ∈ objs now ∧ (x.block + x.span ≤ o.block ∨ o.block + o.span ≤ x.block) := fun x hx => by
    rcases List.mem_append.1 hx with hx | hx
    · exact ⟨(hmem x).2 (.inl hx), .inl (ap3 x hx o (by simp))⟩
    · exact ⟨(hmem x).2 (.inr (.inr hx)), .inr (ap4 x hx)⟩
  have hout : ∀ q, (q < 106 + 8 * o.block ∨ 106 + 8 * (o.block + o.span) ≤ q) → wd r q = wd now q := fun q hq => hz.no q (fun ⟨b', h1, h2⟩ => by omega)
  have hT : Tiles r (l1 ++ l2) := by
    unfold Tiles
    rw [hz.len]
    refine ⟨?_, fun x hx => ?_, fun c _ hc hno => ?_⟩
    · rw [List.pairwise_append]
      exact ⟨ap1, ap5, fun x hx y hy => ap3 x hx y (List.mem_cons_of_mem _ hy)⟩
    · obtain ⟨hm, hd⟩ := hoth x hx
      have := ht.fits x hm
      rw [hout _ (by omega)]
      exact this
    · by_cases hco : o.block ≤ c ∧ c < o.block + o.span
      · exact hz.yes _ ⟨c - o.block, by omega, by omega⟩
      · rw [hout _ (by omega)]
        refine ht.free c (by omega) hc (fun x hx => ?_)
        rcases (hmem x).1 hx with hx | rfl | hx
        · exact hno x (List.mem_append.2 (.inl hx))
        · exact hco
        · exact hno x (List.mem_append.2 (.inr hx))
  obtain ⟨eo, eb⟩ := tiles_objs (by rw [hz.len]; exact h.n0) hT
  have hoi := (ht.fits o ((hmem o).2 (.inr (.inl rfl))))
  have hwd : ∀ x ∈ l1 ++ l2, ∀ i, i < 8 * x.span - 1 → wd r (pl x i) = wd now (pl x i) := fun x hx i hi => by
    obtain ⟨hm, hd⟩ := hoth x hx
    refine hout _ ?_
    unfold pl
    omega
  have hdn : ∀ x, Hnd (objs now) x → x ≠ ((o.block + 1 : Nat) : Int) → Hnd (objs r) x := fun x ⟨y, hy, hx⟩ hne => by
    refine ⟨y, ?_, hx⟩
    rw [eo]
    rcases (hmem y).1 hy with hy | rfl | hy
    · exact List.mem_append.2 (.inl hy)
    · exact absurd hx.symm hne
    · exact List.mem_append.2 (.inr hy)
  have hlow : ∀ q, q < 106 → wd r q = wd now q := fun q hq => hout q (by omega)
  refine ⟨⟨by rw [hz.len]; exact h.n0, eb, (hlow 0 (by omega)).trans h.magic, by rw [hlow 1 (by omega), hz.len]; exact h.n, (hlow 8 (by omega)).trans h.log, fun j hj => ?_, fun x hx i hi => ?_⟩, e, eo, fun x hx => objW_congr (hwd x hx), hz.len, hlow⟩
  · rw [hlow _ (by omega)]
    exact (h.root j hj).imp id (fun hx => hdn _ hx (fun e => hh (.inl ⟨j, hj, e⟩)))
  · rw [eo] at hx
    obtain ⟨hm, _⟩ := hoth x hx
    have := (ht.fits x hm).2.2.2.1
    rw [hwd x hx i (by omega)]
    refine (h.ptr x hm i hi).imp id (fun hy => hdn _ hy (fun e => hh (.inr ?_)))
    obtain ⟨j, hj, ej⟩ := List.getElem_of_mem hm
    exact ⟨j, hj, i, by rw [ej]; exact hi, by rw [ej]; exact e⟩

/-- what Write makes -/
theorem write_good {now : List Int} {o : Ob} {i : Nat} {v : Int} (h : Good now) (ho : o ∈ objs now) (hi : i < 8 * o.span - 1) (hv : i < o.ptrs → v = 0 ∨ Hnd (objs now) v) :
    Good (now.set (pl o i) v) ∧ objs (now.set (pl o i) v) = objs now ∧ objW (now.set (pl o i) v) o = (objW now o).set i v ∧ (∀ x ∈ objs now, x ≠ o → objW (now.set (pl o i) v) x = objW now x) ∧ ∀ q, q < 106 → wd (now.set (pl o i) v) q = wd now q := by
  have ht := h.tiles
  have hoi := objs_in ho
  have hpl : pl o i < now.length := by unfold pl; omega
  obtain ⟨eo, eb⟩ := tiles_objs (by rw [List.length_set]; exact h.n0) (ht.word ho (v := v) hi)
  have hlow : ∀ q, q < 106 → wd (now.set (pl o i) v) q = wd now q := fun q hq => by rw [wd_set hpl, if_neg (by unfold pl; omega)]
  have hoth : ∀ x ∈ objs now, x ≠ o → ∀ j, j < 8 * x.span - 1 → pl x j ≠ pl o i := fun x hx hne j hj => by
    have := (ht.fits x hx).2.1
    rcases pair_mem ht.apart hx ho with e | e | e
    · exact absurd e hne
    · unfold pl; omega
    · unfold pl; omega
  refine ⟨⟨by rw [List.length_set]; exact h.n0, eb, (hlow 0 (by omega)).trans h.magic, by rw [hlow 1 (by omega), List.length_set]; exact h.n, (hlow 8 (by omega)).trans h.log, fun r hr => by rw [hlow _ (by omega), eo]; exact h.root r hr, fun x hx p hp => ?_⟩, eo, ?_, fun x hx hne => objW_congr (fun j hj => by rw [wd_set hpl, if_neg (hoth x hx hne j hj)]), hlow⟩
  · rw [eo] at hx ⊢
    have hxp := (ht.fits x hx).2.2.2.1
    by_cases he : pl x p = pl o i
    · rw [he, wd_set hpl, if_pos rfl]
      have hxo : x = o := by
        by_cases hxo : x = o
        · exact hxo
        · exact absurd he (hoth x hx hxo p (by omega))
      subst hxo
      have : p = i := by unfold pl at he; omega
      subst this
      exact hv hp
    · rw [wd_set hpl, if_neg he]
      exact h.ptr x hx p hp
  · refine List.ext_getElem (by simp [objW_len]) (fun j h1 h2 => ?_)
    simp only [objW, List.getElem_map, List.getElem_range, List.getElem_set]
    rw [wd_set hpl]
    by_cases hj : i = j
    · subst hj; simp
    · rw [if_neg (by unfold pl; omega), if_neg hj]
/-- what SetRoot makes -/
theorem root_good {now : List Int} {i : Nat} {n : Int} (h : Good now) (hi : i < 4) (hv : n = 0 ∨ Hnd (objs now) n) :
    Good (now.set (3 + i) n) ∧ objs (now.set (3 + i) n) = objs now ∧ (∀ x, objW (now.set (3 + i) n) x = objW now x) ∧ ∀ q, q ≠ 3 + i → wd (now.set (3 + i) n) q = wd now q := by
  have hlt : 3 + i < now.length := by have := h.len; omega
  have hw : ∀ q, q ≠ 3 + i → wd (now.set (3 + i) n) q = wd now q := fun q hq => by rw [wd_set hlt, if_neg hq]
  obtain ⟨eo, eb⟩ := objs_congr (List.length_set) (fun c => hw _ (by omega) : ∀ c, wd (now.set (3 + i) n) (106 + 8 * c) = wd now (106 + 8 * c))
  refine ⟨⟨by rw [List.length_set]; exact h.n0, eb.trans h.bad, (hw 0 (by omega)).trans h.magic, by rw [hw 1 (by omega), List.length_set]; exact h.n, (hw 8 (by omega)).trans h.log, fun r hr => ?_, fun x hx p hp => ?_⟩, eo, fun x => objW_congr (fun j _ => hw _ (by unfold pl; omega)), hw⟩
  · rw [eo, wd_set hlt]
    by_cases he : 3 + r = 3 + i
    · rw [if_pos he]; exact hv
    · rw [if_neg he]; exact h.root r hr
  · rw [eo] at hx ⊢
    rw [hw _ (by unfold pl; omega)]
    exact h.ptr x hx p hp
end Go.Proofs.YtbagcjlimdilpaaGreat
