/- What the document's Repair keeps in memory while it works, apart from its walk. -/
import Derived.Test.YtekdicppkeldoaaGreatSpecP
import Derived.Test.YtekdicppkeldoaaGreatRefF
namespace Go.Proofs.YtekdicppkeldoaaGreat
open Go.RowKit

/-- the words that are worked on, in a row of their own -/
structure Mem2 (w : World) (g c L : Nat) (cur : List Int) (wr : World) : Prop where
  own : wr.ownsRow w.heap.size 36 1 (.slice (some ⟨g, 0, none⟩) L c) L (cur.map (Value.int .u64))
  len : cur.length = L
  fr : Fr New w wr
theorem Mem2.base {w : World} {g c L : Nat} {cur : List Int} {wr : World} (h : Mem2 w g c L cur wr) : w.heap.size ≤ g := (own_block h.own rfl).1
theorem Mem2.cell {w : World} {g c L : Nat} {cur : List Int} {wr : World} (h : Mem2 w g c L cur wr) (k : Nat) (hk : k < L) : wr.cell? ⟨g, k, none⟩ = some (.int .u64 (wd cur k)) := by
  have hk' : k < cur.length := by rw [h.len]; exact hk
  rw [h.own.cellAt k (by omega)]
  unfold wd
  simp [hk', List.getD]
theorem Mem2.free {w : World} {g c L : Nat} {cur : List Int} {wr : World} (h : Mem2 w g c L cur wr) (k : Nat) : wr.frozen? ⟨g, k, none⟩ = false := h.own.frozenAt k
theorem Mem2.put {w : World} {g c L : Nat} {cur : List Int} {wr : World} (h : Mem2 w g c L cur wr) (k : Nat) (y : Int) : Mem2 w g c L (cur.set k y) (wr.setCell ⟨g, k, none⟩ (.int .u64 y)) :=
  ⟨by rw [List.map_set]; exact (h.own.stored k (.int .u64 y)).1, by simpa using h.len, h.fr.setCell (fun hlt => absurd hlt (by have := h.base; simp; omega)) _⟩
theorem Mem2.grow {w : World} {g c L : Nat} {cur : List Int} {wr w' : World} (h : Mem2 w g c L cur wr) (hf : Fr New wr w') : Mem2 w g c L cur w' := ⟨hf.owns h.own (fun _ _ h => h), h.len, h.fr.same hf⟩
theorem Mem2.rowU {w : World} {g c L : Nat} {cur : List Int} {wr : World} (h : Mem2 w g c L cur wr) : RowU wr (some ⟨g, 0, none⟩) cur := rowU_own h.own
theorem Mem2.cap {w : World} {g c L : Nat} {cur : List Int} {wr : World} (h : Mem2 w g c L cur wr) : L ≤ c := by
  rcases h.own.2 with ⟨h', _⟩ | ⟨g', cap', cur', h', _, _, hc, _⟩
  · cases h'
  · simp only [Value.slice.injEq, Option.some.injEq, Addr.mk.injEq, and_true, true_and] at h'
    omega
/-- a row of another kind stays where a word is put -/
theorem own_put {w wr : World} {g c L : Nat} {cur : List Int} (h : Mem2 w g c L cur wr) (k : Nat) (y : Value) {B : Nat} {e : TypeId} {sz : Nat} {v : Value} {n : Nat} {xs : List Value} (ho : wr.ownsRow B e sz v n xs) (he : e ≠ 36) : (wr.setCell ⟨g, k, none⟩ y).ownsRow B e sz v n xs := by
  have hf : Fr (fun k => k = g) wr (wr.setCell ⟨g, k, none⟩ y) := (Fr.refl (fun k => k = g) wr).setCell (p := ⟨g, k, none⟩) (fun _ => rfl) _
  refine hf.owns ho (fun g' hg' hh => ?_)
  obtain ⟨_, c1, h1⟩ := own_block ho hg'
  obtain ⟨_, c2, h2⟩ := own_block h.own rfl
  exact type_ne h1 h2 he hh
theorem row_put {w wr : World} {g c L : Nat} {cur : List Int} (h : Mem2 w g c L cur wr) (k : Nat) (y : Value) {gb : Nat} {out : List Bool} (ho : BRow wr gb out) : BRow (wr.setCell ⟨g, k, none⟩ y) gb out := by
  have hf : Fr (fun k => k = g) wr (wr.setCell ⟨g, k, none⟩ y) := (Fr.refl (fun k => k = g) wr).setCell (p := ⟨g, k, none⟩) (fun _ => rfl) _
  refine hf.heap ho (fun hh => ?_)
  obtain ⟨_, c2, h2⟩ := own_block h.own rfl
  exact type_ne ho h2 (by decide) hh

/-- the words, the objects and the marks -/
structure Hold (w : World) (g c L : Nat) (cur : List Int) (vl : Value) (l : List Ob) (gb : Nat) (out : List Bool) (wr : World) : Prop where
  mem : Mem2 w g c L cur wr
  obs : OwnO 0 wr vl l
  marks : BRow wr gb out
theorem Hold.put {w : World} {g c L : Nat} {cur : List Int} {vl : Value} {l : List Ob} {gb : Nat} {out : List Bool} {wr : World} (h : Hold w g c L cur vl l gb out wr) (k : Nat) (y : Int) : Hold w g c L (cur.set k y) vl l gb out (wr.setCell ⟨g, k, none⟩ (.int .u64 y)) :=
  ⟨h.mem.put k y, own_put h.mem k _ h.obs (by decide), row_put h.mem k _ h.marks⟩
theorem Hold.grow {w : World} {g c L : Nat} {cur : List Int} {vl : Value} {l : List Ob} {gb : Nat} {out : List Bool} {wr w' : World} (h : Hold w g c L cur vl l gb out wr) (hf : Fr New wr w') : Hold w g c L cur vl l gb out w' :=
  ⟨h.mem.grow hf, hf.owns h.obs (fun _ _ h => h), hf.heap h.marks id⟩

theorem Hold.objAt {w : World} {g c L : Nat} {cur : List Int} {av : Option Addr} {cv : Nat} {l : List Ob} {gb : Nat} {out : List Bool} {wr : World} (h : Hold w g c L cur (.slice av l.length cv) l gb out wr) (i : Nat) (hi : i < l.length) :
    ∃ gl, av = some ⟨gl, 0, none⟩ ∧ wr.cell? ⟨gl, i * 3, none⟩ = some (.int .i64 (l[i]).block) ∧ wr.cell? ⟨gl, i * 3 + 1, none⟩ = some (.int .i64 (l[i]).span) ∧ wr.cell? ⟨gl, i * 3 + 2, none⟩ = some (.int .i64 (l[i]).ptrs) := by
  obtain ⟨gl, c', hv, _, _⟩ := h.obs.form (by omega)
  simp only [Value.slice.injEq] at hv
  have key : ∀ j, j < 3 → wr.cell? ⟨gl, i * 3 + j, none⟩ = (obCells l[i])[j]? := fun j hj => by
    have hv' := hv.1
    subst hv'
    have := h.obs.cellAt (i * 3 + j) (by omega)
    exact this.trans (obsCells_get l i j hi hj)
  exact ⟨gl, hv.1, key 0 (by omega), key 1 (by omega), key 2 (by omega)⟩

theorem own_zero {w : World} {B : Nat} {e : TypeId} {sz : Nat} {v : Value} {n : Nat} {xs : List Value} (h : w.ownsRow B e sz v n xs) : w.ownsRow 0 e sz v n xs := by
  refine ⟨h.1, ?_⟩
  rcases h.2 with h | ⟨g, cap, cur, rfl, _, r⟩
  · exact .inl h
  · exact .inr ⟨g, cap, cur, rfl, Nat.zero_le _, r⟩
theorem emptyU (w : World) : (w.alloc (.cells #[] 36)).ownsRow w.heap.size 36 1 (.slice (some ⟨w.heap.size, 0, none⟩) 0 0) 0 [] := World.ownsRow_made w #[] 0 (Nat.le_refl _) (by decide) (by simp)

theorem copy_news {w : World} {x : Addr} {ws : List Int} (h : RowU w (some x) ws) (o : Obj) : ∀ j u, (ws.map (Value.int .u64))[j]? = some u → (w.alloc o).cell? (x.add j) = some u := by
  intro j u hu
  have hp : 0 < (ws.map (Value.int .u64)).length := by
    rcases Nat.lt_or_ge j (ws.map (Value.int .u64)).length with h | h
    · omega
    · rw [List.getElem?_eq_none h] at hu; cases hu
  obtain ⟨ad, had, hn⟩ := news_row (rowU_fr ((Fr.refl New w).alloc o) h (fun _ _ h => h)) hp
  cases had
  exact hn j u hu
theorem copy_mem {w w1 : World} {g c : Nat} {ws : List Int} (h : w1.ownsRow w.heap.size 36 1 (.slice (some ⟨g, 0, none⟩) (0 + ws.length) c) (0 + ws.length) ([] ++ ws.map (Value.int .u64)))
    (hg : (w.alloc (.cells #[] 36)).grownBy w1 (Value.slice (some ⟨w.heap.size, 0, none⟩) 0 0).ownBlock) : Mem2 w g c ws.length ws w1 :=
  ⟨by simpa using h, rfl, ((Fr.refl New w).alloc _).grown hg (fun k hk hv => by simp [Value.ownBlock] at hv; omega)⟩

theorem walk_mem {w : World} {g c L : Nat} {cur : List Int} {W : World} (M : Mem2 w g c L cur W) (hn : nblk L ≠ 0) :
    Calls Tryz.prog 51 #[.slice (some ⟨g, 0, none⟩) L c] W fun e w' => ∃ vl vb, e = .returned (.tuple #[vl, vb]) ∧ OwnO 0 w' vl (objs cur) ∧ OwnN 0 w' vb (bads cur) ∧ Fr New W w' := by
  have hl := M.len
  subst hl
  refine (walk_any _ c cur W hn M.rowU).mono ?_
  rintro e w' ⟨vl, vb, rfl, h1, h2, h3⟩
  exact ⟨vl, vb, rfl, own_zero h1, own_zero h2, h3⟩
theorem reached_mem {w : World} {g c L : Nat} {cur : List Int} {W : World} (M : Mem2 w g c L cur W) (hm : L ≤ 1048576) (h7 : 7 ≤ L) {vl : Value} (ho : OwnO 0 W vl (objs cur)) :
    Calls Tryz.prog 68 #[.slice (some ⟨g, 0, none⟩) L c, vl] W fun e w' => ∃ out : List Bool, e = .returned (.slice (some ⟨W.heap.size, 0, none⟩) (objs cur).length (objs cur).length) ∧ BRow w' W.heap.size out ∧ out.length = (objs cur).length ∧ (∀ i, out[i]? = some true ↔ Reach cur (objs cur) i) ∧ Fr New W w' := by
  have hl := M.len
  subst hl
  exact reached_any _ c cur vl (objs cur) W hm h7 M.rowU (lies_objs ho) (within_objs cur)
theorem seal_mem {w : World} {g c L : Nat} {cur : List Int} {W : World} (M : Mem2 w g c L cur W) (h8 : 8 ≤ L) (hm : L ≤ 1048576) :
    Calls Tryz.prog 56 #[.slice (some ⟨g, 0, none⟩) L c] W fun e w' => e = .returned (.tuple #[]) ∧ w' = W.setCell ⟨g, 7, none⟩ (.int .u64 (sumL (cur.take 7))) := by
  have hcap := M.cap
  have HS : Hid (Calls Tryz.prog 43 #[.slice (some ⟨g, 0, none⟩) 7 c] W fun e w' => e = .returned (.int .u64 (sumL (cur.take 7))) ∧ w' = W) :=
    rsum_any _ 7 _ (cur.take 7) W (by have := M.len; simp; omega) (by decide) (rowU_take M.rowU 7)
  have hfz := M.free 7
  have hcl := M.cell 7 (by omega)
  go_enter Tryz.func56, Tryz.ntmps56
  go_wp2_with (go_at_call 43; refine calls_same HS.out ?_)
  go_end0
  exact ⟨rfl, rfl⟩

/-- what is put where a record asks for it -/
theorem done_set (ws : List Int) (i : Nat) : (doneS ws i).set (wd ws (10 + 2 * i)).toNat (wd ws (11 + 2 * i)) = doneS ws (i + 1) := rfl
theorem doneS_U {ws : List Int} (hU : ∀ z ∈ ws, U z) (k : Nat) : ∀ z ∈ doneS ws k, U z := by
  induction k with
  | zero => exact hU
  | succ k ih =>
    intro z hz
    rcases List.mem_or_eq_of_mem_set hz with h | rfl
    · exact ih z h
    · exact wd_U hU _
end Go.Proofs.YtekdicppkeldoaaGreat
