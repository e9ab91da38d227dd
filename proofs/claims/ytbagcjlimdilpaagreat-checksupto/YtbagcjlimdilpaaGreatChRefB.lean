/- The walk of the document's 'walk': all objects, and the places of wrong headers. -/
import Derived.Test.YtbagcjlimdilpaaGreatChJ0
import Derived.Test.YtbagcjlimdilpaaGreatChJ2
namespace Go.Proofs.YtbagcjlimdilpaaGreat
open Go.RowKit

theorem Tryz.info190 : (Tryz.prog.info? 190).map (fun i => (i.zero, i.size, i.bytes)) = some (some (.agg #[.int .i64 0, .int .i64 0, .int .i64 0]), 3, 24) := by kernel_rfl
theorem Tryz.info3 : (Tryz.prog.info? 3).map (fun i => (i.zero, i.size, i.bytes)) = some (some (.int .i64 0), 1, 8) := by kernel_rfl

def obCells (o : Ob) : List Value := [.int .i64 o.block, .int .i64 o.span, .int .i64 o.ptrs]
def obsCells (l : List Ob) : List Value := l.flatMap obCells
theorem obsCells_snoc (l : List Ob) (o : Ob) : obsCells (l ++ [o]) = obsCells l ++ obCells o := by simp [obsCells]
/-- the list v is the objects l, in a row of its own -/
abbrev OwnO (base : Nat) (w : World) (v : Value) (l : List Ob) : Prop := w.ownsRow base 190 3 v l.length (obsCells l)
/-- the list v is the numbers l, in a row of its own -/
abbrev OwnN (base : Nat) (w : World) (v : Value) (l : List Nat) : Prop := w.ownsRow base 3 1 v l.length (l.map fun (x : Nat) => Value.int .i64 (x : Int))

/-- what the walk keeps -/
structure Walking (w : World) (ws : List Int) (n b : Nat) (vl vb : Value) (os : List Ob) (bs : List Nat) (wr : World) : Prop where
  l : OwnO w.heap.size wr vl os
  bad : OwnN w.heap.size wr vb bs
  fr : Fr New w wr
  all : walkS ws n 0 = (os ++ (walkS ws n b).1, bs ++ (walkS ws n b).2)
  len : os.length ≤ b
  len' : bs.length ≤ b

theorem Walking.ob {w wr w1 w2 : World} {ws : List Int} {n b : Nat} {vl vb vl' : Value} {os : List Ob} {bs : List Nat} {o : Ob} (h : Walking w ws n b vl vb os bs wr) (hb : b < n) (hs : slotAt ws b = some (some o)) (hf : Fr New wr w1)
    (ho : w2.ownsRow w.heap.size 190 3 vl' (os.length + 1) (obsCells os ++ obCells o)) (hg : w1.grownBy w2 vl.ownBlock) : Walking w ws n (b + o.span) vl' vb (os ++ [o]) bs w2 := by
  have hl1 := hf.owns h.l (fun _ _ h => h)
  have hb1 := hf.owns h.bad (fun _ _ h => h)
  have h2 : Fr (fun k => vl.ownBlock = some k) w1 w2 := (Fr.refl _ _).grown hg (fun k _ hk => hk)
  have := (slot_obs hs).2.1
  refine ⟨by unfold OwnO; rw [obsCells_snoc, List.length_append]; exact ho, h2.owns hb1 ?_, (h.fr.same hf).trans h2 (fun j hj hk => by have := (h.l.lt j hk).1; omega), ?_, by have := h.len; simp; omega, by have := h.len'; omega⟩
  · intro g hg' hv
    obtain ⟨_, c, hc⟩ := own_block hb1 hg'
    obtain ⟨_, c', hc'⟩ := own_block hl1 hv
    exact type_ne hc hc' (by decide) rfl
  · rw [h.all, walk_ob hb hs]; simp
theorem Walking.badly {w wr w1 w2 : World} {ws : List Int} {n b : Nat} {vl vb vb' : Value} {os : List Ob} {bs : List Nat} (h : Walking w ws n b vl vb os bs wr) (hb : b < n) (hs : slotAt ws b = some none) (hf : Fr New wr w1)
    (ho : w2.ownsRow w.heap.size 3 1 vb' (bs.length + 1) ((bs.map fun (x : Nat) => Value.int .i64 (x : Int)) ++ [.int .i64 ((106 + 8 * b : Nat) : Int)])) (hg : w1.grownBy w2 vb.ownBlock) : Walking w ws n (b + 1) vl vb' os (bs ++ [106 + 8 * b]) w2 := by
  have hl1 := hf.owns h.l (fun _ _ h => h)
  have hb1 := hf.owns h.bad (fun _ _ h => h)
  have h2 : Fr (fun k => vb.ownBlock = some k) w1 w2 := (Fr.refl _ _).grown hg (fun k _ hk => hk)
  refine ⟨h2.owns hl1 ?_, by unfold OwnN; rw [List.map_append, List.length_append]; exact ho, (h.fr.same hf).trans h2 (fun j hj hk => by have := (h.bad.lt j hk).1; omega), ?_, by have := h.len; omega, by have := h.len'; simp; omega⟩
  · intro g hg' hv
    obtain ⟨_, c, hc⟩ := own_block hl1 hg'
    obtain ⟨_, c', hc'⟩ := own_block hb1 hv
    exact type_ne hc hc' (by decide) rfl
  · rw [h.all, walk_bad hb hs]; simp
theorem Walking.free {w wr w1 : World} {ws : List Int} {n b : Nat} {vl vb : Value} {os : List Ob} {bs : List Nat} (h : Walking w ws n b vl vb os bs wr) (hb : b < n) (hs : slotAt ws b = none) (hf : Fr New wr w1) : Walking w ws n (b + 1) vl vb os bs w1 :=
  ⟨hf.owns h.l (fun _ _ h => h), hf.owns h.bad (fun _ _ h => h), h.fr.same hf, by rw [h.all, walk_free hb hs], by have := h.len; omega, by have := h.len'; omega⟩

theorem new_at (w : World) (o : Obj) (n : Nat) (hn : w.heap.size = n) : (w.alloc o).heap[n]? = some o := by subst hn; exact Go.Deep.blk_alloc_new w o
theorem obCells_one (o : Ob) : ∀ u ∈ obCells o, u.oneCell' = true := by
  intro u hu
  simp only [obCells, List.mem_cons, List.not_mem_nil, or_false] at hu
  rcases hu with rfl | rfl | rfl <;> rfl

theorem x_kept {wr w1 w2 : World} {B : Nat} {e : TypeId} {sz : Nat} {v : Value} {n : Nat} {xs : List Value} (h : wr.ownsRow B e sz v n xs) (hf : Fr New wr w1) {o1 o2 : Obj} (hg : ((w1.alloc o1).alloc o2).grownBy w2 v.ownBlock) : w2.heap[w1.heap.size]? = some o1 := by
  rw [hg.block w1.heap.size (by simp; omega) (fun hh => by have := (h.lt _ hh.symm).2; have := hf.size; omega), Go.Deep.blk_alloc_lt _ _ _ (by simp)]
  exact Go.Deep.blk_alloc_new w1 o1

set_option maxHeartbeats 1000000 in
set_option maxRecDepth 1000000 in
theorem walk_any (a : Option Addr) (cap : Nat) (ws : List Int) (w : World) (hn : nblk ws.length ≠ 0) (hr : RowU w a ws) :
    Calls Tryz.prog 126 #[.slice a ws.length cap] w fun e w' => ∃ vl vb, e = .returned (.tuple #[vl, vb]) ∧ OwnO w.heap.size w' vl (objs ws) ∧ OwnN w.heap.size w' vb (bads ws) ∧ Fr New w w' := by
  obtain ⟨hlen, hn1, hn2⟩ := nblk_some hn
  obtain ⟨n, hnn⟩ : ∃ n, n = nblk ws.length := ⟨_, rfl⟩
  obtain ⟨L, hL⟩ : ∃ L, L = ws.length := ⟨_, rfl⟩
  have HB : Hid (Calls Tryz.prog 127 #[.int .i64 L] w fun e w' => e = .returned (.int .i64 n) ∧ w' = w) := by rw [hL, hnn]; exact blocks_any _ w (by omega)
  rw [← hnn] at hlen hn1 hn2
  rw [← hL] at hlen
  have hLb : L ≤ 362 := by omega
  have HLn : Hid (L = 106 + 8 * n) := hlen
  clear hlen
  have HL : Hid (L = ws.length) := hL
  have HNN : Hid (n = nblk ws.length) := hnn
  rw [← hL]
  clear hn hL hnn
  obtain ⟨i0, hi, hz0, hz1, hz2⟩ := info_parts Tryz.info190
  obtain ⟨j0, hj, hy0, hy1, hy2⟩ := info_parts Tryz.info3
  have hW0 : Walking w ws n 0 (.slice none 0 0) (.slice none 0 0) [] [] w := ⟨World.ownsRow_nil _ _ _ _, World.ownsRow_nil _ _ _ _, Fr.refl _ _, by simp, by simp, by simp⟩
  go_enter Tryz.func126, Tryz.ntmps126
  go_wp2_with (go_at_call 127; refine calls_same HB.out ?_)
  go_loopg [4, 5, 7] n (fun g vl vb t wr => ∃ b os bs, b ≤ n ∧ g = n - b ∧ t = .int .i64 (b : Nat) ∧ Walking w ws n b vl vb os bs wr)
  case atStart => exact ⟨0, [], [], by omega, rfl, rfl, hW0⟩
  case round =>
    obtain ⟨b, os, bs, hbn, rfl, rfl, hw⟩ := hrel
    clear hW0
    by_cases hb : b < n
    · have HO : Hid (Calls Tryz.prog 151 #[.slice a L cap, .int .i64 b] wr fun e w' => e = .returned (objectV (slotAt ws b)) ∧ Fr New wr w') := by
        have := object_any a cap ws b wr (by rw [← HL.out]; omega) (by rw [← HL.out, HLn.out]; omega) (rowU_fr hw.fr hr (fun _ _ h => h))
        rw [← HL.out] at this
        exact this
      rcases hs : slotAt ws b with _ | _ | o
      · rw [hs] at HO
        have HO' : Hid (Calls Tryz.prog 151 #[.slice a L cap, .int .i64 b] wr fun e w' => e = .returned (.tuple #[.agg #[.int .i64 0, .int .i64 0, .int .i64 0], .int .i64 0]) ∧ Fr New wr w') := HO.out
        have hfree := fun w1 hf => hw.free (w1 := w1) hb hs hf
        clear hs HO
        go_wp2_with (first
          | (go_at_call 151; refine HO'.out.mono ?_; rintro e w1 ⟨rfl, hf1⟩)
          | fail)
        go_roundg (n - (b + 1))
        case measure => omega
        case rel => exact ⟨b + 1, os, bs, by omega, rfl, by go_num, hfree _ (hf1.alloc _)⟩
      · rw [hs] at HO
        have HO' : Hid (Calls Tryz.prog 151 #[.slice a L cap, .int .i64 b] wr fun e w' => e = .returned (.tuple #[.agg #[.int .i64 0, .int .i64 0, .int .i64 0], .int .i64 2]) ∧ Fr New wr w') := HO.out
        have HS : Hid (slotAt ws b = some none) := hs
        clear hs HO
        have hlb := hw.len'
        go_wp2_with (first
          | (go_at_call 151; refine HO'.out.mono ?_; rintro e w1 ⟨rfl, hf1⟩)
          | (at_builtin; refine wpList_append_own _ rfl (.tmp 37) (.tmp 41) 25 rfl w.heap.size 3 j0 (.int .i64 0) 1 8 Tryz.underlying25 hj hy0 hy1 hy2 rfl (by decide) _ _ _ rfl (((hf1.alloc _).alloc _).owns hw.bad (fun _ _ h => h)) ⟨w1.heap.size + 1, 0, none⟩ 1 1 [.int .i64 (106 + 8 * (b : Int))] rfl rfl (World.news_of_block (new_at _ _ _ (by simp))) (by intro u hu; simp at hu; subst hu; rfl) (by unfold maxLen; omega) (by omega) (by have := hw.fr.size; have := hf1.size; simp; omega) ?_; intro v2 w2 ho2 hg2 _)
          | fail)
        have hW2 := hw.badly hb HS.out ((hf1.alloc _).alloc _) (by rw [show ((106 + 8 * b : Nat) : Int) = 106 + 8 * (b : Int) by omega]; exact ho2) hg2
        clear ho2 hg2
        go_wp2
        go_roundg (n - (b + 1))
        case measure => omega
        case rel => exact ⟨b + 1, os, _, by omega, rfl, by go_num, hW2⟩
      · have hso := slot_obs hs
        rw [hs] at HO
        obtain ⟨ob, osp, op⟩ := o
        obtain ⟨hob, hs1, hs4, hp, hle⟩ := hso
        simp only at hob hs1 hs4 hp hle
        obtain rfl : b = ob := hob.symm
        have hle' : b + osp ≤ n := by rw [← HL.out, HLn.out] at hle; omega
        have HO' : Hid (Calls Tryz.prog 151 #[.slice a L cap, .int .i64 b] wr fun e w' => e = .returned (.tuple #[.agg #[.int .i64 b, .int .i64 osp, .int .i64 op], .int .i64 1]) ∧ Fr New wr w') := HO.out
        have HS : Hid (slotAt ws b = some (some ⟨b, osp, op⟩)) := hs
        clear hs HO hle
        have hlb := hw.len
        go_wp2_with (first
          | (go_at_call 151; refine HO'.out.mono ?_; rintro e w1 ⟨rfl, hf1⟩)
          | (at_builtin; refine wpList_append_own _ rfl (.tmp 27) (.tmp 29) 186 rfl w.heap.size 190 i0 _ 3 24 Tryz.underlying186 hi hz0 hz1 hz2 rfl (by decide) _ _ _ rfl (((hf1.alloc _).alloc _).owns hw.l (fun _ _ h => h)) ⟨w1.heap.size + 1, 0, none⟩ 1 1 (obCells ⟨b, osp, op⟩) rfl rfl (World.news_of_block (new_at _ _ _ (by simp))) (obCells_one _) (by unfold maxLen; omega) (by omega) (by have := hw.fr.size; have := hf1.size; simp; omega) ?_; intro v2 w2 ho2 hg2 _; obtain ⟨hc2, hz2'⟩ := block_cells (x_kept hw.l hf1 hg2))
          | fail)
        have hW2 := hw.ob hb HS.out ((hf1.alloc _).alloc _) ho2 hg2
        go_roundg (n - (b + osp))
        case measure => omega
        case rel => exact ⟨b + osp, _, bs, by omega, rfl, by go_num, hW2⟩
    · have hend := hw.all
      rw [walk_end hb, List.append_nil, List.append_nil] at hend
      have ho : objs ws = os := by unfold objs; rw [← HNN.out, hend]
      have hbd : bads ws = bs := by unfold bads; rw [← HNN.out, hend]
      have h1 := hw.l
      have h2 := hw.bad
      rw [← ho] at h1
      rw [← hbd] at h2
      have h3 := hw.fr
      clear hend ho hbd
      go_wp2
      go_ret2
      exact ⟨_, _, rfl, h1, h2, h3⟩
end Go.Proofs.YtbagcjlimdilpaaGreat
