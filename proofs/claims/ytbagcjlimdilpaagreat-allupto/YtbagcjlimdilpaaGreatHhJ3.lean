/- Texts that follow one another, joined. -/
import Derived.Test.YtbagcjlimdilpaaGreatHhRefA
import Derived.Test.YtbagcjlimdilpaaGreatHhJ2
import Derived.Test.YtbagcjlimdilpaaGreatHhJ0
/- The walk of the document's 'walk': all objects, and the places of wrong headers. -/
namespace Go.Proofs.YtbagcjlimdilpaaGreat
open Go.RowKit

theorem Tryz.info190 : (Tryz.prog.info? 190).map (fun i => (i.zero, i.size, i.bytes)) = some (some (.agg #[.int .i64 0, .int .i64 0, .int .i64 0]), 3, 24) := by kernel_rfl
theorem Tryz.info3 : (Tryz.prog.info? 3).map (fun i => (i.zero, i.size, i.bytes)) = some (some (.int .i64 0), 1, 8) := by kernel_rfl

def obCells (o : Ob) : List Value := [.int .i64 o.block, .int .i64 o.span, .int .i64 o.ptrs]
def obsCells (l : List Ob) : List Value := l.flatMap obCells
theorem obsCells_snoc (l : List Ob) (o : Ob) : obsCells (l ++ [o]) = obsCells l ++ obCells o := by simp [obsCells]
/-- the list v is the objects l, in a row of its own -/
abbrev OwnO (base : Nat) (w : World) (v : Value) (l : List Ob) : Prop := w.ownsRow base 190 3 v l.length (obsCells l)
/-- the list v is the numbers l, in a row of its own -/
abbrev OwnN (base : Nat) (w : World) (v : Value) (l : List Nat) : Prop := w.ownsRow base 3 1 v l.length (l.map fun (x : Nat) => Value.int .i64 (x : Int))

/-- what the walk keeps -/
structure Walking (w : World) (ws : List Int) (n b : Nat) (vl vb : Value) (os : List Ob) (bs : List Nat) (wr : World) : Prop where
  l : OwnO w.heap.size wr vl os
  bad : OwnN w.heap.size wr vb bs
  fr : Fr New w wr
  all : walkS ws n 0 = (os ++ (walkS ws n b).1, bs ++ (walkS ws n b).2)
  len : os.length ≤ b
  len' : bs.length ≤ b

theorem Walking.ob {w wr w1 w2 : World} {ws : List Int} {n b : Nat} {vl vb vl' : Value} {os : List Ob} {bs : List Nat} {o : Ob} (h : Walking w ws n b vl vb os bs wr) (hb : b < n) (hs : slotAt ws b = some (some o)) (hf : Fr New wr w1)
    (ho : w2.ownsRow w.heap.size 190 3 vl' (os.length + 1) (obsCells os ++ obCells o)) (hg : w1.grownBy w2 vl.ownBlock) : Walking w ws n (b + o.span) vl' vb (os ++ [o]) bs w2 := by
  have hl1 := hf.owns h.l (fun _ _ h => h)
  have hb1 := hf.owns h.bad (fun _ _ h => h)
  have h2 : Fr (fun k => vl.ownBlock = some k) w1 w2 := (Fr.refl _ _).grown hg (fun k _ hk => hk)
  have := (slot_obs hs).2.1
  refine ⟨by unfold OwnO; rw [obsCells_snoc, List.length_append]; exact ho, h2.owns hb1 ?_, (h.fr.same hf).trans h2 (fun j hj hk => by have := (h.l.lt j hk).1; omega), ?_, by have := h.len; simp; omega, by have := h.len'; omega⟩
  · intro g hg' hv
    obtain ⟨_, c, hc⟩ := own_block hb1 hg'
    obtain ⟨_, c', hc'⟩ := own_block hl1 hv
    exact type_ne hc hc' (by decide) rfl
  · rw [h.all, walk_ob hb hs]; simp
theorem Walking.badly {w wr w1 w2 : World} {ws : List Int} {n b : Nat} {vl vb vb' : Value} {os : List Ob} {bs : List Nat} (h : Walking w ws n b vl vb os bs wr) (hb : b < n) (hs : slotAt ws b = some none) (hf : Fr New wr w1)
    (ho : w2.ownsRow w.heap.size 3 1 vb' (bs.length + 1) ((bs.map fun (x : Nat) => Value.int .i64 (x : Int)) ++ [.int .i64 ((106 + 8 * b : Nat) : Int)])) (hg : w1.grownBy w2 vb.ownBlock) : Walking w ws n (b + 1) vl vb' os (bs ++ [106 + 8 * b]) w2 := by
  have hl1 := hf.owns h.l (fun _ _ h => h)
  have hb1 := hf.owns h.bad (fun _ _ h => h)
  have h2 : Fr (fun k => vb.ownBlock = some k) w1 w2 := (Fr.refl _ _).grown hg (fun k _ hk => hk)
  refine ⟨h2.owns hl1 ?_, by unfold OwnN; rw [List.map_append, List.length_append]; exact ho, (h.fr.same hf).trans h2 (fun j hj hk => by have := (h.bad.lt j hk).1; omega), ?_, by have := h.len; omega, by have := h.len'; simp; omega⟩
  · intro g hg' hv
    obtain ⟨_, c, hc⟩ := own_block hl1 hg'
    obtain ⟨_, c', hc'⟩ := own_block hb1 hv
    exact type_ne hc hc' (by decide) rfl
  · rw [h.all, walk_bad hb hs]; simp
theorem Walking.free {w wr w1 : World} {ws : List Int} {n b : Nat} {vl vb : Value} {os : List Ob} {bs : List Nat} (h : Walking w ws n b vl vb os bs wr) (hb : b < n) (hs : slotAt ws b = none) (hf : Fr New wr w1) : Walking w ws n (b + 1) vl vb os bs w1 :=
  ⟨hf.owns h.l (fun _ _ h => h), hf.owns h.bad (fun _ _ h => h), h.fr.same hf, by rw [h.all, walk_free hb hs], by have := h.len; omega, by have := h.len'; omega⟩

theorem new_at (w : World) (o : Obj) (n : Nat) (hn : w.heap.size = n) : (w.alloc o).heap[n]? = some o := by subst hn; exact Go.Deep.blk_alloc_new w o
theorem obCells_one (o : Ob) : ∀ u ∈ obCells o, u.oneCell' = true := by
  intro u hu
  simp only [obCells, List.mem_cons, List.not_mem_nil, or_false] at hu
  rcases hu with rfl | rfl | rfl <;> rfl

theorem x_kept {wr w1 w2 : World} {B : Nat} {e : TypeId} {sz : Nat} {v : Value} {n : Nat} {xs : List Value} (h : wr.ownsRow B e sz v n xs) (hf : Fr New wr w1) {o1 o2 : Obj} (hg : ((w1.alloc o1).alloc o2).grownBy w2 v.ownBlock) : w2.heap[w1.heap.size]? = some o1 := by
  rw [hg.block w1.heap.size (by simp; omega) (fun hh => by have := (h.lt _ hh.symm).2; have := hf.size; omega), Go.Deep.blk_alloc_lt _ _ _ (by simp)]
  exact Go.Deep.blk_alloc_new w1 o1

set_option maxHeartbeats 1000000 in
set_option maxRecDepth 1000000 in
theorem walk_any (a : Option Addr) (cap : Nat) (ws : List Int) (w : World) (hn : nblk ws.length ≠ 0) (hr : RowU w a ws) :
    Calls Tryz.prog 126 #[.slice a ws.length cap] w fun e w' => ∃ vl vb, e = .returned (.tuple #[vl, vb]) ∧ OwnO w.heap.size w' vl (objs ws) ∧ OwnN w.heap.size w' vb (bads ws) ∧ Fr New w w' := by
  obtain ⟨hlen, hn1, hn2⟩ := nblk_some hn
  obtain ⟨n, hnn⟩ : ∃ n, n = nblk ws.length := ⟨_, rfl⟩
  obtain ⟨L, hL⟩ : ∃ L, L = ws.length := ⟨_, rfl⟩
  have HB : Hid (Calls Tryz.prog 127 #[.int .i64 L] w fun e w' => e = .returned (.int .i64 n) ∧ w' = w) := by rw [hL, hnn]; exact blocks_any _ w (by omega)
  rw [← hnn] at hlen hn1 hn2
  rw [← hL] at hlen
  have hLb : L ≤ 362 := by omega
  have HLn : Hid (L = 106 + 8 * n) := hlen
  clear hlen
  have HL : Hid (L = ws.length) := hL
  have HNN : Hid (n = nblk ws.length) := hnn
  rw [← hL]
  clear hn hL hnn
  obtain ⟨i0, hi, hz0, hz1, hz2⟩ := info_parts Tryz.info190
  obtain ⟨j0, hj, hy0, hy1, hy2⟩ := info_parts Tryz.info3
  have hW0 : Walking w ws n 0 (.slice none 0 0) (.slice none 0 0) [] [] w := ⟨World.ownsRow_nil _ _ _ _, World.ownsRow_nil _ _ _ _, Fr.refl _ _, by simp, by simp, by simp⟩
  go_enter Tryz.func126, Tryz.ntmps126
  go_wp2_with (go_at_call 127; refine calls_same HB.out ?_)
  go_loopg [4, 5, 7] n (fun g vl vb t wr => ∃ b os bs, b ≤ n ∧ g = n - b ∧ t = .int .i64 (b : Nat) ∧ Walking w ws n b vl vb os bs wr)
  case atStart => exact ⟨0, [], [], by omega, rfl, rfl, hW0⟩
  case round =>
    obtain ⟨b, os, bs, hbn, rfl, rfl, hw⟩ := hrel
    clear hW0
    by_cases hb : b < n
    · have HO : Hid (Calls Tryz.prog 151 #[.slice a L cap, .int .i64 b] wr fun e w' => e = .returned (objectV (slotAt ws b)) ∧ Fr New wr w') := by
        have := object_any a cap ws b wr (by rw [← HL.out]; omega) (by rw [← HL.out, HLn.out]; omega) (rowU_fr hw.fr hr (fun _ _ h => h))
        rw [← HL.out] at this
        exact this
      rcases hs : slotAt ws b with _ | _ | o
      · rw [hs] at HO
        have HO' : Hid (Calls Tryz.prog 151 #[.slice a L cap, .int .i64 b] wr fun e w' => e = .returned (.tuple #[.agg #[.int .i64 0, .int .i64 0, .int .i64 0], .int .i64 0]) ∧ Fr New wr w') := HO.out
        have hfree := fun w1 hf => hw.free (w1 := w1) hb hs hf
        clear hs HO
        go_wp2_with (first
          | (go_at_call 151; refine HO'.out.mono ?_; rintro e w1 ⟨rfl, hf1⟩)
          | fail)
        go_roundg (n - (b + 1))
        case measure => omega
        case rel => exact ⟨b + 1, os, bs, by omega, rfl, by go_num, hfree _ (hf1.alloc _)⟩
      · rw [hs] at HO
        have HO' : Hid (Calls Tryz.prog 151 #[.slice a L cap, .int .i64 b] wr fun e w' => e = .returned (.tuple #[.agg #[.int .i64 0, .int .i64 0, .int .i64 0], .int .i64 2]) ∧ Fr New wr w') := HO.out
        have HS : Hid (slotAt ws b = some none) := hs
        clear hs HO
        have hlb := hw.len'
        go_wp2_with (first
          | (go_at_call 151; refine HO'.out.mono ?_; rintro e w1 ⟨rfl, hf1⟩)
          | (at_builtin; refine wpList_append_own _ rfl (.tmp 37) (.tmp 41) 25 rfl w.heap.size 3 j0 (.int .i64 0) 1 8 Tryz.underlying25 hj hy0 hy1 hy2 rfl (by decide) _ _ _ rfl (((hf1.alloc _).alloc _).owns hw.bad (fun _ _ h => h)) ⟨w1.heap.size + 1, 0, none⟩ 1 1 [.int .i64 (106 + 8 * (b : Int))] rfl rfl (World.news_of_block (new_at _ _ _ (by simp))) (by intro u hu; simp at hu; subst hu; rfl) (by unfold maxLen; omega) (by omega) (by have := hw.fr.size; have := hf1.size; simp; omega) ?_; intro v2 w2 ho2 hg2 _)
          | fail)
        have hW2 := hw.badly hb HS.out ((hf1.alloc _).alloc _) (by rw [show ((106 + 8 * b : Nat) : Int) = 106 + 8 * (b : Int) by omega]; exact ho2) hg2
        clear ho2 hg2
        go_wp2
        go_roundg (n - (b + 1))
        case measure => omega
        case rel => exact ⟨b + 1, os, _, by omega, rfl, by go_num, hW2⟩
      · have hso := slot_obs hs
        rw [hs] at HO
        obtain ⟨ob, osp, op⟩ := o
        obtain ⟨hob, hs1, hs4, hp, hle⟩ := hso
        simp only at hob hs1 hs4 hp hle
        obtain rfl : b = ob := hob.symm
        have hle' : b + osp ≤ n := by rw [← HL.out, HLn.out] at hle; omega
        have HO' : Hid (Calls Tryz.prog 151 #[.slice a L cap, .int .i64 b] wr fun e w' => e = .returned (.tuple #[.agg #[.int .i64 b, .int .i64 osp, .int .i64 op], .int .i64 1]) ∧ Fr New wr w') := HO.out
        have HS : Hid (slotAt ws b = some (some ⟨b, osp, op⟩)) := hs
        clear hs HO hle
        have hlb := hw.len
        go_wp2_with (first
          | (go_at_call 151; refine HO'.out.mono ?_; rintro e w1 ⟨rfl, hf1⟩)
          | (at_builtin; refine wpList_append_own _ rfl (.tmp 27) (.tmp 29) 186 rfl w.heap.size 190 i0 _ 3 24 Tryz.underlying186 hi hz0 hz1 hz2 rfl (by decide) _ _ _ rfl (((hf1.alloc _).alloc _).owns hw.l (fun _ _ h => h)) ⟨w1.heap.size + 1, 0, none⟩ 1 1 (obCells ⟨b, osp, op⟩) rfl rfl (World.news_of_block (new_at _ _ _ (by simp))) (obCells_one _) (by unfold maxLen; omega) (by omega) (by have := hw.fr.size; have := hf1.size; simp; omega) ?_; intro v2 w2 ho2 hg2 _; obtain ⟨hc2, hz2'⟩ := block_cells (x_kept hw.l hf1 hg2))
          | fail)
        have hW2 := hw.ob hb HS.out ((hf1.alloc _).alloc _) ho2 hg2
        go_roundg (n - (b + osp))
        case measure => omega
        case rel => exact ⟨b + osp, _, bs, by omega, rfl, by go_num, hW2⟩
    · have hend := hw.all
      rw [walk_end hb, List.append_nil, List.append_nil] at hend
      have ho : objs ws = os := by unfold objs; rw [← HNN.out, hend]
      have hbd : bads ws = bs := by unfold bads; rw [← HNN.out, hend]
      have h1 := hw.l
      have h2 := hw.bad
      rw [← ho] at h1
      rw [← hbd] at h2
      have h3 := hw.fr
      clear hend ho hbd
      go_wp2
      go_ret2
      exact ⟨_, _, rfl, h1, h2, h3⟩
end Go.Proofs.YtbagcjlimdilpaaGreat
/- Walks of the document's find, place and reached. -/
namespace Go.Proofs.YtbagcjlimdilpaaGreat
open Go.RowKit

theorem obsCells_get (l : List Ob) (i j : Nat) (hi : i < l.length) (hj : j < 3) : (obsCells l)[i * 3 + j]? = (obCells l[i])[j]? := by
  induction l generalizing i with
  | nil => simp at hi
  | cons e r ih =>
    simp only [obsCells, List.flatMap_cons]
    cases i with
    | zero => rw [List.getElem?_append_left (by simp [obCells]; omega)]; simp
    | succ i =>
      rw [List.getElem?_append_right (by simp [obCells]; omega)]
      have := ih i (by simpa using hi)
      rw [show (i + 1) * 3 + j - (obCells e).length = i * 3 + j by simp [obCells]; omega]
      exact this

/-- a list of objects, as it lies -/
def LiesO (w : World) (v : Value) (l : List Ob) : Prop := ∃ a cap, v = .slice a l.length cap ∧ l.length ≤ 1048576 ∧ (∀ o ∈ l, o.block ≤ 1048576 ∧ o.span ≤ 4 ∧ o.ptrs < 32) ∧
  (0 < l.length → ∃ g, a = some ⟨g, 0, none⟩ ∧ g < w.heap.size ∧ ∀ i (hi : i < l.length), w.cell? ⟨g, i * 3, none⟩ = some (.int .i64 (l[i]).block) ∧ w.cell? ⟨g, i * 3 + 1, none⟩ = some (.int .i64 (l[i]).span) ∧ w.cell? ⟨g, i * 3 + 2, none⟩ = some (.int .i64 (l[i]).ptrs))
theorem lies_own {w : World} {B : Nat} {v : Value} {l : List Ob} (h : OwnO B w v l) (hl : l.length ≤ 1048576) (hb : ∀ o ∈ l, o.block ≤ 1048576 ∧ o.span ≤ 4 ∧ o.ptrs < 32) : LiesO w v l := by
  obtain ⟨a, c, rfl⟩ := own_slice h
  refine ⟨a, c, rfl, hl, hb, fun hp => ?_⟩
  obtain ⟨g, c', hv, _, hg⟩ := h.form hp
  cases hv
  have key : ∀ i (hi : i < l.length) j, j < 3 → w.cell? ⟨g, i * 3 + j, none⟩ = (obCells l[i])[j]? := fun i hi j hj => (h.cellAt (i * 3 + j) (by omega)).trans (obsCells_get l i j hi hj)
  exact ⟨g, rfl, hg, fun i hi => ⟨key i hi 0 (by omega), key i hi 1 (by omega), key i hi 2 (by omega)⟩⟩
theorem LiesO.fr {T : Nat → Prop} {w w' : World} {v : Value} {l : List Ob} (h : LiesO w v l) (hf : Fr T w w') (hn : ∀ g, v.ownBlock = some g → ¬ T g) : LiesO w' v l := by
  obtain ⟨a, c, rfl, hl, hb, hc⟩ := h
  refine ⟨a, c, rfl, hl, hb, fun hp => ?_⟩
  obtain ⟨g, rfl, hg, hcc⟩ := hc hp
  refine ⟨g, rfl, Nat.lt_of_lt_of_le hg hf.size, fun i hi => ?_⟩
  obtain ⟨h1, h2, h3⟩ := hcc i hi
  exact ⟨hf.cell h1 (hn g rfl), hf.cell h2 (hn g rfl), hf.cell h3 (hn g rfl)⟩

set_option maxRecDepth 100000 in
theorem find_any (v : Value) (l : List Ob) (h : Int) (w : World) (hv : LiesO w v l) :
    Calls Tryz.prog 130 #[v, .int .u64 h] w fun e w' => e = .returned (.int .i64 (findI l h)) ∧ w' = w := by
  obtain ⟨a, cap, rfl, hl, hb, hc⟩ := hv
  go_enter Tryz.func130, Tryz.ntmps130
  go_wp2
  go_loop [5] (fun t => ∃ k : Nat, k ≤ l.length ∧ t = .int .i64 k ∧ ∀ i (hi : i < l.length), i < k → (((l[i]).block + 1 : Nat) : Int) ≠ h) (fun t => l.length - (intOf t).toNat)
  case atStart => exact ⟨0, Nat.zero_le _, rfl, fun i hi h0 => by omega⟩
  case round =>
    obtain ⟨k, hk, rfl, hno⟩ := hrel
    have HN : Hid (∀ i (hi : i < l.length), i < k → (((l[i]).block + 1 : Nat) : Int) ≠ h) := hno
    clear hno
    by_cases hlt : k < l.length
    · obtain ⟨g, rfl, hg, hcc⟩ := hc (by omega)
      obtain ⟨h1, _, _⟩ := hcc k hlt
      obtain ⟨hb1, _, _⟩ := hb l[k] (List.getElem_mem _)
      obtain ⟨B, hB⟩ : ∃ B, B = (l[k]).block := ⟨_, rfl⟩
      rw [← hB] at h1 hb1
      have HB : Hid (B = (l[k]).block) := hB
      clear hB hcc hc
      have hw1 : IntKind.u64.wrap ((B : Int) + 1) = B + 1 := by rw [IntKind.wrap_u64]; omega
      by_cases he : (B : Int) + 1 = h
      · have HI : Hid (findI l h = k) := findI_some (idx_first hlt (by rw [← HB.out]; omega) (fun i hi => HN.out i (by omega) hi))
        subst he
        go_wp2
        go_ret
        exact ⟨ret_i HI.out.symm, rfl⟩
      · have hde : ((B : Int) + 1 == h) = false := by simpa using he
        have HX : Hid (¬ (B : Int) + 1 = h) := he
        clear he
        go_wp2
        go_round
        case rel => exact ⟨k + 1, by omega, by go_num, fun i hi hik => by
          rcases Nat.lt_or_ge i k with h' | h'
          · exact HN.out i hi h'
          · obtain rfl : i = k := by omega
            rw [← HB.out]
            have := HX.out
            omega⟩
        case measure => simp [intOf]; omega
    · have HI : Hid (findI l h = -1) := findI_none (idx_no (fun i hi => HN.out i hi (by omega)))
      go_wp2
      go_ret
      exact ⟨ret_i HI.out.symm, rfl⟩

theorem place_any (o : Ob) (p : Int) (w : World) (hb : o.block ≤ 1048576) (hp : -1 ≤ p) (hp2 : p ≤ 1048576) :
    Calls Tryz.prog 129 #[.agg #[.int .i64 o.block, .int .i64 o.span, .int .i64 o.ptrs], .int .i64 p] w fun e w' => e = .returned (.int .i64 (106 + 8 * (o.block : Int) + 1 + p)) ∧ Fr New w w' := by
  go_enter Tryz.func129, Tryz.ntmps129
  go_wp2
  go_ret
  exact ⟨rfl, (Fr.refl _ _).alloc _⟩
end Go.Proofs.YtbagcjlimdilpaaGreat
/- Walks of the program's small functions: words through the interface, shapes, places, heads. -/
namespace Go.Proofs.YtbagcjlimdilpaaGreat
open Go.RowKit

/-- words as the program hands them on -/
abbrev rowV (a : Option Addr) (n c : Nat) : Value := .iface 105 (.slice a n c)
theorem meth_len (a : Option Addr) (n c : Nat) (w : World) : (method 356 105 (.slice a n c) "Len").run Tryz.prog w = .ok (196, .slice a n c) w := by kernel_rfl
theorem meth_read (a : Option Addr) (n c : Nat) (w : World) : (method 356 105 (.slice a n c) "Read").run Tryz.prog w = .ok (197, .slice a n c) w := by kernel_rfl
theorem meth_put (a : Option Addr) (n c : Nat) (w : World) : (method 356 105 (.slice a n c) "Put").run Tryz.prog w = .ok (152, .slice a n c) w := by kernel_rfl
theorem ahead_read (a : Option Addr) (n c : Nat) (w : World) : (nilAhead 356 105 (.slice a n c) "Read").run Tryz.prog w = .ok (some false) w := by kernel_rfl
theorem ahead_put (a : Option Addr) (n c : Nat) (w : World) : (nilAhead 356 105 (.slice a n c) "Put").run Tryz.prog w = .ok (some false) w := by kernel_rfl

theorem klen_any (a : Option Addr) (n c : Nat) (w : World) :
    Calls Tryz.prog 196 #[.slice a n c] w fun e w' => e = .returned (.int .i64 n) ∧ w' = w := by
  go_enter Tryz.func196, Tryz.ntmps196
  go_wp2
  go_ret
  exact ⟨rfl, rfl⟩
theorem kread_any (sb so n c i : Nat) (x : Int) (w : World) (hi : i < n) (hc : w.cell? ⟨sb, so + i, none⟩ = some (.int .u64 x)) :
    Calls Tryz.prog 197 #[.slice (some ⟨sb, so, none⟩) n c, .int .i64 i] w fun e w' => e = .returned (.int .u64 x) ∧ w' = w := by
  go_enter Tryz.func197, Tryz.ntmps197
  go_wp2
  go_ret
  exact ⟨rfl, rfl⟩
theorem kput_any (g n c i : Nat) (x y : Int) (w : World) (hi : i < n) (hc : w.cell? ⟨g, i, none⟩ = some (.int .u64 x)) (hz : w.frozen? ⟨g, i, none⟩ = false) :
    Calls Tryz.prog 152 #[.slice (some ⟨g, 0, none⟩) n c, .int .i64 i, .int .u64 y] w fun e w' => e = .returned (.tuple #[]) ∧ w' = w.setCell ⟨g, i, none⟩ (.int .u64 y) := by
  go_enter Tryz.func152, Tryz.ntmps152
  go_wp2
  go_end0
  exact ⟨rfl, rfl⟩

/-- words behind the interface, while nothing but new blocks has come since w: how its methods are found, and what they answer -/
structure RowAt (w : World) (t : Nat) (x : Value) (fL fR : Nat) (y : Value) (ws : List Int) : Prop where
  mlen : ∀ w', Fr New w w' → (method 356 t x "Len").run Tryz.prog w' = .ok (fL, y) w'
  mread : ∀ w', Fr New w w' → (method 356 t x "Read").run Tryz.prog w' = .ok (fR, y) w'
  aread : ∀ w', (nilAhead 356 t x "Read").run Tryz.prog w' = .ok (some false) w'
  clen : ∀ a w', (callFunc fL a).run Tryz.prog w' = .ok (.enter fL a) w'
  cread : ∀ a w', (callFunc fR a).run Tryz.prog w' = .ok (.enter fR a) w'
  len : ∀ w', Fr New w w' → Calls Tryz.prog fL #[y] w' fun e w'' => e = .returned (.int .i64 ws.length) ∧ w'' = w'
  read : ∀ w', Fr New w w' → ∀ i, i < ws.length → Calls Tryz.prog fR #[y, .int .i64 (i : Nat)] w' fun e w'' => e = .returned (.int .u64 (wd ws i)) ∧ w'' = w'
theorem RowAt.grow {w w1 : World} {t : Nat} {x : Value} {fL fR : Nat} {y : Value} {ws : List Int} (h : RowAt w t x fL fR y ws) (hf : Fr New w w1) : RowAt w1 t x fL fR y ws :=
  ⟨fun w' h' => h.mlen w' (hf.same h'), fun w' h' => h.mread w' (hf.same h'), h.aread, h.clen, h.cread, fun w' h' => h.len w' (hf.same h'), fun w' h' => h.read w' (hf.same h')⟩
theorem call_klen (a : Array Value) (w : World) : (callFunc 196 a).run Tryz.prog w = .ok (.enter 196 a) w := by kernel_rfl
theorem call_kread (a : Array Value) (w : World) : (callFunc 197 a).run Tryz.prog w = .ok (.enter 197 a) w := by kernel_rfl
theorem kept_row {sb so L c : Nat} {ws : List Int} {w : World} (hL : ws.length = L) (hcw : ∀ i, i < L → w.cell? ⟨sb, so + i, none⟩ = some (.int .u64 (wd ws i))) :
    RowAt w 105 (.slice (some ⟨sb, so, none⟩) L c) 196 197 (.slice (some ⟨sb, so, none⟩) L c) ws :=
  ⟨fun w' _ => meth_len _ _ _ w', fun w' _ => meth_read _ _ _ w', fun w' => ahead_read _ _ _ w', call_klen, call_kread, fun w' _ => by rw [hL]; exact klen_any _ _ _ w', fun w' hf i hi => kread_any sb so L c i _ w' (by omega) (hf.cell (hcw i (by omega)) id)⟩

theorem place_of (b : Nat) (w : World) (hb : b ≤ 1048576) :
    Calls Tryz.prog 118 #[.int .i64 ((b + 1 : Nat) : Int)] w fun e w' => e = .returned (.int .i64 ((106 + 8 * b : Nat) : Int)) ∧ w' = w := by
  go_enter Tryz.func118, Tryz.ntmps118
  go_wp2
  go_ret
  exact ⟨ret_i (by omega), rfl⟩
theorem lblocks_any (L : Nat) (w : World) (h : 106 ≤ L) (hL : L ≤ 1048576) :
    Calls Tryz.prog 95 #[.int .i64 L] w fun e w' => e = .returned (.int .i64 (((L - 106) / 8 : Nat) : Int)) ∧ w' = w := by
  go_enter Tryz.func95, Tryz.ntmps95
  go_wp2
  go_ret
  exact ⟨ret_i (by first | omega | (rw [Int.tdiv_eq_ediv_of_nonneg (by omega)]; omega)), rfl⟩
end Go.Proofs.YtbagcjlimdilpaaGreat
/- Walks of the program's Shaped, Logged, ParseHeader, HeadOf, wrongHead. -/
namespace Go.Proofs.YtbagcjlimdilpaaGreat
open Go.RowKit

theorem lblocks_low (L : Nat) (w : World) (h : L < 106) :
    Calls Tryz.prog 95 #[.int .i64 L] w fun e w' => ∃ v : Int, v ≤ 0 ∧ e = .returned (.int .i64 v) ∧ w' = w := by
  go_enter Tryz.func95, Tryz.ntmps95
  go_wp2
  go_ret
  refine ⟨_, ?_, rfl, rfl⟩
  rw [show (L : Int) - 106 = -((106 : Int) - L) by omega, Int.neg_tdiv, Int.tdiv_eq_ediv_of_nonneg (by omega)]
  omega
theorem shaped_yes (L : Nat) (w : World) (h : nblk L ≠ 0) :
    Calls Tryz.prog 46 #[.int .i64 L] w fun e w' => e = .returned (.bool true) ∧ w' = w := by
  obtain ⟨h1, h2, h3⟩ := nblk_some h
  obtain ⟨n, hn⟩ : ∃ n, n = nblk L := ⟨_, rfl⟩
  rw [← hn] at h1 h2 h3
  clear h hn
  subst h1
  have HB : Hid (Calls Tryz.prog 95 #[.int .i64 ((106 + 8 * n : Nat) : Int)] w fun e w' => e = .returned (.int .i64 (n : Int)) ∧ w' = w) := by
    have := lblocks_any (106 + 8 * n) w (by omega) (by omega)
    rwa [show (106 + 8 * n - 106) / 8 = n by omega] at this
  have hde : (106 + 8 * (n : Int) == ((106 + 8 * n : Nat) : Int)) = true := by simp
  go_enter Tryz.func46, Tryz.ntmps46
  go_wp2_with (first
    | (go_at_call 95; refine calls_same HB.out ?_)
    | (go_at_call 64; refine calls_same (fits_true n w (by omega) (by omega)) ?_)
    | (go_at_call 65; refine calls_same (length_any n w h3) ?_))
  go_ret
  exact ⟨rfl, rfl⟩
theorem shaped_no (L : Nat) (w : World) (hL : L ≤ 1048576) (h : nblk L = 0) :
    Calls Tryz.prog 46 #[.int .i64 L] w fun e w' => e = .returned (.bool false) ∧ w' = w := by
  by_cases hlo : L < 106
  · go_enter Tryz.func46, Tryz.ntmps46
    go_wp2_with (first
      | (go_at_call 95; refine (lblocks_low L w hlo).mono ?_; rintro e w' ⟨v, hv, rfl, rfl⟩)
      | (go_at_call 64; refine calls_same (fits_false _ _ (by omega)) ?_))
    go_ret
    exact ⟨rfl, rfl⟩
  · obtain ⟨v, hv⟩ : ∃ v, v = (L - 106) / 8 := ⟨_, rfl⟩
    have HB : Hid (Calls Tryz.prog 95 #[.int .i64 (L : Int)] w fun e w' => e = .returned (.int .i64 (v : Int)) ∧ w' = w) := by
      have := lblocks_any L w (by omega) hL
      rwa [← hv] at this
    by_cases hf : 1 ≤ v ∧ v ≤ 32
    · have hne : L ≠ 106 + 8 * v := nblk_none h v hf.1 hf.2
      have hde : (106 + 8 * (v : Int) == (L : Int)) = false := by simp; omega
      clear hv
      go_enter Tryz.func46, Tryz.ntmps46
      go_wp2_with (first
        | (go_at_call 95; refine calls_same HB.out ?_)
        | (go_at_call 64; refine calls_same (fits_true v w (by omega) (by omega)) ?_)
        | (go_at_call 65; refine calls_same (length_any v w hf.2) ?_))
      go_ret
      exact ⟨rfl, rfl⟩
    · clear hv
      go_enter Tryz.func46, Tryz.ntmps46
      go_wp2_with (first
        | (go_at_call 95; refine calls_same HB.out ?_)
        | (go_at_call 64; refine calls_same (fits_false v w (by omega)) ?_))
      go_ret
      exact ⟨rfl, rfl⟩

theorem logged_any (p : Int) (L : Nat) (w : World) (h8 : 8 ≤ L) (hL : L ≤ 1048576) :
    Calls Tryz.prog 137 #[.int .u64 p, .int .i64 L] w fun e w' => e = .returned (.bool (okAt L p)) ∧ w' = w := by
  have hw1 : IntKind.u64.wrap (L : Int) = L := by rw [IntKind.wrap_u64]; omega
  by_cases h1 : p < 8
  · rw [okAt_iff.2 ⟨by omega, .inl h1⟩]
    have hd1 : decide (p < 8) = true := by simpa using h1
    go_enter Tryz.func137, Tryz.ntmps137
    go_wp2
    go_ret
    exact ⟨rfl, rfl⟩
  · have hd1 : decide (p < 8) = false := by simpa using h1
    by_cases h2 : 106 ≤ p
    · have hd2 : decide (106 ≤ p) = true := by simpa using h2
      by_cases h3 : p < L
      · rw [okAt_iff.2 ⟨h3, .inr h2⟩]
        have hd3 : decide (p < (L : Int)) = true := by simpa using h3
        go_enter Tryz.func137, Tryz.ntmps137
        go_wp2
        go_ret
        exact ⟨rfl, rfl⟩
      · have he : okAt L p = false := by
          rcases hk : okAt L p with _ | _
          · rfl
          · exact absurd (okAt_iff.1 hk).1 h3
        rw [he]
        have hd3 : decide (p < (L : Int)) = false := by simpa using h3
        go_enter Tryz.func137, Tryz.ntmps137
        go_wp2
        go_ret
        exact ⟨rfl, rfl⟩
    · have hd2 : decide (106 ≤ p) = false := by simpa using h2
      have he : okAt L p = false := by
        rcases hk : okAt L p with _ | _
        · rfl
        · have := (okAt_iff.1 hk).2; omega
      rw [he]
      go_enter Tryz.func137, Tryz.ntmps137
      go_wp2
      go_ret
      exact ⟨rfl, rfl⟩

theorem words_any' (s : Nat) (w : World) (hs : s ≤ 1048576) : Calls Tryz.prog 108 #[.int .i64 s] w fun e w' => e = .returned (.int .i64 (8 * (s : Int) - 1)) ∧ w' = w := by
  go_enter Tryz.func108, Tryz.ntmps108
  go_wp2
  go_ret
  exact ⟨rfl, rfl⟩

/-- may there be an object with that span and so many pointers? -/
def properB (s p : Int) : Bool := decide (1 ≤ s) && decide (s ≤ 4) && decide (0 ≤ p) && decide (p ≤ 8 * s - 1)
theorem properB_iff {s p : Int} : properB s p = true ↔ 1 ≤ s ∧ s ≤ 4 ∧ 0 ≤ p ∧ p < 8 * s := by
  unfold properB
  simp only [Bool.and_eq_true, decide_eq_true_eq]
  omega
theorem wordsZ_any (s : Int) (w : World) (hs : -1048576 ≤ s ∧ s ≤ 1048576) : Calls Tryz.prog 108 #[.int .i64 s] w fun e w' => e = .returned (.int .i64 (8 * s - 1)) ∧ w' = w := by
  go_enter Tryz.func108, Tryz.ntmps108
  go_wp2
  go_ret
  exact ⟨rfl, rfl⟩
theorem proper_any (s p : Int) (w : World) : Calls Tryz.prog 67 #[.int .i64 s, .int .i64 p] w fun e w' => e = .returned (.bool (properB s p)) ∧ w' = w := by
  by_cases h1 : 1 ≤ s
  · have hd1 : decide (1 ≤ s) = true := by simpa using h1
    by_cases h2 : s ≤ 4
    · have hd2 : decide (s ≤ 4) = true := by simpa using h2
      by_cases h3 : 0 ≤ p
      · have hd3 : decide (0 ≤ p) = true := by simpa using h3
        have HP : Hid (properB s p = decide (p ≤ 8 * s - 1)) := by unfold properB; rw [hd1, hd2, hd3]; rfl
        go_enter Tryz.func67, Tryz.ntmps67
        go_wp2_with (go_at_call 108; refine calls_same (wordsZ_any s w (by omega)) ?_)
        go_ret
        exact ⟨by rw [HP.out]; rfl, rfl⟩
      · have hd3 : decide (0 ≤ p) = false := by simpa using h3
        have HP : Hid (properB s p = false) := by unfold properB; rw [hd1, hd2, hd3]; rfl
        go_enter Tryz.func67, Tryz.ntmps67
        go_wp2
        go_ret
        exact ⟨by rw [HP.out]; rfl, rfl⟩
    · have hd2 : decide (s ≤ 4) = false := by simpa using h2
      have HP : Hid (properB s p = false) := by unfold properB; rw [hd1, hd2]; rfl
      go_enter Tryz.func67, Tryz.ntmps67
      go_wp2
      go_ret
      exact ⟨by rw [HP.out]; rfl, rfl⟩
  · have hd1 : decide (1 ≤ s) = false := by simpa using h1
    have HP : Hid (properB s p = false) := by unfold properB; rw [hd1]; rfl
    go_enter Tryz.func67, Tryz.ntmps67
    go_wp2
    go_ret
    exact ⟨by rw [HP.out]; rfl, rfl⟩

/-- a header by itself -/
def hdr1 (h : Int) : Prop := 1000100 ≤ h ∧ h < 1000500 ∧ ptrsOf h < 8 * spanOf h
theorem parse_yes (h : Int) (w : World) (hh : hdr1 h) :
    Calls Tryz.prog 157 #[.int .u64 h] w fun e w' => e = .returned (.tuple #[.int .i64 (spanOf h), .int .i64 (ptrsOf h), .bool true]) ∧ w' = w := by
  obtain ⟨h1, h2, h3⟩ := hh
  obtain ⟨r, hr⟩ : ∃ r, r = h - 1000000 := ⟨_, rfl⟩
  obtain rfl : h = r + 1000000 := by omega
  obtain ⟨s, hs⟩ : ∃ s, s = spanOf (r + 1000000) := ⟨_, rfl⟩
  obtain ⟨p, hp⟩ : ∃ p, p = ptrsOf (r + 1000000) := ⟨_, rfl⟩
  rw [← hs, ← hp] at h3
  have hs' : r / 100 = s := by rw [hs]; unfold spanOf; omega
  have hp' : r % 100 = p := by rw [hp]; unfold ptrsOf; omega
  have hw1 : IntKind.u64.wrap (r + 1000000 - 1000000) = r := by rw [IntKind.wrap_u64]; omega
  have hw2 : IntKind.i64.wrap r = r := by rw [IntKind.wrap_i64]; omega
  rw [← hs, ← hp]
  have HPR : Hid (Calls Tryz.prog 67 #[.int .i64 (s : Int), .int .i64 (p : Int)] w fun e w' => e = .returned (.bool true) ∧ w' = w) := by
    have := proper_any (s : Int) (p : Int) w
    rwa [properB_iff.2 ⟨by omega, by omega, by omega, by omega⟩] at this
  clear hs hp hr
  go_enter Tryz.func157, Tryz.ntmps157
  go_wp2_with (go_at_call 67; refine calls_same HPR.out ?_)
  exact bodyPost_ret (v := .tuple #[.int .i64 s, .int .i64 p, .bool true]) (by simp [results, Tryz.results157, go_sem]) rfl ⟨rfl, rfl⟩
theorem parse_no (h : Int) (w : World) (hh : ¬ hdr1 h) :
    Calls Tryz.prog 157 #[.int .u64 h] w fun e w' => e = .returned (.tuple #[.int .i64 0, .int .i64 0, .bool false]) ∧ w' = w := by
  by_cases h1 : h < 1000000
  · have hd1 : decide (h < 1000000) = true := by simpa using h1
    go_enter Tryz.func157, Tryz.ntmps157
    go_wp2
    exact bodyPost_ret (v := .tuple #[.int .i64 0, .int .i64 0, .bool false]) (by simp [results, Tryz.results157, go_sem]) rfl ⟨rfl, rfl⟩
  · have hd1 : decide (h < 1000000) = false := by simpa using h1
    by_cases h2 : 1000500 ≤ h
    · have hd2 : decide (1000500 ≤ h) = true := by simpa using h2
      go_enter Tryz.func157, Tryz.ntmps157
      go_wp2
      exact bodyPost_ret (v := .tuple #[.int .i64 0, .int .i64 0, .bool false]) (by simp [results, Tryz.results157, go_sem]) rfl ⟨rfl, rfl⟩
    · have hd2 : decide (1000500 ≤ h) = false := by simpa using h2
      obtain ⟨r, hr⟩ : ∃ r, r = h - 1000000 := ⟨_, rfl⟩
      obtain rfl : h = r + 1000000 := by omega
      obtain ⟨s, hs⟩ : ∃ s, s = spanOf (r + 1000000) := ⟨_, rfl⟩
      obtain ⟨p, hp⟩ : ∃ p, p = ptrsOf (r + 1000000) := ⟨_, rfl⟩
      have hs' : r / 100 = s := by rw [hs]; unfold spanOf; omega
      have hp' : r % 100 = p := by rw [hp]; unfold ptrsOf; omega
      have hw1 : IntKind.u64.wrap (r + 1000000 - 1000000) = r := by rw [IntKind.wrap_u64]; omega
      have hw2 : IntKind.i64.wrap r = r := by rw [IntKind.wrap_i64]; omega
      have hx : s < 1 ∨ (1 ≤ s ∧ 8 * s ≤ p) := by
        by_cases hs1 : s < 1
        · exact .inl hs1
        · right
          refine ⟨by omega, ?_⟩
          rcases Nat.lt_or_ge p (8 * s) with hlt | hge
          · exact absurd ⟨by omega, by omega, by rw [← hs, ← hp]; exact hlt⟩ hh
          · exact hge
      have HPR : Hid (Calls Tryz.prog 67 #[.int .i64 (s : Int), .int .i64 (p : Int)] w fun e w' => e = .returned (.bool false) ∧ w' = w) := by
        have := proper_any (s : Int) (p : Int) w
        rwa [show properB s p = false from by
          rcases hq : properB (s : Int) (p : Int) with _ | _
          · rfl
          · have := properB_iff.1 hq; omega] at this
      clear hs hp hr hh hx
      go_enter Tryz.func157, Tryz.ntmps157
      go_wp2_with (go_at_call 67; refine calls_same HPR.out ?_)
      exact bodyPost_ret (v := .tuple #[.int .i64 0, .int .i64 0, .bool false]) (by simp [results, Tryz.results157, go_sem]) rfl ⟨rfl, rfl⟩

/-- the words of a head -/
def headArr (hs : List Int) : Obj := .cells ((hs.map (Value.int .u64)).toArray) 126 (0, 0)
theorem head_eight {ws hs : List Int} (h8 : hs.length = 8) (h : ∀ j, j < 8 → hs[j]? = some (wd ws j)) : hs = [wd ws 0, wd ws 1, wd ws 2, wd ws 3, wd ws 4, wd ws 5, wd ws 6, wd ws 7] := by
  apply List.ext_getElem?
  intro i
  by_cases hi : i < 8
  · rw [h i hi]
    match i, hi with
    | 0, _ => rfl
    | 1, _ => rfl
    | 2, _ => rfl
    | 3, _ => rfl
    | 4, _ => rfl
    | 5, _ => rfl
    | 6, _ => rfl
    | 7, _ => rfl
  · rw [List.getElem?_eq_none (by omega), List.getElem?_eq_none (by simp; omega)]
/-- a head as a value -/
abbrev headA (ws : List Int) : Value := .agg #[.int .u64 (wd ws 0), .int .u64 (wd ws 1), .int .u64 (wd ws 2), .int .u64 (wd ws 3), .int .u64 (wd ws 4), .int .u64 (wd ws 5), .int .u64 (wd ws 6), .int .u64 (wd ws 7)]
/-- what the loop keeps -/
structure Heading (w : World) (ws : List Int) (k : Nat) (wr : World) : Prop where
  fr : Fr New w wr
  blk : ∃ hs : List Int, wr.heap[w.heap.size + 1]? = some (headArr hs) ∧ hs.length = 8 ∧ ∀ j, j < k → hs[j]? = some (wd ws j)
  res : wr.heap[w.heap.size]? = some (headArr [0, 0, 0, 0, 0, 0, 0, 0])
set_option maxRecDepth 100000 in
theorem headOf_row (t : Nat) (x : Value) (fL fR : Nat) (y : Value) (ws : List Int) (w : World) (h8 : 8 ≤ ws.length) (hrow : RowAt w t x fL fR y ws) :
    Calls Tryz.prog 111 #[.iface t x] w fun e w' => e = .returned (headA ws) ∧ Fr New w w' := by
  have HW : Hid (∀ wr, Fr New w wr → ∀ i, i < ws.length → Calls Tryz.prog fR #[y, .int .i64 (i : Nat)] wr fun e w'' => e = .returned (.int .u64 (wd ws i)) ∧ w'' = wr) := hrow.read
  have HM : Hid (∀ w', Fr New w w' → (method 356 t x "Read").run Tryz.prog w' = .ok (fR, y) w') := hrow.mread
  have hcf := hrow.cread
  clear hrow
  go_enter Tryz.func111, Tryz.ntmps111
  go_wp2
  go_loopw [5] (fun t wr => ∃ k : Nat, k ≤ 8 ∧ t = .int .i64 k ∧ Heading w ws k wr) (fun t _ => 8 - (intOf t).toNat)
  case atStart => exact ⟨0, by omega, rfl, ⟨((Fr.refl _ _).alloc _).alloc _, ⟨[0, 0, 0, 0, 0, 0, 0, 0], new_at2 w _ _, rfl, fun j hj => by omega⟩, (Go.Deep.blk_alloc_lt _ _ _ (by simp)).trans (Go.Deep.blk_alloc_new w _)⟩⟩
  case round =>
    obtain ⟨k, hk, rfl, hH⟩ := hrel
    by_cases hlt : k < 8
    · have HC : Hid (Calls Tryz.prog fR #[y, .int .i64 (k : Nat)] wr fun e w'' => e = .returned (.int .u64 (wd ws k)) ∧ w'' = wr) := HW.out wr hH.fr k (by omega)
      have hm := HM.out wr hH.fr
      obtain ⟨hs, hb, hl, hj⟩ := hH.blk
      have hcb : wr.cell? ⟨w.heap.size + 1, k, none⟩ = some (.int .u64 (hs.getD k 0)) := by
        rw [(block_cells hb).1]
        simp [List.getD, show k < hs.length by omega]
      have hzb := (block_cells hb).2 k
      have HN : Hid (Heading w ws (k + 1) (wr.setCell ⟨w.heap.size + 1, k, none⟩ (.int .u64 (wd ws k)))) := by
        refine ⟨hH.fr.setCell (fun h => absurd h (by simp)) _, ⟨hs.set k (wd ws k), ?_, by simpa using hl, fun j hjk => ?_⟩, ?_⟩
        · rw [heap_setCell_same wr _ k _ _ _ hb]
          simp [headArr, List.map_set]
        · by_cases he : j = k
          · subst he; rw [List.getElem?_set_self (by omega)]
          · rw [List.getElem?_set_ne (by omega)]; exact hj j (by omega)
        · rw [Go.Deep.blk_setCell_other _ _ _ _ (by simp)]; exact hH.res
      obtain ⟨z, hx⟩ : ∃ z, z = wd ws k := ⟨_, rfl⟩
      rw [← hx] at HC HN
      clear hb hj hx hH
      go_wp2_with (refine calls_same HC.out ?_)
      go_roundw
      case rel => exact ⟨k + 1, by omega, by go_num, HN.out⟩
      case measure => simp [intOf]; omega
    · obtain rfl : k = 8 := by omega
      obtain ⟨hs, hb, hl, hj⟩ := hH.blk
      obtain rfl := head_eight hl hj
      obtain ⟨hcc, hzz⟩ := block_cells hb
      obtain ⟨hcr, hzr⟩ := block_cells hH.res
      have hf := hH.fr
      clear hb hj hH hl
      go_wp2
      refine bodyPost_ret (v := headA ws) (by simp [results, Tryz.results111, go_sem, hcr]) rfl ⟨rfl, ?_⟩
      iterate 8 refine Fr.setCell ?_ (fun h => absurd h (by simp)) _
      exact hf
theorem headOf_any (sb so L c : Nat) (ws : List Int) (w : World) (hL : ws.length = L) (h8 : 8 ≤ L) (hcw : ∀ i, i < L → w.cell? ⟨sb, so + i, none⟩ = some (.int .u64 (wd ws i))) :
    Calls Tryz.prog 111 #[rowV (some ⟨sb, so, none⟩) L c] w fun e w' => e = .returned (headA ws) ∧ Fr New w w' := headOf_row _ _ _ _ _ ws w (by omega) (kept_row hL hcw)
end Go.Proofs.YtbagcjlimdilpaaGreat
/- Walks of the program's search for an object: Compare, BinarySearchFunc, Held, Dangling. -/
namespace Go.Proofs.YtbagcjlimdilpaaGreat
open Go.RowKit

/-- a list of objects, as the program keeps it -/
def LiesT (w : World) (v : Value) (l : List Ob) : Prop := ∃ a cap, v = .slice a l.length cap ∧ l.length ≤ 1048576 ∧ (∀ o ∈ l, o.block ≤ 1048576 ∧ o.span ≤ 4 ∧ o.ptrs < 32) ∧
  (0 < l.length → ∃ g, a = some ⟨g, 0, none⟩ ∧ g < w.heap.size ∧ ∀ i (hi : i < l.length), w.cell? ⟨g, i * 4, none⟩ = some (.int .i64 1) ∧ w.cell? ⟨g, i * 4 + 1, none⟩ = some (.int .i64 (((l[i]).block + 1 : Nat) : Int)) ∧ w.cell? ⟨g, i * 4 + 2, none⟩ = some (.int .i64 (l[i]).span) ∧ w.cell? ⟨g, i * 4 + 3, none⟩ = some (.int .i64 (l[i]).ptrs))
theorem LiesT.fr {T : Nat → Prop} {w w' : World} {v : Value} {l : List Ob} (h : LiesT w v l) (hf : Fr T w w') (hn : ∀ g, v.ownBlock = some g → ¬ T g) : LiesT w' v l := by
  obtain ⟨a, c, rfl, hl, hb, hc⟩ := h
  refine ⟨a, c, rfl, hl, hb, fun hp => ?_⟩
  obtain ⟨g, rfl, hg, hcc⟩ := hc hp
  refine ⟨g, rfl, Nat.lt_of_lt_of_le hg hf.size, fun i hi => ?_⟩
  obtain ⟨h1, h2, h3, h4⟩ := hcc i hi
  exact ⟨hf.cell h1 (hn g rfl), hf.cell h2 (hn g rfl), hf.cell h3 (hn g rfl), hf.cell h4 (hn g rfl)⟩

/-- in the order of their handles -/
def Asc (l : List Ob) : Prop := ∀ i j (hi : i < l.length) (hj : j < l.length), i < j → (l[i]).block < (l[j]).block
theorem walkF_ge {ws : List Int} {n f b : Nat} : ∀ o ∈ (walkF ws n f b).1, b ≤ o.block := by
  induction f generalizing b with
  | zero => intro o ho; simp [walkF] at ho
  | succ f ih =>
    intro o ho
    rw [walkF] at ho
    split at ho
    · split at ho
      · rename_i o' hs
        obtain ⟨e1, e2, _⟩ := slot_obs hs
        rcases List.mem_cons.1 ho with rfl | ho
        · omega
        · have := ih o ho; omega
      · have := ih o ho; omega
      · have := ih o ho; omega
    · simp at ho
theorem asc_cons {o : Ob} {l : List Ob} (h : ∀ x ∈ l, o.block < x.block) (hl : Asc l) : Asc (o :: l) := by
  intro i j hi hj hij
  cases j with
  | zero => omega
  | succ j =>
    cases i with
    | zero => simpa using h _ (List.getElem_mem (by simpa using hj))
    | succ i => simpa using hl i j (by simpa using hi) (by simpa using hj) (by omega)
theorem walkF_asc {ws : List Int} {n f b : Nat} : Asc (walkF ws n f b).1 := by
  induction f generalizing b with
  | zero => intro i j hi; simp [walkF] at hi
  | succ f ih =>
    rw [walkF]
    split
    · split
      · rename_i o hs
        obtain ⟨e1, e2, _⟩ := slot_obs hs
        refine asc_cons (fun x hx => ?_) ih
        have := walkF_ge x hx
        omega
      · exact ih
      · exact ih
    · intro i j hi; simp at hi
theorem objs_asc (ws : List Int) : Asc (objs ws) := walkF_asc

/-- what Compare says -/
def cmpI (x y : Int) : Int := if x < y then -1 else if y < x then 1 else 0
theorem nan_any (x : Int) (w : World) : Calls Tryz.prog 146 #[.int .u64 x] w fun e w' => e = .returned (.bool false) ∧ w' = w := by
  go_enter Tryz.func146, Tryz.ntmps146
  go_wp2
  go_ret
  exact ⟨by simp, rfl⟩
theorem compare_any (x y : Int) (w : World) : Calls Tryz.prog 107 #[.int .u64 x, .int .u64 y] w fun e w' => e = .returned (.int .i64 (cmpI x y)) ∧ w' = w := by
  by_cases h1 : x < y
  · have e : cmpI x y = -1 := by unfold cmpI; rw [if_pos h1]
    rw [e]
    clear e
    go_enter Tryz.func107, Tryz.ntmps107
    go_wp2_with (go_at_call 146; refine calls_same (nan_any _ _) ?_)
    go_ret
    exact ⟨rfl, rfl⟩
  · by_cases h2 : y < x
    · have e : cmpI x y = 1 := by unfold cmpI; rw [if_neg h1, if_pos h2]
      rw [e]
      clear e
      go_enter Tryz.func107, Tryz.ntmps107
      go_wp2_with (go_at_call 146; refine calls_same (nan_any _ _) ?_)
      go_ret
      exact ⟨rfl, rfl⟩
    · have e : cmpI x y = 0 := by unfold cmpI; rw [if_neg h1, if_neg h2]
      rw [e]
      clear e
      go_enter Tryz.func107, Tryz.ntmps107
      go_wp2_with (go_at_call 146; refine calls_same (nan_any _ _) ?_)
      go_ret
      exact ⟨rfl, rfl⟩
theorem held1_any (k s p : Int) (B : Nat) (h : Int) (w : World) (hB : B ≤ 1048577) :
    Calls Tryz.prog 106 #[.agg #[.int .i64 k, .int .i64 B, .int .i64 s, .int .i64 p], .int .u64 h] w fun e w' => e = .returned (.int .i64 (cmpI B h)) ∧ Fr New w w' := by
  have hw1 : IntKind.u64.wrap (B : Int) = B := by rw [IntKind.wrap_u64]; omega
  go_enter Tryz.func106, Tryz.ntmps106
  go_wp2_with (go_at_call 107; refine calls_same (compare_any _ _ _) ?_)
  go_ret
  exact ⟨rfl, (Fr.refl _ _).alloc _⟩
theorem cmpI_neg {x y : Int} : cmpI x y < 0 ↔ x < y := by
  unfold cmpI; split
  · simp; assumption
  · split <;> (simp; omega)
theorem cmpI_zero {x y : Int} : cmpI x y = 0 ↔ x = y := by
  unfold cmpI; split
  · simp; omega
  · split
    · simp; omega
    · simp; omega

/-- the handle of the i-th -/
def hnd (l : List Ob) (i : Nat) : Nat := (l.getD i ⟨0, 0, 0⟩).block + 1
theorem hnd_eq {l : List Ob} {i : Nat} (hi : i < l.length) : hnd l i = (l[i]).block + 1 := by unfold hnd; simp [List.getD, hi]
theorem idx_at {l : List Ob} {h : Int} {k : Nat} (ha : Asc l) (hk : k < l.length) (he : (hnd l k : Int) = h) : idx l h = some k := by
  rw [hnd_eq hk] at he
  refine idx_first hk he (fun i hi => ?_)
  have := ha i k (by omega) hk hi
  omega
theorem idx_not {l : List Ob} {h : Int} (hn : ∀ i, i < l.length → (hnd l i : Int) ≠ h) : idx l h = none := by
  refine idx_no (fun i hi => ?_)
  have := hn i hi
  rwa [hnd_eq hi] at this

/-- what the search tells -/
def SearchIs (l : List Ob) (h : Int) (v : Value) : Prop := (∃ k : Nat, idx l h = some k ∧ v = .tuple #[.int .i64 k, .bool true]) ∨ (idx l h = none ∧ ∃ k : Nat, v = .tuple #[.int .i64 k, .bool false])

set_option maxHeartbeats 2000000 in
set_option maxRecDepth 100000 in
theorem bsearch_any (v : Value) (l : List Ob) (h : Int) (w : World) (hv : LiesT w v l) (ha : Asc l) :
    Calls Tryz.prog 105 #[v, .int .u64 h, .func (.func 106) #[] #[]] w fun e w' => ∃ r, e = .returned r ∧ SearchIs l h r ∧ Fr New w w' := by
  obtain ⟨a, cap, rfl, hl, hb, hc⟩ := hv
  have HA : Hid (Asc l) := ha
  have HC : Hid (0 < l.length → ∃ g, a = some ⟨g, 0, none⟩ ∧ ∀ wr, Fr New w wr → ∀ i (hi : i < l.length), ∃ s p : Int, wr.cell? ⟨g, i * 4, none⟩ = some (.int .i64 1) ∧ wr.cell? ⟨g, i * 4 + 1, none⟩ = some (.int .i64 (hnd l i)) ∧ wr.cell? ⟨g, i * 4 + 2, none⟩ = some (.int .i64 s) ∧ wr.cell? ⟨g, i * 4 + 3, none⟩ = some (.int .i64 p)) := by
    intro hp
    obtain ⟨g, e, _, hcc⟩ := hc hp
    refine ⟨g, e, fun wr hf i hi => ⟨_, _, hf.cell (hcc i hi).1 id, ?_, hf.cell (hcc i hi).2.2.1 id, hf.cell (hcc i hi).2.2.2 id⟩⟩
    rw [hnd_eq hi]
    exact hf.cell (hcc i hi).2.1 id
  have HH : Hid (∀ i, i < l.length → hnd l i ≤ 1048577) := fun i hi => by
    rw [hnd_eq hi]
    have := (hb l[i] (List.getElem_mem _)).1
    omega
  have HM : Hid (∀ i j, i < j → j < l.length → hnd l i < hnd l j) := fun i j hij hj => by
    rw [hnd_eq (show i < l.length by omega), hnd_eq hj]
    have := ha i j (by omega) hj hij
    omega
  clear hc hb ha
  go_enter Tryz.func105, Tryz.ntmps105
  go_wp2
  go_loopg [9, 10] l.length (fun gh s9 s10 wr => ∃ lo hi : Nat, s9 = .int .i64 lo ∧ s10 = .int .i64 hi ∧ lo ≤ hi ∧ hi ≤ l.length ∧ gh = hi - lo ∧ Fr New w wr ∧ Hid ((∀ i, i < lo → (hnd l i : Int) < h) ∧ (∀ i, hi ≤ i → i < l.length → h ≤ (hnd l i : Int))))
  case atStart => exact ⟨0, l.length, rfl, rfl, Nat.zero_le _, Nat.le_refl _, by omega, Fr.refl _ _, (⟨fun i hi => by omega, fun i h1 h2 => by omega⟩ : (∀ i, i < 0 → (hnd l i : Int) < h) ∧ (∀ i, l.length ≤ i → i < l.length → h ≤ (hnd l i : Int)))⟩
  case round =>
    obtain ⟨lo, hi, rfl, rfl, hlh, hin, rfl, hf, HI⟩ := hrel
    by_cases hlt : lo < hi
    · obtain ⟨g, rfl, hcells⟩ := HC.out (by omega)
      obtain ⟨m, hm⟩ : ∃ m : Nat, m = (lo + hi) / 2 := ⟨_, rfl⟩
      have hm1 : m < l.length := by omega
      have hmI : ((lo : Int) + hi) / 2 = m := by omega
      have hlm : lo ≤ m := by omega
      have hmh : m < hi := by omega
      have HMM : Hid (m = (lo + hi) / 2) := hm
      clear hm
      obtain ⟨s, p, c0, c1, c2, c3⟩ := hcells wr hf m hm1
      have hB := HH.out m hm1
      obtain ⟨B, hBB⟩ : ∃ B, B = hnd l m := ⟨_, rfl⟩
      rw [← hBB] at c1 hB
      have HBB : Hid (B = hnd l m) := hBB
      clear hBB hcells
      have HK : Hid (Calls Tryz.prog 106 #[.agg #[.int .i64 1, .int .i64 B, .int .i64 s, .int .i64 p], .int .u64 h] wr fun e w' => e = .returned (.int .i64 (cmpI B h)) ∧ Fr New wr w') := held1_any 1 s p B h wr hB
      by_cases hBh : (B : Int) < h
      · have hcn := cmpI_neg.2 hBh
        obtain ⟨q, hq⟩ : ∃ q, q = cmpI B h := ⟨_, rfl⟩
        rw [← hq] at HK hcn
        clear hq
        go_wp2_with (go_at_call 106; refine HK.out.mono ?_; rintro e w' ⟨rfl, hf'⟩)
        go_roundg (hi - (m + 1))
        case measure => omega
        case rel =>
          exact ⟨m + 1, hi, by go_num, rfl, by omega, hin, rfl, hf.same hf', (⟨fun i hi' => by
            rcases Nat.lt_or_ge i m with h' | h'
            · have := HM.out i m h' hm1; rw [← HBB.out] at this; omega
            · obtain rfl : i = m := by omega
              rw [← HBB.out]; exact hBh, HI.out.2⟩ : (∀ i, i < m + 1 → (hnd l i : Int) < h) ∧ (∀ i, hi ≤ i → i < l.length → h ≤ (hnd l i : Int)))⟩
      · have hcn : ¬ cmpI B h < 0 := fun hh => hBh (cmpI_neg.1 hh)
        obtain ⟨q, hq⟩ : ∃ q, q = cmpI B h := ⟨_, rfl⟩
        rw [← hq] at HK hcn
        clear hq
        go_wp2_with (go_at_call 106; refine HK.out.mono ?_; rintro e w' ⟨rfl, hf'⟩)
        go_roundg (m - lo)
        case measure => omega
        case rel =>
          exact ⟨lo, m, rfl, rfl, by omega, by omega, rfl, hf.same hf', (⟨HI.out.1, fun i h1 h2 => by
            rcases Nat.lt_or_ge m i with h' | h'
            · have := HM.out m i h' h2; rw [← HBB.out] at this; omega
            · obtain rfl : i = m := by omega
              rw [← HBB.out]; omega⟩ : (∀ i, i < lo → (hnd l i : Int) < h) ∧ (∀ i, m ≤ i → i < l.length → h ≤ (hnd l i : Int)))⟩
    · obtain rfl : lo = hi := by omega
      by_cases hlast : lo < l.length
      · have hd : decide ((lo : Int) < (l.length : Int)) = true := by simp; omega
        obtain ⟨g, rfl, hcells⟩ := HC.out (by omega)
        obtain ⟨s, p, c0, c1, c2, c3⟩ := hcells wr hf lo hlast
        have hB := HH.out lo hlast
        obtain ⟨B, hBB⟩ : ∃ B, B = hnd l lo := ⟨_, rfl⟩
        rw [← hBB] at c1 hB
        have HBB : Hid (B = hnd l lo) := hBB
        clear hBB hcells
        have HK : Hid (Calls Tryz.prog 106 #[.agg #[.int .i64 1, .int .i64 B, .int .i64 s, .int .i64 p], .int .u64 h] wr fun e w' => e = .returned (.int .i64 (cmpI B h)) ∧ Fr New wr w') := held1_any 1 s p B h wr hB
        by_cases hBh : (B : Int) = h
        · have HT : Hid (SearchIs l h (.tuple #[.int .i64 lo, .bool true])) := .inl ⟨lo, idx_at HA.out hlast (by rw [← HBB.out]; exact hBh), rfl⟩
          have hcn := cmpI_zero.2 hBh
          rw [hcn] at HK
          clear hcn hBh
          go_wp2_with (go_at_call 106; refine HK.out.mono ?_; rintro e w' ⟨rfl, hf'⟩)
          go_ret2
          exact ⟨_, rfl, HT.out, hf.same hf'⟩
        · have HT : Hid (SearchIs l h (.tuple #[.int .i64 lo, .bool false])) := .inr ⟨idx_not (fun i hi he => by
            rcases Nat.lt_or_ge i lo with h' | h'
            · have := HI.out.1 i h'; omega
            · rcases Nat.lt_or_ge lo i with h'' | h''
              · have h1 := HM.out lo i h'' hi
                have h2 := HI.out.2 lo (Nat.le_refl _) hlast
                omega
              · obtain rfl : i = lo := by omega
                rw [← HBB.out] at he; exact hBh he), lo, rfl⟩
          have hcn : (cmpI B h == 0) = false := by simpa using fun hh => hBh (cmpI_zero.1 hh)
          obtain ⟨q, hq⟩ : ∃ q, q = cmpI B h := ⟨_, rfl⟩
          rw [← hq] at HK hcn
          clear hq hBh
          go_wp2_with (go_at_call 106; refine HK.out.mono ?_; rintro e w' ⟨rfl, hf'⟩)
          go_ret2
          exact ⟨_, rfl, HT.out, hf.same hf'⟩
      · have hd : decide ((lo : Int) < (l.length : Int)) = false := by simp; omega
        have HT : Hid (SearchIs l h (.tuple #[.int .i64 lo, .bool false])) := .inr ⟨idx_not (fun i hi he => by
            have := HI.out.1 i (by omega); omega), lo, rfl⟩
        go_wp2
        go_ret2
        exact ⟨_, rfl, HT.out, hf⟩

/-- what Held tells -/
def HeldIs (l : List Ob) (h : Int) (v : Value) : Prop := (∃ k, ∃ hk : k < l.length, idx l h = some k ∧ v = .tuple #[.agg #[.int .i64 1, .int .i64 (((l[k]).block + 1 : Nat) : Int), .int .i64 (l[k]).span, .int .i64 (l[k]).ptrs], .bool true]) ∨
  (idx l h = none ∧ v = .tuple #[.agg #[.int .i64 0, .int .i64 0, .int .i64 0, .int .i64 0], .bool false])
set_option maxRecDepth 100000 in
theorem held_any (v : Value) (l : List Ob) (h : Int) (w : World) (hv : LiesT w v l) (ha : Asc l) :
    Calls Tryz.prog 56 #[v, .int .u64 h] w fun e w' => ∃ r, e = .returned r ∧ HeldIs l h r ∧ Fr New w w' := by
  have HS : Hid (∀ o, Calls Tryz.prog 105 #[v, .int .u64 h, .func (.func 106) #[] #[]] (w.alloc o) fun e w' => ∃ r, e = .returned r ∧ SearchIs l h r ∧ Fr New (w.alloc o) w') := fun o => bsearch_any v l h _ (hv.fr ((Fr.refl New w).alloc o) (fun _ _ h => h)) ha
  have HV : Hid (∀ wr, Fr New w wr → LiesT wr v l) := fun wr hf => hv.fr hf (fun _ _ h => h)
  obtain ⟨a, cap, rfl, hl, hb, hc⟩ := hv
  clear hc hb ha
  have hmf : ∀ (fn : Fn) (first cap : Array Value) (w : World), (Instr.makeFunc fn first cap).run Tryz.prog w = .ok (.func fn first cap) w := fun _ _ _ _ => rfl
  rcases hx : idx l h with _ | k
  · go_enter Tryz.func56, Tryz.ntmps56
    go_wp2_with (go_at_call 105; refine (HS.out _).mono ?_; rintro e w1 ⟨r, rfl, hs, hf1⟩; obtain ⟨hcr, hzr⟩ := block_cells (hf1.heap (k := w.heap.size) (Go.Deep.blk_alloc_new w _) id); obtain ⟨k, rfl⟩ : ∃ k : Nat, r = .tuple #[.int .i64 k, .bool false] := (by rcases hs with ⟨k, hk, _⟩ | ⟨_, hk⟩; (rw [hx] at hk; cases hk); exact hk))
    refine bodyPost_ret (v := .tuple #[.agg #[.int .i64 0, .int .i64 0, .int .i64 0, .int .i64 0], .bool false]) (by simp [results, Tryz.results56, go_sem, hcr]) rfl ⟨_, rfl, .inr ⟨hx, rfl⟩, ?_⟩
    have hf : Fr New w w1 := ((Fr.refl _ _).alloc _).same hf1
    iterate 4 refine Fr.setCell ?_ (fun h => absurd h (by simp)) _
    exact hf
  · have hk := idx_lt hx
    go_enter Tryz.func56, Tryz.ntmps56
    go_wp2_with (go_at_call 105; refine (HS.out _).mono ?_; rintro e w1 ⟨r, rfl, hs, hf1⟩; obtain ⟨hcr, hzr⟩ := block_cells (hf1.heap (k := w.heap.size) (Go.Deep.blk_alloc_new w _) id); obtain rfl : r = .tuple #[.int .i64 k, .bool true] := (by rcases hs with ⟨k', hk', e⟩ | ⟨hk', _⟩; (rw [hx] at hk'; cases hk'; exact e); (rw [hx] at hk'; cases hk')); obtain ⟨a', cap', e', _, _, hcl⟩ := HV.out w1 (((Fr.refl _ _).alloc _).same hf1); cases e'; obtain ⟨g, rfl, hg, hcc⟩ := hcl (by omega); obtain ⟨c0, c1, c2, c3⟩ := hcc k hk; have hd : decide ((k : Int) < (l.length : Int)) = true := (by simp; omega))
    refine bodyPost_ret (v := .tuple #[.agg #[.int .i64 1, .int .i64 (((l[k]).block + 1 : Nat) : Int), .int .i64 (l[k]).span, .int .i64 (l[k]).ptrs], .bool true]) (by simp [results, Tryz.results56, go_sem, hcr]) rfl ⟨_, rfl, .inl ⟨k, hk, hx, rfl⟩, ?_⟩
    have hf : Fr New w w1 := ((Fr.refl _ _).alloc _).same hf1
    iterate 4 refine Fr.setCell ?_ (fun h => absurd h (by simp)) _
    exact hf
end Go.Proofs.YtbagcjlimdilpaaGreat
