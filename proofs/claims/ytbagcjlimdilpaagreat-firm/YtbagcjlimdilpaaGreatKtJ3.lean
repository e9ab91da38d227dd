/- Texts that follow one another, joined. -/
import Derived.Test.YtbagcjlimdilpaaGreatKtRefA
import Derived.Test.YtbagcjlimdilpaaGreatKtJ2
import Derived.Test.YtbagcjlimdilpaaGreatKtJ0
/- The walk of the document's 'walk': all objects, and the places of wrong headers. -/
namespace Go.Proofs.YtbagcjlimdilpaaGreat
open Go.RowKit

theorem Tryz.info190 : (Tryz.prog.info? 190).map (fun i => (i.zero, i.size, i.bytes)) = some (some (.agg #[.int .i64 0, .int .i64 0, .int .i64 0]), 3, 24) := by kernel_rfl
theorem Tryz.info3 : (Tryz.prog.info? 3).map (fun i => (i.zero, i.size, i.bytes)) = some (some (.int .i64 0), 1, 8) := by kernel_rfl

def obCells (o : Ob) : List Value := [.int .i64 o.block, .int .i64 o.span, .int .i64 o.ptrs]
def obsCells (l : List Ob) : List Value := l.flatMap obCells
theorem obsCells_snoc (l : List Ob) (o : Ob) : obsCells (l ++ [o]) = obsCells l ++ obCells o := by simp [obsCells]
/-- the list v is the objects l, in a row of its own -/
abbrev OwnO (base : Nat) (w : World) (v : Value) (l : List Ob) : Prop := w.ownsRow base 190 3 v l.length (obsCells l)
/-- the list v is the numbers l, in a row of its own -/
abbrev OwnN (base : Nat) (w : World) (v : Value) (l : List Nat) : Prop := w.ownsRow base 3 1 v l.length (l.map fun (x : Nat) => Value.int .i64 (x : Int))

/-- what the walk keeps -/
structure Walking (w : World) (ws : List Int) (n b : Nat) (vl vb : Value) (os : List Ob) (bs : List Nat) (wr : World) : Prop where
  l : OwnO w.heap.size wr vl os
  bad : OwnN w.heap.size wr vb bs
  fr : Fr New w wr
  all : walkS ws n 0 = (os ++ (walkS ws n b).1, bs ++ (walkS ws n b).2)
  len : os.length ≤ b
  len' : bs.length ≤ b

theorem Walking.ob {w wr w1 w2 : World} {ws : List Int} {n b : Nat} {vl vb vl' : Value} {os : List Ob} {bs : List Nat} {o : Ob} (h : Walking w ws n b vl vb os bs wr) (hb : b < n) (hs : slotAt ws b = some (some o)) (hf : Fr New wr w1)
    (ho : w2.ownsRow w.heap.size 190 3 vl' (os.length + 1) (obsCells os ++ obCells o)) (hg : w1.grownBy w2 vl.ownBlock) : Walking w ws n (b + o.span) vl' vb (os ++ [o]) bs w2 := by
  have hl1 := hf.owns h.l (fun _ _ h => h)
  have hb1 := hf.owns h.bad (fun _ _ h => h)
  have h2 : Fr (fun k => vl.ownBlock = some k) w1 w2 := (Fr.refl _ _).grown hg (fun k _ hk => hk)
  have := (slot_obs hs).2.1
  refine ⟨by unfold OwnO; rw [obsCells_snoc, List.length_append]; exact ho, h2.owns hb1 ?_, (h.fr.same hf).trans h2 (fun j hj hk => by have := (h.l.lt j hk).1; omega), ?_, by have := h.len; simp; omega, by have := h.len'; omega⟩
  · intro g hg' hv
    obtain ⟨_, c, hc⟩ := own_block hb1 hg'
    obtain ⟨_, c', hc'⟩ := own_block hl1 hv
    exact type_ne hc hc' (by decide) rfl
  · rw [h.all, walk_ob hb hs]; simp
theorem Walking.badly {w wr w1 w2 : World} {ws : List Int} {n b : Nat} {vl vb vb' : Value} {os : List Ob} {bs : List Nat} (h : Walking w ws n b vl vb os bs wr) (hb : b < n) (hs : slotAt ws b = some none) (hf : Fr New wr w1)
    (ho : w2.ownsRow w.heap.size 3 1 vb' (bs.length + 1) ((bs.map fun (x : Nat) => Value.int .i64 (x : Int)) ++ [.int .i64 ((106 + 8 * b : Nat) : Int)])) (hg : w1.grownBy w2 vb.ownBlock) : Walking w ws n (b + 1) vl vb' os (bs ++ [106 + 8 * b]) w2 := by
  have hl1 := hf.owns h.l (fun _ _ h => h)
  have hb1 := hf.owns h.bad (fun _ _ h => h)
  have h2 : Fr (fun k => vb.ownBlock = some k) w1 w2 := (Fr.refl _ _).grown hg (fun k _ hk => hk)
  refine ⟨h2.owns hl1 ?_, by unfold OwnN; rw [List.map_append, List.length_append]; exact ho, (h.fr.same hf).trans h2 (fun j hj hk => by have := (h.bad.lt j hk).1; omega), ?_, by have := h.len; omega, by have := h.len'; simp; omega⟩
  · intro g hg' hv
    obtain ⟨_, c, hc⟩ := own_block hl1 hg'
    obtain ⟨_, c', hc'⟩ := own_block hb1 hv
    exact type_ne hc hc' (by decide) rfl
  · rw [h.all, walk_bad hb hs]; simp
theorem Walking.free {w wr w1 : World} {ws : List Int} {n b : Nat} {vl vb : Value} {os : List Ob} {bs : List Nat} (h : Walking w ws n b vl vb os bs wr) (hb : b < n) (hs : slotAt ws b = none) (hf : Fr New wr w1) : Walking w ws n (b + 1) vl vb os bs w1 :=
  ⟨hf.owns h.l (fun _ _ h => h), hf.owns h.bad (fun _ _ h => h), h.fr.same hf, by rw [h.all, walk_free hb hs], by have := h.len; omega, by have := h.len'; omega⟩

theorem new_at (w : World) (o : Obj) (n : Nat) (hn : w.heap.size = n) : (w.alloc o).heap[n]? = some o := by subst hn; exact Go.Deep.blk_alloc_new w o
theorem obCells_one (o : Ob) : ∀ u ∈ obCells o, u.oneCell' = true := by
  intro u hu
  simp only [obCells, List.mem_cons, List.not_mem_nil, or_false] at hu
  rcases hu with rfl | rfl | rfl <;> rfl

theorem x_kept {wr w1 w2 : World} {B : Nat} {e : TypeId} {sz : Nat} {v : Value} {n : Nat} {xs : List Value} (h : wr.ownsRow B e sz v n xs) (hf : Fr New wr w1) {o1 o2 : Obj} (hg : ((w1.alloc o1).alloc o2).grownBy w2 v.ownBlock) : w2.heap[w1.heap.size]? = some o1 := by
  rw [hg.block w1.heap.size (by simp; omega) (fun hh => by have := (h.lt _ hh.symm).2; have := hf.size; omega), Go.Deep.blk_alloc_lt _ _ _ (by simp)]
  exact Go.Deep.blk_alloc_new w1 o1

set_option maxHeartbeats 1000000 in
set_option maxRecDepth 1000000 in
theorem walk_any (a : Option Addr) (cap : Nat) (ws : List Int) (w : World) (hn : nblk ws.length ≠ 0) (hr : RowU w a ws) :
    Calls Tryz.prog 126 #[.slice a ws.length cap] w fun e w' => ∃ vl vb, e = .returned (.tuple #[vl, vb]) ∧ OwnO w.heap.size w' vl (objs ws) ∧ OwnN w.heap.size w' vb (bads ws) ∧ Fr New w w' := by
  obtain ⟨hlen, hn1, hn2⟩ := nblk_some hn
  obtain ⟨n, hnn⟩ : ∃ n, n = nblk ws.length := ⟨_, rfl⟩
  obtain ⟨L, hL⟩ : ∃ L, L = ws.length := ⟨_, rfl⟩
  have HB : Hid (Calls Tryz.prog 127 #[.int .i64 L] w fun e w' => e = .returned (.int .i64 n) ∧ w' = w) := by rw [hL, hnn]; exact blocks_any _ w (by omega)
  rw [← hnn] at hlen hn1 hn2
  rw [← hL] at hlen
  have hLb : L ≤ 362 := by omega
  have HLn : Hid (L = 106 + 8 * n) := hlen
  clear hlen
  have HL : Hid (L = ws.length) := hL
  have HNN : Hid (n = nblk ws.length) := hnn
  rw [← hL]
  clear hn hL hnn
  obtain ⟨i0, hi, hz0, hz1, hz2⟩ := info_parts Tryz.info190
  obtain ⟨j0, hj, hy0, hy1, hy2⟩ := info_parts Tryz.info3
  have hW0 : Walking w ws n 0 (.slice none 0 0) (.slice none 0 0) [] [] w := ⟨World.ownsRow_nil _ _ _ _, World.ownsRow_nil _ _ _ _, Fr.refl _ _, by simp, by simp, by simp⟩
  go_enter Tryz.func126, Tryz.ntmps126
  go_wp2_with (go_at_call 127; refine calls_same HB.out ?_)
  go_loopg [4, 5, 7] n (fun g vl vb t wr => ∃ b os bs, b ≤ n ∧ g = n - b ∧ t = .int .i64 (b : Nat) ∧ Walking w ws n b vl vb os bs wr)
  case atStart => exact ⟨0, [], [], by omega, rfl, rfl, hW0⟩
  case round =>
    obtain ⟨b, os, bs, hbn, rfl, rfl, hw⟩ := hrel
    clear hW0
    by_cases hb : b < n
    · have HO : Hid (Calls Tryz.prog 151 #[.slice a L cap, .int .i64 b] wr fun e w' => e = .returned (objectV (slotAt ws b)) ∧ Fr New wr w') := by
        have := object_any a cap ws b wr (by rw [← HL.out]; omega) (by rw [← HL.out, HLn.out]; omega) (rowU_fr hw.fr hr (fun _ _ h => h))
        rw [← HL.out] at this
        exact this
      rcases hs : slotAt ws b with _ | _ | o
      · rw [hs] at HO
        have HO' : Hid (Calls Tryz.prog 151 #[.slice a L cap, .int .i64 b] wr fun e w' => e = .returned (.tuple #[.agg #[.int .i64 0, .int .i64 0, .int .i64 0], .int .i64 0]) ∧ Fr New wr w') := HO.out
        have hfree := fun w1 hf => hw.free (w1 := w1) hb hs hf
        clear hs HO
        go_wp2_with (first
          | (go_at_call 151; refine HO'.out.mono ?_; rintro e w1 ⟨rfl, hf1⟩)
          | fail)
        go_roundg (n - (b + 1))
        case measure => omega
        case rel => exact ⟨b + 1, os, bs, by omega, rfl, by go_num, hfree _ (hf1.alloc _)⟩
      · rw [hs] at HO
        have HO' : Hid (Calls Tryz.prog 151 #[.slice a L cap, .int .i64 b] wr fun e w' => e = .returned (.tuple #[.agg #[.int .i64 0, .int .i64 0, .int .i64 0], .int .i64 2]) ∧ Fr New wr w') := HO.out
        have HS : Hid (slotAt ws b = some none) := hs
        clear hs HO
        have hlb := hw.len'
        go_wp2_with (first
          | (go_at_call 151; refine HO'.out.mono ?_; rintro e w1 ⟨rfl, hf1⟩)
          | (at_builtin; refine wpList_append_own _ rfl (.tmp 37) (.tmp 41) 25 rfl w.heap.size 3 j0 (.int .i64 0) 1 8 Tryz.underlying25 hj hy0 hy1 hy2 rfl (by decide) _ _ _ rfl (((hf1.alloc _).alloc _).owns hw.bad (fun _ _ h => h)) ⟨w1.heap.size + 1, 0, none⟩ 1 1 [.int .i64 (106 + 8 * (b : Int))] rfl rfl (World.news_of_block (new_at _ _ _ (by simp))) (by intro u hu; simp at hu; subst hu; rfl) (by unfold maxLen; omega) (by omega) (by have := hw.fr.size; have := hf1.size; simp; omega) ?_; intro v2 w2 ho2 hg2 _)
          | fail)
        have hW2 := hw.badly hb HS.out ((hf1.alloc _).alloc _) (by rw [show ((106 + 8 * b : Nat) : Int) = 106 + 8 * (b : Int) by omega]; exact ho2) hg2
        clear ho2 hg2
        go_wp2
        go_roundg (n - (b + 1))
        case measure => omega
        case rel => exact ⟨b + 1, os, _, by omega, rfl, by go_num, hW2⟩
      · have hso := slot_obs hs
        rw [hs] at HO
        obtain ⟨ob, osp, op⟩ := o
        obtain ⟨hob, hs1, hs4, hp, hle⟩ := hso
        simp only at hob hs1 hs4 hp hle
        obtain rfl : b = ob := hob.symm
        have hle' : b + osp ≤ n := by rw [← HL.out, HLn.out] at hle; omega
        have HO' : Hid (Calls Tryz.prog 151 #[.slice a L cap, .int .i64 b] wr fun e w' => e = .returned (.tuple #[.agg #[.int .i64 b, .int .i64 osp, .int .i64 op], .int .i64 1]) ∧ Fr New wr w') := HO.out
        have HS : Hid (slotAt ws b = some (some ⟨b, osp, op⟩)) := hs
        clear hs HO hle
        have hlb := hw.len
        go_wp2_with (first
          | (go_at_call 151; refine HO'.out.mono ?_; rintro e w1 ⟨rfl, hf1⟩)
          | (at_builtin; refine wpList_append_own _ rfl (.tmp 27) (.tmp 29) 186 rfl w.heap.size 190 i0 _ 3 24 Tryz.underlying186 hi hz0 hz1 hz2 rfl (by decide) _ _ _ rfl (((hf1.alloc _).alloc _).owns hw.l (fun _ _ h => h)) ⟨w1.heap.size + 1, 0, none⟩ 1 1 (obCells ⟨b, osp, op⟩) rfl rfl (World.news_of_block (new_at _ _ _ (by simp))) (obCells_one _) (by unfold maxLen; omega) (by omega) (by have := hw.fr.size; have := hf1.size; simp; omega) ?_; intro v2 w2 ho2 hg2 _; obtain ⟨hc2, hz2'⟩ := block_cells (x_kept hw.l hf1 hg2))
          | fail)
        have hW2 := hw.ob hb HS.out ((hf1.alloc _).alloc _) ho2 hg2
        go_roundg (n - (b + osp))
        case measure => omega
        case rel => exact ⟨b + osp, _, bs, by omega, rfl, by go_num, hW2⟩
    · have hend := hw.all
      rw [walk_end hb, List.append_nil, List.append_nil] at hend
      have ho : objs ws = os := by unfold objs; rw [← HNN.out, hend]
      have hbd : bads ws = bs := by unfold bads; rw [← HNN.out, hend]
      have h1 := hw.l
      have h2 := hw.bad
      rw [← ho] at h1
      rw [← hbd] at h2
      have h3 := hw.fr
      clear hend ho hbd
      go_wp2
      go_ret2
      exact ⟨_, _, rfl, h1, h2, h3⟩
end Go.Proofs.YtbagcjlimdilpaaGreat
/- Walks of the document's find, place and reached. -/
namespace Go.Proofs.YtbagcjlimdilpaaGreat
open Go.RowKit

theorem obsCells_get (l : List Ob) (i j : Nat) (hi : i < l.length) (hj : j < 3) : (obsCells l)[i * 3 + j]? = (obCells l[i])[j]? := by
  induction l generalizing i with
  | nil => simp at hi
  | cons e r ih =>
    simp only [obsCells, List.flatMap_cons]
    cases i with
    | zero => rw [List.getElem?_append_left (by simp [obCells]; omega)]; simp
    | succ i =>
      rw [List.getElem?_append_right (by simp [obCells]; omega)]
      have := ih i (by simpa using hi)
      rw [show (i + 1) * 3 + j - (obCells e).length = i * 3 + j by simp [obCells]; omega]
      exact this

/-- a list of objects, as it lies -/
def LiesO (w : World) (v : Value) (l : List Ob) : Prop := ∃ a cap, v = .slice a l.length cap ∧ l.length ≤ 1048576 ∧ (∀ o ∈ l, o.block ≤ 1048576 ∧ o.span ≤ 4 ∧ o.ptrs < 32) ∧
  (0 < l.length → ∃ g, a = some ⟨g, 0, none⟩ ∧ g < w.heap.size ∧ ∀ i (hi : i < l.length), w.cell? ⟨g, i * 3, none⟩ = some (.int .i64 (l[i]).block) ∧ w.cell? ⟨g, i * 3 + 1, none⟩ = some (.int .i64 (l[i]).span) ∧ w.cell? ⟨g, i * 3 + 2, none⟩ = some (.int .i64 (l[i]).ptrs))
theorem lies_own {w : World} {B : Nat} {v : Value} {l : List Ob} (h : OwnO B w v l) (hl : l.length ≤ 1048576) (hb : ∀ o ∈ l, o.block ≤ 1048576 ∧ o.span ≤ 4 ∧ o.ptrs < 32) : LiesO w v l := by
  obtain ⟨a, c, rfl⟩ := own_slice h
  refine ⟨a, c, rfl, hl, hb, fun hp => ?_⟩
  obtain ⟨g, c', hv, _, hg⟩ := h.form hp
  cases hv
  have key : ∀ i (hi : i < l.length) j, j < 3 → w.cell? ⟨g, i * 3 + j, none⟩ = (obCells l[i])[j]? := fun i hi j hj => (h.cellAt (i * 3 + j) (by omega)).trans (obsCells_get l i j hi hj)
  exact ⟨g, rfl, hg, fun i hi => ⟨key i hi 0 (by omega), key i hi 1 (by omega), key i hi 2 (by omega)⟩⟩
theorem LiesO.fr {T : Nat → Prop} {w w' : World} {v : Value} {l : List Ob} (h : LiesO w v l) (hf : Fr T w w') (hn : ∀ g, v.ownBlock = some g → ¬ T g) : LiesO w' v l := by
  obtain ⟨a, c, rfl, hl, hb, hc⟩ := h
  refine ⟨a, c, rfl, hl, hb, fun hp => ?_⟩
  obtain ⟨g, rfl, hg, hcc⟩ := hc hp
  refine ⟨g, rfl, Nat.lt_of_lt_of_le hg hf.size, fun i hi => ?_⟩
  obtain ⟨h1, h2, h3⟩ := hcc i hi
  exact ⟨hf.cell h1 (hn g rfl), hf.cell h2 (hn g rfl), hf.cell h3 (hn g rfl)⟩

set_option maxRecDepth 100000 in
theorem find_any (v : Value) (l : List Ob) (h : Int) (w : World) (hv : LiesO w v l) :
    Calls Tryz.prog 130 #[v, .int .u64 h] w fun e w' => e = .returned (.int .i64 (findI l h)) ∧ w' = w := by
  obtain ⟨a, cap, rfl, hl, hb, hc⟩ := hv
  go_enter Tryz.func130, Tryz.ntmps130
  go_wp2
  go_loop [5] (fun t => ∃ k : Nat, k ≤ l.length ∧ t = .int .i64 k ∧ ∀ i (hi : i < l.length), i < k → (((l[i]).block + 1 : Nat) : Int) ≠ h) (fun t => l.length - (intOf t).toNat)
  case atStart => exact ⟨0, Nat.zero_le _, rfl, fun i hi h0 => by omega⟩
  case round =>
    obtain ⟨k, hk, rfl, hno⟩ := hrel
    have HN : Hid (∀ i (hi : i < l.length), i < k → (((l[i]).block + 1 : Nat) : Int) ≠ h) := hno
    clear hno
    by_cases hlt : k < l.length
    · obtain ⟨g, rfl, hg, hcc⟩ := hc (by omega)
      obtain ⟨h1, _, _⟩ := hcc k hlt
      obtain ⟨hb1, _, _⟩ := hb l[k] (List.getElem_mem _)
      obtain ⟨B, hB⟩ : ∃ B, B = (l[k]).block := ⟨_, rfl⟩
      rw [← hB] at h1 hb1
      have HB : Hid (B = (l[k]).block) := hB
      clear hB hcc hc
      have hw1 : IntKind.u64.wrap ((B : Int) + 1) = B + 1 := by rw [IntKind.wrap_u64]; omega
      by_cases he : (B : Int) + 1 = h
      · have HI : Hid (findI l h = k) := findI_some (idx_first hlt (by rw [← HB.out]; omega) (fun i hi => HN.out i (by omega) hi))
        subst he
        go_wp2
        go_ret
        exact ⟨ret_i HI.out.symm, rfl⟩
      · have hde : ((B : Int) + 1 == h) = false := by simpa using he
        have HX : Hid (¬ (B : Int) + 1 = h) := he
        clear he
        go_wp2
        go_round
        case rel => exact ⟨k + 1, by omega, by go_num, fun i hi hik => by
          rcases Nat.lt_or_ge i k with h' | h'
          · exact HN.out i hi h'
          · obtain rfl : i = k := by omega
            rw [← HB.out]
            have := HX.out
            omega⟩
        case measure => simp [intOf]; omega
    · have HI : Hid (findI l h = -1) := findI_none (idx_no (fun i hi => HN.out i hi (by omega)))
      go_wp2
      go_ret
      exact ⟨ret_i HI.out.symm, rfl⟩

theorem place_any (o : Ob) (p : Int) (w : World) (hb : o.block ≤ 1048576) (hp : -1 ≤ p) (hp2 : p ≤ 1048576) :
    Calls Tryz.prog 129 #[.agg #[.int .i64 o.block, .int .i64 o.span, .int .i64 o.ptrs], .int .i64 p] w fun e w' => e = .returned (.int .i64 (106 + 8 * (o.block : Int) + 1 + p)) ∧ Fr New w w' := by
  go_enter Tryz.func129, Tryz.ntmps129
  go_wp2
  go_ret
  exact ⟨rfl, (Fr.refl _ _).alloc _⟩
end Go.Proofs.YtbagcjlimdilpaaGreat
/- Walks of the program's small functions: words through the interface, shapes, places, heads. -/
namespace Go.Proofs.YtbagcjlimdilpaaGreat
open Go.RowKit

/-- words as the program hands them on -/
abbrev rowV (a : Option Addr) (n c : Nat) : Value := .iface 105 (.slice a n c)
theorem meth_len (a : Option Addr) (n c : Nat) (w : World) : (method 356 105 (.slice a n c) "Len").run Tryz.prog w = .ok (196, .slice a n c) w := by kernel_rfl
theorem meth_read (a : Option Addr) (n c : Nat) (w : World) : (method 356 105 (.slice a n c) "Read").run Tryz.prog w = .ok (197, .slice a n c) w := by kernel_rfl
theorem meth_put (a : Option Addr) (n c : Nat) (w : World) : (method 356 105 (.slice a n c) "Put").run Tryz.prog w = .ok (152, .slice a n c) w := by kernel_rfl
theorem ahead_read (a : Option Addr) (n c : Nat) (w : World) : (nilAhead 356 105 (.slice a n c) "Read").run Tryz.prog w = .ok (some false) w := by kernel_rfl
theorem ahead_put (a : Option Addr) (n c : Nat) (w : World) : (nilAhead 356 105 (.slice a n c) "Put").run Tryz.prog w = .ok (some false) w := by kernel_rfl

theorem klen_any (a : Option Addr) (n c : Nat) (w : World) :
    Calls Tryz.prog 196 #[.slice a n c] w fun e w' => e = .returned (.int .i64 n) ∧ w' = w := by
  go_enter Tryz.func196, Tryz.ntmps196
  go_wp2
  go_ret
  exact ⟨rfl, rfl⟩
theorem kread_any (sb so n c i : Nat) (x : Int) (w : World) (hi : i < n) (hc : w.cell? ⟨sb, so + i, none⟩ = some (.int .u64 x)) :
    Calls Tryz.prog 197 #[.slice (some ⟨sb, so, none⟩) n c, .int .i64 i] w fun e w' => e = .returned (.int .u64 x) ∧ w' = w := by
  go_enter Tryz.func197, Tryz.ntmps197
  go_wp2
  go_ret
  exact ⟨rfl, rfl⟩
theorem kput_any (g n c i : Nat) (x y : Int) (w : World) (hi : i < n) (hc : w.cell? ⟨g, i, none⟩ = some (.int .u64 x)) (hz : w.frozen? ⟨g, i, none⟩ = false) :
    Calls Tryz.prog 152 #[.slice (some ⟨g, 0, none⟩) n c, .int .i64 i, .int .u64 y] w fun e w' => e = .returned (.tuple #[]) ∧ w' = w.setCell ⟨g, i, none⟩ (.int .u64 y) := by
  go_enter Tryz.func152, Tryz.ntmps152
  go_wp2
  go_end0
  exact ⟨rfl, rfl⟩

/-- words behind the interface, while nothing but new blocks has come since w: how its methods are found, and what they answer -/
structure RowAt (w : World) (t : Nat) (x : Value) (fL fR : Nat) (y : Value) (ws : List Int) : Prop where
  mlen : ∀ w', Fr New w w' → (method 356 t x "Len").run Tryz.prog w' = .ok (fL, y) w'
  mread : ∀ w', Fr New w w' → (method 356 t x "Read").run Tryz.prog w' = .ok (fR, y) w'
  aread : ∀ w', (nilAhead 356 t x "Read").run Tryz.prog w' = .ok (some false) w'
  clen : ∀ a w', (callFunc fL a).run Tryz.prog w' = .ok (.enter fL a) w'
  cread : ∀ a w', (callFunc fR a).run Tryz.prog w' = .ok (.enter fR a) w'
  len : ∀ w', Fr New w w' → Calls Tryz.prog fL #[y] w' fun e w'' => e = .returned (.int .i64 ws.length) ∧ w'' = w'
  read : ∀ w', Fr New w w' → ∀ i, i < ws.length → Calls Tryz.prog fR #[y, .int .i64 (i : Nat)] w' fun e w'' => e = .returned (.int .u64 (wd ws i)) ∧ w'' = w'
theorem RowAt.grow {w w1 : World} {t : Nat} {x : Value} {fL fR : Nat} {y : Value} {ws : List Int} (h : RowAt w t x fL fR y ws) (hf : Fr New w w1) : RowAt w1 t x fL fR y ws :=
  ⟨fun w' h' => h.mlen w' (hf.same h'), fun w' h' => h.mread w' (hf.same h'), h.aread, h.clen, h.cread, fun w' h' => h.len w' (hf.same h'), fun w' h' => h.read w' (hf.same h')⟩
theorem call_klen (a : Array Value) (w : World) : (callFunc 196 a).run Tryz.prog w = .ok (.enter 196 a) w := by kernel_rfl
theorem call_kread (a : Array Value) (w : World) : (callFunc 197 a).run Tryz.prog w = .ok (.enter 197 a) w := by kernel_rfl
theorem kept_row {sb so L c : Nat} {ws : List Int} {w : World} (hL : ws.length = L) (hcw : ∀ i, i < L → w.cell? ⟨sb, so + i, none⟩ = some (.int .u64 (wd ws i))) :
    RowAt w 105 (.slice (some ⟨sb, so, none⟩) L c) 196 197 (.slice (some ⟨sb, so, none⟩) L c) ws :=
  ⟨fun w' _ => meth_len _ _ _ w', fun w' _ => meth_read _ _ _ w', fun w' => ahead_read _ _ _ w', call_klen, call_kread, fun w' _ => by rw [hL]; exact klen_any _ _ _ w', fun w' hf i hi => kread_any sb so L c i _ w' (by omega) (hf.cell (hcw i (by omega)) id)⟩

theorem place_of (b : Nat) (w : World) (hb : b ≤ 1048576) :
    Calls Tryz.prog 118 #[.int .i64 ((b + 1 : Nat) : Int)] w fun e w' => e = .returned (.int .i64 ((106 + 8 * b : Nat) : Int)) ∧ w' = w := by
  go_enter Tryz.func118, Tryz.ntmps118
  go_wp2
  go_ret
  exact ⟨ret_i (by omega), rfl⟩
theorem lblocks_any (L : Nat) (w : World) (h : 106 ≤ L) (hL : L ≤ 1048576) :
    Calls Tryz.prog 95 #[.int .i64 L] w fun e w' => e = .returned (.int .i64 (((L - 106) / 8 : Nat) : Int)) ∧ w' = w := by
  go_enter Tryz.func95, Tryz.ntmps95
  go_wp2
  go_ret
  exact ⟨ret_i (by first | omega | (rw [Int.tdiv_eq_ediv_of_nonneg (by omega)]; omega)), rfl⟩
end Go.Proofs.YtbagcjlimdilpaaGreat
/- Walks of the program's Shaped, Logged, ParseHeader, HeadOf, wrongHead. -/
namespace Go.Proofs.YtbagcjlimdilpaaGreat
open Go.RowKit

theorem lblocks_low (L : Nat) (w : World) (h : L < 106) :
    Calls Tryz.prog 95 #[.int .i64 L] w fun e w' => ∃ v : Int, v ≤ 0 ∧ e = .returned (.int .i64 v) ∧ w' = w := by
  go_enter Tryz.func95, Tryz.ntmps95
  go_wp2
  go_ret
  refine ⟨_, ?_, rfl, rfl⟩
  rw [show (L : Int) - 106 = -((106 : Int) - L) by omega, Int.neg_tdiv, Int.tdiv_eq_ediv_of_nonneg (by omega)]
  omega
theorem shaped_yes (L : Nat) (w : World) (h : nblk L ≠ 0) :
    Calls Tryz.prog 46 #[.int .i64 L] w fun e w' => e = .returned (.bool true) ∧ w' = w := by
  obtain ⟨h1, h2, h3⟩ := nblk_some h
  obtain ⟨n, hn⟩ : ∃ n, n = nblk L := ⟨_, rfl⟩
  rw [← hn] at h1 h2 h3
  clear h hn
  subst h1
  have HB : Hid (Calls Tryz.prog 95 #[.int .i64 ((106 + 8 * n : Nat) : Int)] w fun e w' => e = .returned (.int .i64 (n : Int)) ∧ w' = w) := by
    have := lblocks_any (106 + 8 * n) w (by omega) (by omega)
    rwa [show (106 + 8 * n - 106) / 8 = n by omega] at this
  have hde : (106 + 8 * (n : Int) == ((106 + 8 * n : Nat) : Int)) = true := by simp
  go_enter Tryz.func46, Tryz.ntmps46
  go_wp2_with (first
    | (go_at_call 95; refine calls_same HB.out ?_)
    | (go_at_call 64; refine calls_same (fits_true n w (by omega) (by omega)) ?_)
    | (go_at_call 65; refine calls_same (length_any n w h3) ?_))
  go_ret
  exact ⟨rfl, rfl⟩
theorem shaped_no (L : Nat) (w : World) (hL : L ≤ 1048576) (h : nblk L = 0) :
    Calls Tryz.prog 46 #[.int .i64 L] w fun e w' => e = .returned (.bool false) ∧ w' = w := by
  by_cases hlo : L < 106
  · go_enter Tryz.func46, Tryz.ntmps46
    go_wp2_with (first
      | (go_at_call 95; refine (lblocks_low L w hlo).mono ?_; rintro e w' ⟨v, hv, rfl, rfl⟩)
      | (go_at_call 64; refine calls_same (fits_false _ _ (by omega)) ?_))
    go_ret
    exact ⟨rfl, rfl⟩
  · obtain ⟨v, hv⟩ : ∃ v, v = (L - 106) / 8 := ⟨_, rfl⟩
    have HB : Hid (Calls Tryz.prog 95 #[.int .i64 (L : Int)] w fun e w' => e = .returned (.int .i64 (v : Int)) ∧ w' = w) := by
      have := lblocks_any L w (by omega) hL
      rwa [← hv] at this
    by_cases hf : 1 ≤ v ∧ v ≤ 32
    · have hne : L ≠ 106 + 8 * v := nblk_none h v hf.1 hf.2
      have hde : (106 + 8 * (v : Int) == (L : Int)) = false := by simp; omega
      clear hv
      go_enter Tryz.func46, Tryz.ntmps46
      go_wp2_with (first
        | (go_at_call 95; refine calls_same HB.out ?_)
        | (go_at_call 64; refine calls_same (fits_true v w (by omega) (by omega)) ?_)
        | (go_at_call 65; refine calls_same (length_any v w hf.2) ?_))
      go_ret
      exact ⟨rfl, rfl⟩
    · clear hv
      go_enter Tryz.func46, Tryz.ntmps46
      go_wp2_with (first
        | (go_at_call 95; refine calls_same HB.out ?_)
        | (go_at_call 64; refine calls_same (fits_false v w (by omega)) ?_))
      go_ret
      exact ⟨rfl, rfl⟩

theorem logged_any (p : Int) (L : Nat) (w : World) (h8 : 8 ≤ L) (hL : L ≤ 1048576) :
    Calls Tryz.prog 137 #[.int .u64 p, .int .i64 L] w fun e w' => e = .returned (.bool (okAt L p)) ∧ w' = w := by
  have hw1 : IntKind.u64.wrap (L : Int) = L := by rw [IntKind.wrap_u64]; omega
  by_cases h1 : p < 8
  · rw [okAt_iff.2 ⟨by omega, .inl h1⟩]
    have hd1 : decide (p < 8) = true := by simpa using h1
    go_enter Tryz.func137, Tryz.ntmps137
    go_wp2
    go_ret
    exact ⟨rfl, rfl⟩
  · have hd1 : decide (p < 8) = false := by simpa using h1
    by_cases h2 : 106 ≤ p
    · have hd2 : decide (106 ≤ p) = true := by simpa using h2
      by_cases h3 : p < L
      · rw [okAt_iff.2 ⟨h3, .inr h2⟩]
        have hd3 : decide (p < (L : Int)) = true := by simpa using h3
        go_enter Tryz.func137, Tryz.ntmps137
        go_wp2
        go_ret
        exact ⟨rfl, rfl⟩
      · have he : okAt L p = false := by
          rcases hk : okAt L p with _ | _
          · rfl
          · exact absurd (okAt_iff.1 hk).1 h3
        rw [he]
        have hd3 : decide (p < (L : Int)) = false := by simpa using h3
        go_enter Tryz.func137, Tryz.ntmps137
        go_wp2
        go_ret
        exact ⟨rfl, rfl⟩
    · have hd2 : decide (106 ≤ p) = false := by simpa using h2
      have he : okAt L p = false := by
        rcases hk : okAt L p with _ | _
        · rfl
        · have := (okAt_iff.1 hk).2; omega
      rw [he]
      go_enter Tryz.func137, Tryz.ntmps137
      go_wp2
      go_ret
      exact ⟨rfl, rfl⟩

theorem words_any' (s : Nat) (w : World) (hs : s ≤ 1048576) : Calls Tryz.prog 108 #[.int .i64 s] w fun e w' => e = .returned (.int .i64 (8 * (s : Int) - 1)) ∧ w' = w := by
  go_enter Tryz.func108, Tryz.ntmps108
  go_wp2
  go_ret
  exact ⟨rfl, rfl⟩

/-- may there be an object with that span and so many pointers? -/
def properB (s p : Int) : Bool := decide (1 ≤ s) && decide (s ≤ 4) && decide (0 ≤ p) && decide (p ≤ 8 * s - 1)
theorem properB_iff {s p : Int} : properB s p = true ↔ 1 ≤ s ∧ s ≤ 4 ∧ 0 ≤ p ∧ p < 8 * s := by
  unfold properB
  simp only [Bool.and_eq_true, decide_eq_true_eq]
  omega
theorem wordsZ_any (s : Int) (w : World) (hs : -1048576 ≤ s ∧ s ≤ 1048576) : Calls Tryz.prog 108 #[.int .i64 s] w fun e w' => e = .returned (.int .i64 (8 * s - 1)) ∧ w' = w := by
  go_enter Tryz.func108, Tryz.ntmps108
  go_wp2
  go_ret
  exact ⟨rfl, rfl⟩
theorem proper_any (s p : Int) (w : World) : Calls Tryz.prog 67 #[.int .i64 s, .int .i64 p] w fun e w' => e = .returned (.bool (properB s p)) ∧ w' = w := by
  by_cases h1 : 1 ≤ s
  · have hd1 : decide (1 ≤ s) = true := by simpa using h1
    by_cases h2 : s ≤ 4
    · have hd2 : decide (s ≤ 4) = true := by simpa using h2
      by_cases h3 : 0 ≤ p
      · have hd3 : decide (0 ≤ p) = true := by simpa using h3
        have HP : Hid (properB s p = decide (p ≤ 8 * s - 1)) := by unfold properB; rw [hd1, hd2, hd3]; rfl
        go_enter Tryz.func67, Tryz.ntmps67
        go_wp2_with (go_at_call 108; refine calls_same (wordsZ_any s w (by omega)) ?_)
        go_ret
        exact ⟨by rw [HP.out]; rfl, rfl⟩
      · have hd3 : decide (0 ≤ p) = false := by simpa using h3
        have HP : Hid (properB s p = false) := by unfold properB; rw [hd1, hd2, hd3]; rfl
        go_enter Tryz.func67, Tryz.ntmps67
        go_wp2
        go_ret
        exact ⟨by rw [HP.out]; rfl, rfl⟩
    · have hd2 : decide (s ≤ 4) = false := by simpa using h2
      have HP : Hid (properB s p = false) := by unfold properB; rw [hd1, hd2]; rfl
      go_enter Tryz.func67, Tryz.ntmps67
      go_wp2
      go_ret
      exact ⟨by rw [HP.out]; rfl, rfl⟩
  · have hd1 : decide (1 ≤ s) = false := by simpa using h1
    have HP : Hid (properB s p = false) := by unfold properB; rw [hd1]; rfl
    go_enter Tryz.func67, Tryz.ntmps67
    go_wp2
    go_ret
    exact ⟨by rw [HP.out]; rfl, rfl⟩

/-- a header by itself -/
def hdr1 (h : Int) : Prop := 1000100 ≤ h ∧ h < 1000500 ∧ ptrsOf h < 8 * spanOf h
theorem parse_yes (h : Int) (w : World) (hh : hdr1 h) :
    Calls Tryz.prog 157 #[.int .u64 h] w fun e w' => e = .returned (.tuple #[.int .i64 (spanOf h), .int .i64 (ptrsOf h), .bool true]) ∧ w' = w := by
  obtain ⟨h1, h2, h3⟩ := hh
  obtain ⟨r, hr⟩ : ∃ r, r = h - 1000000 := ⟨_, rfl⟩
  obtain rfl : h = r + 1000000 := by omega
  obtain ⟨s, hs⟩ : ∃ s, s = spanOf (r + 1000000) := ⟨_, rfl⟩
  obtain ⟨p, hp⟩ : ∃ p, p = ptrsOf (r + 1000000) := ⟨_, rfl⟩
  rw [← hs, ← hp] at h3
  have hs' : r / 100 = s := by rw [hs]; unfold spanOf; omega
  have hp' : r % 100 = p := by rw [hp]; unfold ptrsOf; omega
  have hw1 : IntKind.u64.wrap (r + 1000000 - 1000000) = r := by rw [IntKind.wrap_u64]; omega
  have hw2 : IntKind.i64.wrap r = r := by rw [IntKind.wrap_i64]; omega
  rw [← hs, ← hp]
  have HPR : Hid (Calls Tryz.prog 67 #[.int .i64 (s : Int), .int .i64 (p : Int)] w fun e w' => e = .returned (.bool true) ∧ w' = w) := by
    have := proper_any (s : Int) (p : Int) w
    rwa [properB_iff.2 ⟨by omega, by omega, by omega, by omega⟩] at this
  clear hs hp hr
  go_enter Tryz.func157, Tryz.ntmps157
  go_wp2_with (go_at_call 67; refine calls_same HPR.out ?_)
  exact bodyPost_ret (v := .tuple #[.int .i64 s, .int .i64 p, .bool true]) (by simp [results, Tryz.results157, go_sem]) rfl ⟨rfl, rfl⟩
theorem parse_no (h : Int) (w : World) (hh : ¬ hdr1 h) :
    Calls Tryz.prog 157 #[.int .u64 h] w fun e w' => e = .returned (.tuple #[.int .i64 0, .int .i64 0, .bool false]) ∧ w' = w := by
  by_cases h1 : h < 1000000
  · have hd1 : decide (h < 1000000) = true := by simpa using h1
    go_enter Tryz.func157, Tryz.ntmps157
    go_wp2
    exact bodyPost_ret (v := .tuple #[.int .i64 0, .int .i64 0, .bool false]) (by simp [results, Tryz.results157, go_sem]) rfl ⟨rfl, rfl⟩
  · have hd1 : decide (h < 1000000) = false := by simpa using h1
    by_cases h2 : 1000500 ≤ h
    · have hd2 : decide (1000500 ≤ h) = true := by simpa using h2
      go_enter Tryz.func157, Tryz.ntmps157
      go_wp2
      exact bodyPost_ret (v := .tuple #[.int .i64 0, .int .i64 0, .bool false]) (by simp [results, Tryz.results157, go_sem]) rfl ⟨rfl, rfl⟩
    · have hd2 : decide (1000500 ≤ h) = false := by simpa using h2
      obtain ⟨r, hr⟩ : ∃ r, r = h - 1000000 := ⟨_, rfl⟩
      obtain rfl : h = r + 1000000 := by omega
      obtain ⟨s, hs⟩ : ∃ s, s = spanOf (r + 1000000) := ⟨_, rfl⟩
      obtain ⟨p, hp⟩ : ∃ p, p = ptrsOf (r + 1000000) := ⟨_, rfl⟩
      have hs' : r / 100 = s := by rw [hs]; unfold spanOf; omega
      have hp' : r % 100 = p := by rw [hp]; unfold ptrsOf; omega
      have hw1 : IntKind.u64.wrap (r + 1000000 - 1000000) = r := by rw [IntKind.wrap_u64]; omega
      have hw2 : IntKind.i64.wrap r = r := by rw [IntKind.wrap_i64]; omega
      have hx : s < 1 ∨ (1 ≤ s ∧ 8 * s ≤ p) := by
        by_cases hs1 : s < 1
        · exact .inl hs1
        · right
          refine ⟨by omega, ?_⟩
          rcases Nat.lt_or_ge p (8 * s) with hlt | hge
          · exact absurd ⟨by omega, by omega, by rw [← hs, ← hp]; exact hlt⟩ hh
          · exact hge
      have HPR : Hid (Calls Tryz.prog 67 #[.int .i64 (s : Int), .int .i64 (p : Int)] w fun e w' => e = .returned (.bool false) ∧ w' = w) := by
        have := proper_any (s : Int) (p : Int) w
        rwa [show properB s p = false from by
          rcases hq : properB (s : Int) (p : Int) with _ | _
          · rfl
          · have := properB_iff.1 hq; omega] at this
      clear hs hp hr hh hx
      go_enter Tryz.func157, Tryz.ntmps157
      go_wp2_with (go_at_call 67; refine calls_same HPR.out ?_)
      exact bodyPost_ret (v := .tuple #[.int .i64 0, .int .i64 0, .bool false]) (by simp [results, Tryz.results157, go_sem]) rfl ⟨rfl, rfl⟩

/-- the words of a head -/
def headArr (hs : List Int) : Obj := .cells ((hs.map (Value.int .u64)).toArray) 126 (0, 0)
theorem head_eight {ws hs : List Int} (h8 : hs.length = 8) (h : ∀ j, j < 8 → hs[j]? = some (wd ws j)) : hs = [wd ws 0, wd ws 1, wd ws 2, wd ws 3, wd ws 4, wd ws 5, wd ws 6, wd ws 7] := by
  apply List.ext_getElem?
  intro i
  by_cases hi : i < 8
  · rw [h i hi]
    match i, hi with
    | 0, _ => rfl
    | 1, _ => rfl
    | 2, _ => rfl
    | 3, _ => rfl
    | 4, _ => rfl
    | 5, _ => rfl
    | 6, _ => rfl
    | 7, _ => rfl
  · rw [List.getElem?_eq_none (by omega), List.getElem?_eq_none (by simp; omega)]
/-- a head as a value -/
abbrev headA (ws : List Int) : Value := .agg #[.int .u64 (wd ws 0), .int .u64 (wd ws 1), .int .u64 (wd ws 2), .int .u64 (wd ws 3), .int .u64 (wd ws 4), .int .u64 (wd ws 5), .int .u64 (wd ws 6), .int .u64 (wd ws 7)]
/-- what the loop keeps -/
structure Heading (w : World) (ws : List Int) (k : Nat) (wr : World) : Prop where
  fr : Fr New w wr
  blk : ∃ hs : List Int, wr.heap[w.heap.size + 1]? = some (headArr hs) ∧ hs.length = 8 ∧ ∀ j, j < k → hs[j]? = some (wd ws j)
  res : wr.heap[w.heap.size]? = some (headArr [0, 0, 0, 0, 0, 0, 0, 0])
set_option maxRecDepth 100000 in
theorem headOf_row (t : Nat) (x : Value) (fL fR : Nat) (y : Value) (ws : List Int) (w : World) (h8 : 8 ≤ ws.length) (hrow : RowAt w t x fL fR y ws) :
    Calls Tryz.prog 111 #[.iface t x] w fun e w' => e = .returned (headA ws) ∧ Fr New w w' := by
  have HW : Hid (∀ wr, Fr New w wr → ∀ i, i < ws.length → Calls Tryz.prog fR #[y, .int .i64 (i : Nat)] wr fun e w'' => e = .returned (.int .u64 (wd ws i)) ∧ w'' = wr) := hrow.read
  have HM : Hid (∀ w', Fr New w w' → (method 356 t x "Read").run Tryz.prog w' = .ok (fR, y) w') := hrow.mread
  have hcf := hrow.cread
  clear hrow
  go_enter Tryz.func111, Tryz.ntmps111
  go_wp2
  go_loopw [5] (fun t wr => ∃ k : Nat, k ≤ 8 ∧ t = .int .i64 k ∧ Heading w ws k wr) (fun t _ => 8 - (intOf t).toNat)
  case atStart => exact ⟨0, by omega, rfl, ⟨((Fr.refl _ _).alloc _).alloc _, ⟨[0, 0, 0, 0, 0, 0, 0, 0], new_at2 w _ _, rfl, fun j hj => by omega⟩, (Go.Deep.blk_alloc_lt _ _ _ (by simp)).trans (Go.Deep.blk_alloc_new w _)⟩⟩
  case round =>
    obtain ⟨k, hk, rfl, hH⟩ := hrel
    by_cases hlt : k < 8
    · have HC : Hid (Calls Tryz.prog fR #[y, .int .i64 (k : Nat)] wr fun e w'' => e = .returned (.int .u64 (wd ws k)) ∧ w'' = wr) := HW.out wr hH.fr k (by omega)
      have hm := HM.out wr hH.fr
      obtain ⟨hs, hb, hl, hj⟩ := hH.blk
      have hcb : wr.cell? ⟨w.heap.size + 1, k, none⟩ = some (.int .u64 (hs.getD k 0)) := by
        rw [(block_cells hb).1]
        simp [List.getD, show k < hs.length by omega]
      have hzb := (block_cells hb).2 k
      have HN : Hid (Heading w ws (k + 1) (wr.setCell ⟨w.heap.size + 1, k, none⟩ (.int .u64 (wd ws k)))) := by
        refine ⟨hH.fr.setCell (fun h => absurd h (by simp)) _, ⟨hs.set k (wd ws k), ?_, by simpa using hl, fun j hjk => ?_⟩, ?_⟩
        · rw [heap_setCell_same wr _ k _ _ _ hb]
          simp [headArr, List.map_set]
        · by_cases he : j = k
          · subst he; rw [List.getElem?_set_self (by omega)]
          · rw [List.getElem?_set_ne (by omega)]; exact hj j (by omega)
        · rw [Go.Deep.blk_setCell_other _ _ _ _ (by simp)]; exact hH.res
      obtain ⟨z, hx⟩ : ∃ z, z = wd ws k := ⟨_, rfl⟩
      rw [← hx] at HC HN
      clear hb hj hx hH
      go_wp2_with (refine calls_same HC.out ?_)
      go_roundw
      case rel => exact ⟨k + 1, by omega, by go_num, HN.out⟩
      case measure => simp [intOf]; omega
    · obtain rfl : k = 8 := by omega
      obtain ⟨hs, hb, hl, hj⟩ := hH.blk
      obtain rfl := head_eight hl hj
      obtain ⟨hcc, hzz⟩ := block_cells hb
      obtain ⟨hcr, hzr⟩ := block_cells hH.res
      have hf := hH.fr
      clear hb hj hH hl
      go_wp2
      refine bodyPost_ret (v := headA ws) (by simp [results, Tryz.results111, go_sem, hcr]) rfl ⟨rfl, ?_⟩
      iterate 8 refine Fr.setCell ?_ (fun h => absurd h (by simp)) _
      exact hf
theorem headOf_any (sb so L c : Nat) (ws : List Int) (w : World) (hL : ws.length = L) (h8 : 8 ≤ L) (hcw : ∀ i, i < L → w.cell? ⟨sb, so + i, none⟩ = some (.int .u64 (wd ws i))) :
    Calls Tryz.prog 111 #[rowV (some ⟨sb, so, none⟩) L c] w fun e w' => e = .returned (headA ws) ∧ Fr New w w' := headOf_row _ _ _ _ _ ws w (by omega) (kept_row hL hcw)
end Go.Proofs.YtbagcjlimdilpaaGreat
/- The walk of the document's 'reached': an object is marked just where it is reached. -/
namespace Go.Proofs.YtbagcjlimdilpaaGreat
open Go.RowKit

theorem Tryz.info4 : (Tryz.prog.info? 4).map (fun i => (i.zero, i.size, i.bytes)) = some (some (.bool false), 1, 1) := by kernel_rfl

/-- block g is just those marks -/
def BRow (w : World) (g : Nat) (out : List Bool) : Prop := w.heap[g]? = some (.cells ((out.map Value.bool).toArray) 4 (0, 0))
theorem BRow.cell {w : World} {g : Nat} {out : List Bool} (h : BRow w g out) (k : Nat) (hk : k < out.length) : w.cell? ⟨g, k, none⟩ = some (.bool out[k]) := by
  simp [World.cell?, show w.heap[g]? = _ from h, hk]
theorem BRow.free {w : World} {g : Nat} {out : List Bool} (h : BRow w g out) (k : Nat) : w.frozen? ⟨g, k, none⟩ = false := by
  simp [World.frozen?, show w.heap[g]? = _ from h]
theorem BRow.set {w : World} {g : Nat} {out : List Bool} (h : BRow w g out) (k : Nat) (y : Bool) : BRow (w.setCell ⟨g, k, none⟩ (.bool y)) g (out.set k y) := by
  have := heap_setCell_same w g k _ _ (.bool y) h
  unfold BRow
  rw [this]
  simp [List.map_set]
theorem BRow.ofOwn {w : World} {g base n : Nat} {xs : List Value} {out : List Bool} (h : w.ownsRow base 4 1 (.slice (some ⟨g, 0, none⟩) n n) n xs) (hx : xs = out.map Value.bool) : BRow w g out := by
  rcases h.2 with ⟨h', _⟩ | ⟨g', cap', cur, h', _, hg, _, _, hcs, htk⟩
  · cases h'
  · simp only [Value.slice.injEq, Option.some.injEq, Addr.mk.injEq, and_true, true_and] at h'
    obtain ⟨rfl, rfl⟩ := h'
    unfold BRow
    rw [hg, ← hx, ← htk, List.take_of_length_le (by rw [Array.length_toList, hcs]; exact Nat.le_refl _)]
theorem made_false (n : Nat) : (madeCells (Value.bool false).cells (n * 1)).toList = (List.replicate n false).map Value.bool := by
  rw [Nat.mul_one, List.map_replicate]; exact toList_madeCells_one _ n

/-- what the search keeps in memory -/
structure Mem (w : World) (g : Nat) (out : List Bool) (wr : World) : Prop where
  row : BRow wr g out
  fr : Fr New w wr
theorem Mem.put {w : World} {out : List Bool} {wr : World} (h : Mem w w.heap.size out wr) (k : Nat) : Mem w w.heap.size (out.set k true) (wr.setCell ⟨w.heap.size, k, none⟩ (.bool true)) :=
  ⟨h.row.set k true, h.fr.setCell (fun hlt => absurd hlt (by simp)) _⟩
theorem Mem.grow {w : World} {out : List Bool} {wr w' : World} (h : Mem w w.heap.size out wr) (hf : Fr New wr w') : Mem w w.heap.size out w' := ⟨hf.heap h.row id, h.fr.same hf⟩

/-- the objects lie within the words -/
def Within (ws : List Int) (l : List Ob) : Prop := ∀ o ∈ l, 106 + 8 * (o.block + o.span) ≤ ws.length ∧ o.ptrs < 8 * o.span

set_option maxHeartbeats 2000000 in
set_option maxRecDepth 1000000 in
theorem reached_any (a : Option Addr) (cap : Nat) (ws : List Int) (v : Value) (l : List Ob) (w : World) (hm : ws.length ≤ 1048576) (h7 : 7 ≤ ws.length) (hr : RowU w a ws) (hv : LiesO w v l) (hin : Within ws l) :
    Calls Tryz.prog 149 #[.slice a ws.length cap, v] w fun e w' => ∃ out : List Bool, e = .returned (.slice (some ⟨w.heap.size, 0, none⟩) l.length l.length) ∧ BRow w' w.heap.size out ∧ out.length = l.length ∧ (∀ i, out[i]? = some true ↔ Reach ws l i) ∧ Fr New w w' := by
  have HV : Hid (∀ wr, Fr New w wr → LiesO wr v l) := fun wr hf => hv.fr hf (fun _ _ h => h)
  obtain ⟨av, cv, rfl, hl, hbo, hcl⟩ := hv
  obtain ⟨sb, so, rfl, hsb, hcw⟩ := rowU_plain hr (by omega)
  have HW : Hid (∀ wr, Fr New w wr → ∀ i, i < ws.length → wr.cell? ⟨sb, so + i, none⟩ = some (.int .u64 (wd ws i))) := fun wr hf i hi => hf.cell (hcw i hi) id
  have HC : Hid (0 < l.length → ∃ g, av = some ⟨g, 0, none⟩ ∧ ∀ wr, Fr New w wr → ∀ i (hi : i < l.length), wr.cell? ⟨g, i * 3, none⟩ = some (.int .i64 (l[i]).block) ∧ wr.cell? ⟨g, i * 3 + 1, none⟩ = some (.int .i64 (l[i]).span) ∧ wr.cell? ⟨g, i * 3 + 2, none⟩ = some (.int .i64 (l[i]).ptrs)) := by
    intro hp
    obtain ⟨g, e, _, hc⟩ := hcl hp
    exact ⟨g, e, fun wr hf i hi => ⟨hf.cell (hc i hi).1 id, hf.cell (hc i hi).2.1 id, hf.cell (hc i hi).2.2 id⟩⟩
  have HBO : Hid (∀ o ∈ l, o.block ≤ 1048576 ∧ o.span ≤ 4 ∧ o.ptrs < 32) := hbo
  have HIN : Hid (Within ws l) := hin
  clear hr hcl hcw hbo hin
  obtain ⟨i0, hi, hz0, hz1, hz2⟩ := info_parts Tryz.info4
  go_enter Tryz.func149, Tryz.ntmps149
  go_wp2_with (first
    | (at_make; refine wpList_make_full _ rfl (.tmp 13) (.tmp 13) 124 rfl w.heap.size 4 i0 (.bool false) 1 Tryz.underlying124 hi hz0 hz1 .i64 .i64 _ _ l.length rfl rfl rfl rfl (by rw [hz2]; omega) (by unfold maxLen; omega) (Nat.le_refl _) ?_; intro w1 hown1 hg1; have hm1 : Mem w w.heap.size (List.replicate l.length false) w1 := ⟨BRow.ofOwn hown1 (made_false _), (Fr.refl New w).grownNew hg1⟩; clear hown1 hg1)
    | fail)
  go_loopw [7] (fun t wr => ∃ (r : Nat) (out : List Bool), r ≤ 4 ∧ t = .int .i64 r ∧ Marks ws l r out ∧ Mem w w.heap.size out wr) (fun t _ => 4 - (intOf t).toNat)
  case atStart => exact ⟨0, _, by omega, rfl, marks_none ws l, hm1⟩
  case round =>
    obtain ⟨r, out, hr4, rfl, hM, hmem⟩ := hrel
    clear hm1
    by_cases hr : r < 4
    · have hc := HW.out wr hmem.fr (3 + r) (by omega)
      have hc' : wr.cell? ⟨sb, so + (3 + r), none⟩ = some (.int .u64 (wd ws (3 + r))) := hc
      clear hc
      have HF : Hid (Calls Tryz.prog 130 #[.slice av l.length cv, .int .u64 (wd ws (3 + r))] wr fun e w' => e = .returned (.int .i64 (findI l (wd ws (3 + r)))) ∧ w' = wr) := find_any _ l _ wr (HV.out wr hmem.fr)
      obtain ⟨h, hh⟩ : ∃ h, h = wd ws (3 + r) := ⟨_, rfl⟩
      rw [← hh] at hc' HF
      rcases hx : idx l h with _ | k
      · have hnx := hM.next (fun k hk => by rw [← hh, hx] at hk; cases hk)
        rw [findI_none hx] at HF
        clear hx hh
        go_wp2_with (go_at_call 130; refine calls_same HF.out ?_)
        go_roundw
        case rel => exact ⟨r + 1, out, by omega, by go_num, hnx, hmem⟩
        case measure => simp [intOf]; omega
      · have hk := idx_lt hx
        have hnx := (hM.mark hk (reach_root hr (by rw [← hh]; exact hx))).next (fun k' hk' => by rw [← hh, hx] at hk'; cases hk'; exact (set_true (by rw [hM.len]; exact hk)).2 (.inl rfl))
        rw [findI_some hx] at HF
        have hcl := hmem.row.cell k (by rw [hM.len]; exact hk)
        have hfz := hmem.row.free k
        have hput := hmem.put k
        clear hx hh
        go_wp2_with (go_at_call 130; refine calls_same HF.out ?_)
        go_roundw
        case rel => exact ⟨r + 1, _, by omega, by go_num, hnx, hput⟩
        case measure => simp [intOf]; omega
    · obtain rfl : r = 4 := by omega
      go_wp2
      go_loopg [6] (unmarked out + 1) (fun gh t wr => ∃ (out : List Bool) (m : Bool), t = .bool m ∧ gh = (if m then unmarked out + 1 else 0) ∧ Marks ws l 4 out ∧ (m = false → ∀ i, i < l.length → ∀ p, Spread ws l out i p) ∧ Mem w w.heap.size out wr)
      case atStart => exact ⟨out, true, rfl, rfl, hM, (fun h => by cases h), hmem⟩
      case round =>
        clear hM hmem hr hr4
        obtain ⟨out, m, rfl, rfl, hM, hS, hmem⟩ := hrel
        cases m with
        | false =>
          have hd := hM.done (hS rfl)
          have HD : Hid (∀ i, out[i]? = some true ↔ Reach ws l i) := hd
          have hln := hM.len
          have HLN : Hid (out.length = l.length) := hln
          clear hd hln hS
          go_wp2
          go_ret
          exact ⟨out, rfl, hmem.row, HLN.out, HD.out, hmem.fr⟩
        | true =>
          have hP0 := Pass.start hM
          obtain ⟨U0, hU0⟩ : ∃ U0, U0 = unmarked out := ⟨_, rfl⟩
          rw [← hU0] at hP0
          have HU : Hid (U0 = unmarked out) := hU0
          clear hS hM hU0
          go_wp2
          go_loopg [6, 9] l.length (fun gh t ti wr => ∃ (out : List Bool) (m : Bool) (i : Nat), t = .bool m ∧ ti = .int .i64 i ∧ i ≤ l.length ∧ gh = l.length - i ∧ Pass ws l U0 out m i ∧ Mem w w.heap.size out wr)
          case atStart => exact ⟨out, false, 0, rfl, rfl, by omega, rfl, hP0, hmem⟩
          case round =>
            clear hP0 hmem
            obtain ⟨out', m, i, rfl, rfl, hil, rfl, hP, hmem⟩ := hrel
            by_cases hi : i < l.length
            · obtain ⟨g, rfl, hcells⟩ := HC.out (by omega)
              obtain ⟨hb1, hb2, hb3⟩ := HBO.out l[i] (List.getElem_mem _)
              obtain ⟨hw1, hw2⟩ := HIN.out l[i] (List.getElem_mem _)
              obtain ⟨o, ho⟩ : ∃ o, o = l[i] := ⟨_, rfl⟩
              have HO : Hid (o = l[i]) := ho
              have HCI : Hid (∀ wr, Fr New w wr → wr.cell? ⟨g, i * 3, none⟩ = some (.int .i64 o.block) ∧ wr.cell? ⟨g, i * 3 + 1, none⟩ = some (.int .i64 o.span) ∧ wr.cell? ⟨g, i * 3 + 2, none⟩ = some (.int .i64 o.ptrs)) := by rw [ho]; exact fun wr hf => hcells wr hf i hi
              rw [← ho] at hb1 hb2 hb3 hw1 hw2
              clear ho hcells
              go_wp2
              go_loopg [6, 10] o.ptrs (fun gh t tp wr => ∃ (out : List Bool) (m : Bool) (p : Nat), t = .bool m ∧ tp = .int .i64 p ∧ p ≤ o.ptrs ∧ gh = o.ptrs - p ∧ Pass ws l U0 out m i ∧ (m = false → Spread ws l out i p) ∧ Mem w w.heap.size out wr)
              case atStart => exact ⟨out', m, 0, rfl, rfl, by omega, rfl, hP, fun _ => spread_zero, hmem⟩
              case round =>
                clear hP hmem
                obtain ⟨out, m, p, rfl, rfl, hpp, rfl, hP, hSp, hmem⟩ := hrel
                obtain ⟨e0, e1, e2⟩ := HCI.out wr hmem.fr
                have hio : i < out.length := by rw [hP.marks.len]; exact hi
                have hci := hmem.row.cell i hio
                rcases hoi : out[i] with _ | _
                · rw [hoi] at hci
                  have hnx := hP.next (fun _ p => spread_not (by rw [List.getElem?_eq_getElem hio, hoi]; simp) p)
                  clear hoi hSp hP
                  go_wp2
                  go_roundg (l.length - (i + 1))
                  case measure => omega
                  case rel => exact ⟨out, m, i + 1, rfl, by go_num, by omega, rfl, hnx, hmem⟩
                · rw [hoi] at hci
                  by_cases hp : p < o.ptrs
                  · have hd : decide ((p : Int) < (o.ptrs : Int)) = true := by simp; omega
                    have HPL : Hid (Calls Tryz.prog 129 #[.agg #[.int .i64 o.block, .int .i64 o.span, .int .i64 o.ptrs], .int .i64 p] wr fun e w' => e = .returned (.int .i64 (106 + 8 * (o.block : Int) + 1 + p)) ∧ Fr New wr w') := place_any o p wr hb1 (by omega) (by omega)
                    obtain ⟨h, hh⟩ : ∃ h, h = wd ws (106 + 8 * o.block + 1 + p) := ⟨_, rfl⟩
                    have HCW : Hid (∀ wr, Fr New w wr → wr.cell? ⟨sb, so + (106 + 8 * o.block + 1 + p), none⟩ = some (.int .u64 h)) := by rw [hh]; exact fun wr hf => HW.out wr hf _ (by omega)
                    have HFI : Hid (∀ wr, Fr New w wr → Calls Tryz.prog 130 #[.slice (some ⟨g, 0, none⟩) l.length cv, .int .u64 h] wr fun e w' => e = .returned (.int .i64 (findI l h)) ∧ w' = wr) := fun wr hf => find_any _ l _ wr (HV.out wr hf)
                    have hpl : ∀ (hi' : i < l.length), wd ws (pl l[i] p) = h := fun _ => by rw [← HO.out]; exact hh.symm
                    have HOI : Hid (out[i]? = some true) := (List.getElem?_eq_getElem hio).trans (by rw [hoi])
                    have hpi : p < (l[i]).ptrs := by rw [← HO.out]; exact hp
                    clear hh hoi
                    rcases hx : idx l h with _ | k
                    · have hsp : m = false → Spread ws l out i (p + 1) := fun hm => spread_more (hSp hm) (fun hi' k hk => by rw [hpl hi', hx] at hk; cases hk)
                      have HF2 : Hid (∀ wr, Fr New w wr → Calls Tryz.prog 130 #[.slice (some ⟨g, 0, none⟩) l.length cv, .int .u64 h] wr fun e w' => e = .returned (.int .i64 (-1)) ∧ w' = wr) := by rw [← findI_none hx]; exact HFI.out
                      clear hx hpl hSp HFI hpi
                      go_wp2_with (first
                        | (go_at_call 129; refine HPL.out.mono ?_; rintro e w2 ⟨rfl, hf2⟩; have hm2 := hmem.grow hf2; have hcw := HCW.out w2 hm2.fr)
                        | (go_at_call 130; refine calls_same (HF2.out w2 hm2.fr) ?_)
                        | fail)
                      go_roundg (o.ptrs - (p + 1))
                      case measure => omega
                      case rel => exact ⟨out, m, p + 1, rfl, by go_num, by omega, rfl, hP, hsp, hm2⟩
                    · have hk := idx_lt hx
                      have hko : k < out.length := by rw [hP.marks.len]; exact hk
                      have HF2 : Hid (∀ wr, Fr New w wr → Calls Tryz.prog 130 #[.slice (some ⟨g, 0, none⟩) l.length cv, .int .u64 h] wr fun e w' => e = .returned (.int .i64 k) ∧ w' = wr) := by rw [← findI_some hx]; exact HFI.out
                      rcases hok : out[k] with _ | _
                      · have hP2 := hP.mark hk (reach_step hi (hP.marks.sound i HOI.out) hpi (by rw [hpl hi]; exact hx)) ((List.getElem?_eq_getElem hko).trans (by rw [hok]))
                        have HK : Hid (∀ w2, Fr New wr w2 → w2.cell? ⟨w.heap.size, k, none⟩ = some (.bool false) ∧ w2.frozen? ⟨w.heap.size, k, none⟩ = false) := fun w2 hf => ⟨((hmem.grow hf).row.cell k hko).trans (by rw [hok]), (hmem.grow hf).row.free k⟩
                        clear hx hpl hSp HFI hpi hok
                        go_wp2_with (first
                          | (go_at_call 129; refine HPL.out.mono ?_; rintro e w2 ⟨rfl, hf2⟩; have hm2 := hmem.grow hf2; have hcw := HCW.out w2 hm2.fr; obtain ⟨hck, hfk⟩ := HK.out w2 hf2; have hput := hm2.put k)
                          | (go_at_call 130; refine calls_same (HF2.out w2 hm2.fr) ?_)
                          | fail)
                        go_roundg (o.ptrs - (p + 1))
                        case measure => omega
                        case rel => exact ⟨_, true, p + 1, rfl, by go_num, by omega, rfl, hP2, (fun h => by cases h), hput⟩
                      · have hsp : m = false → Spread ws l out i (p + 1) := fun hm => spread_more (hSp hm) (fun hi' k' hk' => by rw [hpl hi', hx] at hk'; cases hk'; exact (List.getElem?_eq_getElem hko).trans (by rw [hok]))
                        have HK : Hid (∀ w2, Fr New wr w2 → w2.cell? ⟨w.heap.size, k, none⟩ = some (.bool true)) := fun w2 hf => ((hmem.grow hf).row.cell k hko).trans (by rw [hok])
                        clear hx hpl hSp HFI hpi hok
                        go_wp2_with (first
                          | (go_at_call 129; refine HPL.out.mono ?_; rintro e w2 ⟨rfl, hf2⟩; have hm2 := hmem.grow hf2; have hcw := HCW.out w2 hm2.fr; have hck := HK.out w2 hf2)
                          | (go_at_call 130; refine calls_same (HF2.out w2 hm2.fr) ?_)
                          | fail)
                        go_roundg (o.ptrs - (p + 1))
                        case measure => omega
                        case rel => exact ⟨out, m, p + 1, rfl, by go_num, by omega, rfl, hP, hsp, hm2⟩
                  · have hd : decide ((p : Int) < (o.ptrs : Int)) = false := by simp; omega
                    have hnx := hP.next (fun hm p' => spread_all (hSp hm) hi (by rw [← HO.out]; omega) p')
                    clear hoi hSp hP
                    go_wp2
                    go_roundg (l.length - (i + 1))
                    case measure => omega
                    case rel => exact ⟨out, m, i + 1, rfl, by go_num, by omega, rfl, hnx, hmem⟩
            · obtain rfl : i = l.length := by omega
              cases m with
              | true =>
                have hy := hP.yes rfl
                have hM := hP.marks
                rw [HU.out] at hy
                go_wp2
                go_roundg (unmarked out' + 1)
                case measure => simp; omega
                case rel => exact ⟨out', true, rfl, rfl, hM, (fun h => by cases h), hmem⟩
              | false =>
                obtain ⟨hn, hS⟩ := hP.no rfl
                have hM := hP.marks
                go_wp2
                go_roundg 0
                case measure => simp
                case rel => exact ⟨out', false, rfl, rfl, hM, fun _ => hS, hmem⟩
end Go.Proofs.YtbagcjlimdilpaaGreat
