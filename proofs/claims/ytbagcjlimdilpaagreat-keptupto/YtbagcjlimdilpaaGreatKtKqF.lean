/- The walk of copied: a shape of its own. -/
import Derived.Test.YtbagcjlimdilpaaGreatKtJ12
import Derived.Laws.AppendOwnNone
namespace Go.Proofs.YtbagcjlimdilpaaGreat
open Go.RowKit Go.Maps

/-- one thing more, behind the others -/
theorem ThAt.snoc {w w' : World} {v v' : Value} {l : List Th} {us : List Value} (h : ThAt w v l us) (hf : Fr (fun k => v.ownBlock = some k) w w') (x : Th) (u : Value) (hu : Own w.heap.size w' u x.2) (hx : x.2.length = 8 * x.1.span - 1 ∧ 1 ≤ x.1.span ∧ x.1.span ≤ 4 ∧ x.1.ptrs < 8 * x.1.span ∧ x.1.block < 32) (hn : l.length + 1 ≤ 32)
    (ho : w'.ownsRow 0 54 4 v' (l.length + 1) (ktCells l us ++ ktCell x u)) : ThAt w' v' (l ++ [x]) (us ++ [u]) := by
  refine ⟨?_, by simp [h.len], fun i hi hv => ?_, fun y hy => ?_, ?_, by simpa using hn⟩
  · rw [ktCells_app _ _ _ _ h.len, List.length_append]
    simpa [ktCells] using ho
  · by_cases hil : i < l.length
    · have hiu : i < us.length := by rw [h.len]; exact hil
      have e1 : (l ++ [x])[i] = l[i] := List.getElem_append_left hil
      have e2 : (us ++ [u])[i] = us[i] := List.getElem_append_left hiu
      rw [e1, e2]
      refine hf.owns (h.rows i hil hiu) (fun g hg he => ?_)
      obtain ⟨_, c, hc⟩ := own_block (h.rows i hil hiu) hg
      obtain ⟨_, c', hc'⟩ := own_block h.own he
      exact type_ne hc hc' (by decide) rfl
    · obtain rfl : i = l.length := by simp at hi; omega
      have e1 : (l ++ [x])[l.length] = x := by simp
      have e2 : (us ++ [u])[l.length] = u := by simp [← h.len]
      rw [e1, e2]
      exact own_le hu (Nat.zero_le _)
  · rcases List.mem_append.1 hy with hy | hy
    · exact h.fit y hy
    · simp at hy; subst hy; exact hx
  · rw [List.pairwise_append]
    refine ⟨h.apart, by simp, fun a ha b hb e => ?_⟩
    simp at hb
    subst hb
    rcases hu.2 with ⟨rfl, hz⟩ | ⟨g, cap, cur, rfl, hg, _⟩
    · omega
    · have := h.lt (k := g) (.inr ⟨a, ha, by rw [e]; rfl⟩)
      omega
/-- a shape while it is copied -/
structure Copying (w : World) (v : Value) (r0 r1 r2 r3 : Int) (l : List Th) (i : Nat) (v' : Value) (us' : List Value) (wr : World) : Prop where
  s : wr.heap[w.heap.size]? = some (.cells #[v, .int .i64 r0, .int .i64 r1, .int .i64 r2, .int .i64 r3] 37 (0, 0))
  r : wr.heap[w.heap.size + 1]? = some (.cells #[.slice none 0 0, .int .i64 0, .int .i64 0, .int .i64 0, .int .i64 0] 37 (0, 0))
  o : wr.heap[w.heap.size + 2]? = some (.cells #[v', .int .i64 r0, .int .i64 r1, .int .i64 r2, .int .i64 r3] 37 (0, 0))
  t : ThAt wr v' (l.take i) us'
  n : ∀ k, ThB v' us' k → w.heap.size ≤ k
  f : Fr New w wr
theorem three_at (w : World) (a b c : Obj) : (((w.alloc a).alloc b).alloc c).heap[w.heap.size]? = some a ∧ (((w.alloc a).alloc b).alloc c).heap[w.heap.size + 1]? = some b ∧ (((w.alloc a).alloc b).alloc c).heap[w.heap.size + 2]? = some c := by
  have h1 : (w.alloc a).heap[w.heap.size]? = some a := Go.Deep.blk_alloc_new w a
  have h2 : ((w.alloc a).alloc b).heap[w.heap.size + 1]? = some b := by have := Go.Deep.blk_alloc_new (w.alloc a) b; simpa using this
  have h3 : (((w.alloc a).alloc b).alloc c).heap[w.heap.size + 2]? = some c := by have := Go.Deep.blk_alloc_new ((w.alloc a).alloc b) c; simpa using this
  have f2 : Fr New (w.alloc a) ((w.alloc a).alloc b) := (Fr.refl _ _).alloc _
  have f3 : Fr New ((w.alloc a).alloc b) (((w.alloc a).alloc b).alloc c) := (Fr.refl _ _).alloc _
  exact ⟨f3.heap (f2.heap h1 id) id, f3.heap h2 id, h3⟩

theorem own_ge {w : World} {B B' : Nat} {v : Value} {n : Nat} {xs : List Value} {e : TypeId} {sz : Nat} (h : w.ownsRow B e sz v n xs) (hb : ∀ k, v.ownBlock = some k → B' ≤ k) : w.ownsRow B' e sz v n xs :=
  ⟨h.1, h.2.imp id (fun ⟨g, cap, cur, e, _, r⟩ => ⟨g, cap, cur, e, hb g (by rw [e]; rfl), r⟩)⟩
theorem empty_row (wr : World) (o : Obj) : ((wr.alloc o).alloc (.cells #[] 50)).ownsRow (wr.heap.size + 1) 50 1 (.slice (some ⟨wr.heap.size + 1, 0, none⟩) 0 0) 0 [] := by
  have := World.ownsRow_made (base := wr.heap.size + 1) (e := 50) (size := 1) (wr.alloc o) #[] 0 (by simp) (by decide) (by simp)
  simpa using this
theorem Copying.step {w wr w5 w7 : World} {v v' v4 v7 : Value} {r0 r1 r2 r3 : Int} {l : List Th} {i : Nat} {us' : List Value} (h : Copying w v r0 r1 r2 r3 l i v' us' wr) (hi : i < l.length) (hn : l.length ≤ 32) (hfit : (l[i]).2.length = 8 * (l[i]).1.span - 1 ∧ 1 ≤ (l[i]).1.span ∧ (l[i]).1.span ≤ 4 ∧ (l[i]).1.ptrs < 8 * (l[i]).1.span ∧ (l[i]).1.block < 32)
    (hf5 : Fr New wr w5) (hu : Own wr.heap.size w5 v4 (l[i]).2) (hg7 : w5.grownBy w7 v'.ownBlock) (ho7 : w7.ownsRow w.heap.size 54 4 v7 (i + 1) (ktCells (l.take i) us' ++ ktCell l[i] v4)) :
    Copying w v r0 r1 r2 r3 l (i + 1) v7 (us' ++ [v4]) (w7.setCell ⟨w.heap.size + 2, 0, none⟩ v7) := by
  have h7 : Fr (fun k => v'.ownBlock = some k) w5 w7 := (Fr.refl _ _).grown hg7 (fun k _ hk => hk)
  have h75 : Fr (fun k => v'.ownBlock = some k) wr w7 := (hf5.mono (fun _ _ h => h.elim)).trans h7 (fun _ _ h => h)
  have hne : ∀ k c, wr.heap[k]? = some (.cells c 37 (0, 0)) → ¬ v'.ownBlock = some k := fun k c hk hv => by
    obtain ⟨_, c', hc⟩ := own_block h.t.own hv
    exact type_ne hk hc (by decide) rfl
  have s7 := h75.heap h.s (hne _ _ h.s)
  have r7 := h75.heap h.r (hne _ _ h.r)
  have o7 := h75.heap h.o (hne _ _ h.o)
  have hst : Fr (fun k => k = w.heap.size + 2) w7 (w7.setCell ⟨w.heap.size + 2, 0, none⟩ v7) := (Fr.refl (fun k => k = w.heap.size + 2) w7).setCell (p := ⟨w.heap.size + 2, 0, none⟩) (fun _ => rfl) _
  have hli : (l.take i).length = i := by simp; omega
  have hu7 : Own wr.heap.size w7 v4 (l[i]).2 := h7.owns hu (fun g hg he => by
    obtain ⟨_, c, hc⟩ := own_block hu hg
    obtain ⟨_, c', hc'⟩ := own_block (h.t.new hf5).own he
    exact type_ne hc hc' (by decide) rfl)
  have T7 : ThAt w7 v7 (l.take (i + 1)) (us' ++ [v4]) := by
    rw [List.take_succ_eq_append_getElem hi]
    refine h.t.snoc h75 l[i] v4 hu7 hfit (by rw [hli]; omega) (by rw [hli]; exact own_le ho7 (Nat.zero_le _))
  refine ⟨hst.heap s7 (by simp), hst.heap r7 (by simp), ?_, ?_, fun k hk => ?_, ?_⟩
  · rw [heap_setCell_same _ _ 0 _ _ _ o7]
    rfl
  · exact T7.fr hst (fun k hk e => by subst e; exact T7.no o7 (by decide) (by decide) hk)
  · rcases hk with hk | ⟨u, hu', hk⟩
    · exact (own_block ho7 hk).1
    · rcases List.mem_append.1 hu' with hu' | hu'
      · exact h.n k (.inr ⟨u, hu', hk⟩)
      · simp at hu'
        subst hu'
        have := (own_block hu7 hk).1
        have := h.f.size
        omega
  · refine ((h.f).trans h75 (fun j hj hv => ?_)).trans hst (fun j hj e => by omega)
    have := h.n j (.inl hv)
    omega

set_option maxHeartbeats 2000000 in
set_option maxRecDepth 100000 in
theorem kcopied_any (v : Value) (l : List Th) (us : List Value) (r0 r1 r2 r3 : Int) (w : World) (ht : ThAt w v l us) :
    Calls Tryz.prog 29 #[shV v r0 r1 r2 r3] w fun e w' => ∃ v' us', e = .returned (shV v' r0 r1 r2 r3) ∧ ThAt w' v' l us' ∧ (∀ k, ThB v' us' k → w.heap.size ≤ k) ∧ Fr New w w' := by
  obtain ⟨i0, hi0, hz0, hz1, hz2⟩ := info_parts Tryz.info50
  obtain ⟨i1, hi1, hy0, hy1, hy2⟩ := info_parts Tryz.info54
  have HT : Hid (∀ wr, Fr New w wr → ThAt wr v l us) := fun wr hf => ht.new hf
  have hl32 := ht.n
  have HFIT : Hid (∀ x ∈ l, x.2.length = 8 * x.1.span - 1 ∧ 1 ≤ x.1.span ∧ x.1.span ≤ 4 ∧ x.1.ptrs < 8 * x.1.span ∧ x.1.block < 32) := ht.fit
  obtain ⟨av, cv, rfl⟩ := ht.slice
  clear ht
  go_enter Tryz.func29, Tryz.ntmps29
  go_wp2
  have HST : Hid (Copying w (.slice av l.length cv) r0 r1 r2 r3 l 0 (.slice none 0 0) [] (((w.alloc (.cells #[.slice av l.length cv, .int .i64 r0, .int .i64 r1, .int .i64 r2, .int .i64 r3] 37)).alloc (.cells #[.slice none 0 0, .int .i64 0, .int .i64 0, .int .i64 0, .int .i64 0] 37)).alloc (.cells #[.slice none 0 0, .int .i64 r0, .int .i64 r1, .int .i64 r2, .int .i64 r3] 37))) := by
    obtain ⟨q1, q2, q3⟩ := three_at w (.cells #[.slice av l.length cv, .int .i64 r0, .int .i64 r1, .int .i64 r2, .int .i64 r3] 37) (.cells #[.slice none 0 0, .int .i64 0, .int .i64 0, .int .i64 0, .int .i64 0] 37) (.cells #[.slice none 0 0, .int .i64 r0, .int .i64 r1, .int .i64 r2, .int .i64 r3] 37)
    refine ⟨q1, q2, q3, by rw [List.take_zero]; exact thAt_nil _, fun k hk => ?_, (((Fr.refl New w).alloc _).alloc _).alloc _⟩
    rcases hk with hk | ⟨u, hu, _⟩
    · cases hk
    · cases hu
  go_loopg [4] l.length (fun gh vi wr => ∃ (i : Nat) (v' : Value) (us' : List Value), i ≤ l.length ∧ gh = l.length - i ∧ vi = .int .i64 (i : Int) ∧ Copying w (.slice av l.length cv) r0 r1 r2 r3 l i v' us' wr)
  case atStart => exact ⟨0, _, _, by omega, rfl, rfl, HST.out⟩
  case round =>
    clear HST
    obtain ⟨i, v', us', hil, rfl, rfl, hC⟩ := hrel
    have hsw : wr.cell? ⟨w.heap.size, 0, none⟩ = some (.slice av l.length cv) := ((block_cells hC.s).1 0).trans rfl
    by_cases hi : i < l.length
    · have hd0 : decide ((i : Int) < (l.length : Int)) = true := by simp; omega
      obtain ⟨g2, cg2, gi2, ci2, hv2, hg2, d0, d1, d2, d3, hr2, _, _, hgi2⟩ := (HT.out wr hC.f).at' i hi
      cases hv2
      have hfi := HFIT.out l[i] (List.getElem_mem _)
      have HNW : Hid (∀ w', Fr New wr w' → ∀ j u, ((l[i]).2.map (Value.int .u64))[j]? = some u → w'.cell? ((⟨gi2, 0, none⟩ : Addr).add j) = some u) := fun w' hf => by
        obtain ⟨ad, e, h⟩ := news_row (rowU_fr hf hr2 (fun _ _ h => h)) (by simp; omega)
        cases e
        exact h
      have HSTP : Hid (∀ w5 v4 w7 v7, Fr New wr w5 → Own wr.heap.size w5 v4 (l[i]).2 → w5.grownBy w7 v'.ownBlock → w7.ownsRow w.heap.size 54 4 v7 (i + 1) (ktCells (l.take i) us' ++ ktCell l[i] v4) → Copying w (.slice (some ⟨g2, 0, none⟩) l.length cv) r0 r1 r2 r3 l (i + 1) v7 (us' ++ [v4]) (w7.setCell ⟨w.heap.size + 2, 0, none⟩ v7)) := fun w5 v4 w7 v7 f5 u5 g7 o7 => hC.step hi hl32 hfi f5 u5 g7 o7
      have HOV : Hid (∀ w5, Fr New wr w5 → w5.ownsRow w.heap.size 54 4 v' i (ktCells (l.take i) us')) := fun w5 f5 => by
        have := own_ge (f5.owns hC.t.own (fun _ _ h => h)) (B' := w.heap.size) (fun k hk => hC.n k (.inl hk))
        rwa [show (l.take i).length = i by simp; omega] at this
      have hlt2 : w.heap.size + 2 < wr.heap.size := lt_of_block hC.o
      have HOC : Hid (∀ w5, Fr New wr w5 → w5.cell? ⟨w.heap.size + 2, 0, none⟩ = some v' ∧ w5.frozen? ⟨w.heap.size + 2, 0, none⟩ = false) := fun w5 f5 => ⟨((block_cells (f5.heap hC.o id)).1 0).trans rfl, (block_cells (f5.heap hC.o id)).2 0⟩
      have HO7 : Hid (∀ w5 w7, Fr New wr w5 → w5.grownBy w7 v'.ownBlock → w7.cell? ⟨w.heap.size + 2, 0, none⟩ = some v' ∧ w7.frozen? ⟨w.heap.size + 2, 0, none⟩ = false) := fun w5 w7 f5 g7 => by
        have h7 : Fr (fun k => v'.ownBlock = some k) w5 w7 := (Fr.refl _ _).grown g7 (fun k _ hk => hk)
        have := h7.heap (f5.heap hC.o id) (fun hv => by
          obtain ⟨_, c', hc⟩ := own_block hC.t.own hv
          exact type_ne hC.o hc (by decide) rfl)
        exact ⟨((block_cells this).1 0).trans rfl, (block_cells this).2 0⟩
      obtain ⟨x, hx⟩ : ∃ x, x = l[i] := ⟨_, rfl⟩
      rw [← hx] at d0 d1 d2 d3 hfi HNW HSTP
      have hov := HOV.out wr (Fr.refl _ _)
      obtain ⟨a3, c3, rfl⟩ := own_slice hov
      clear hx hr2 hC hov
      obtain ⟨⟨xb, xs, xp⟩, xw⟩ := x
      simp only at d0 d1 d2 d3 hfi HNW HSTP
      obtain ⟨hf1, hx1, hx4, hxp, hx32⟩ := hfi
      obtain ⟨B, hB⟩ : ∃ B : Nat, B = xb + 1 := ⟨_, rfl⟩
      rw [← hB] at d0
      have HBB : Hid (B = xb + 1) := hB
      obtain ⟨m, hm⟩ : ∃ m : Nat, m = xw.length := ⟨_, rfl⟩
      rw [← hm] at d3
      have HM : Hid (m = xw.length) := hm
      have hm31 : m ≤ 31 := by omega
      have hB32 : B ≤ 32 := by omega
      clear hB hm hf1
      go_wp2_with (first
        | (at_builtin; refine wpList_append_own_at _ rfl (.tmp 21) (.tmp 23) 43 rfl (wr.heap.size + 1) 50 i0 (.int .u64 0) 1 8 Tryz.underlying43 hi0 hz0 hz1 hz2 rfl (by decide) _ _ _ rfl (empty_row wr _) ⟨gi2, 0, none⟩ m ci2 (xw.map (Value.int .u64)) rfl (by simp [HM.out]) (HNW.out _ (((Fr.refl New wr).alloc _).alloc _)) (ints_oneU _) (by unfold maxLen; omega) (by omega) (by simp) ?_; intro v4 w4 ho4 hg4 _ _; rw [Nat.zero_add] at ho4; have hT4 : Fr (fun k => k = wr.heap.size + 1) ((wr.alloc (.cells #[.int .i64 (B : Int), .int .i64 (xs : Int), .int .i64 (xp : Int), .slice (some ⟨gi2, 0, none⟩) m ci2] 54)).alloc (.cells #[] 50)) w4 := (Fr.refl _ _).grown hg4 (fun k _ e => (Option.some.inj e).symm); have hf4 : Fr New wr w4 := (((Fr.refl New wr).alloc _).alloc _).trans hT4 (fun j hj e => by omega); have gt4 : w4.heap[wr.heap.size]? = some (.cells #[.int .i64 (B : Int), .int .i64 (xs : Int), .int .i64 (xp : Int), .slice (some ⟨gi2, 0, none⟩) m ci2] 54 (0, 0)) := (hT4.heap (((Fr.refl New _).alloc _).heap (Go.Deep.blk_alloc_new wr _) id) (by simp)); obtain ⟨a4, c4, rfl⟩ := own_slice ho4; obtain ⟨q4, z4⟩ := block_cells gt4; have e0 : w4.cell? ⟨wr.heap.size, 0, none⟩ = some (.int .i64 (B : Int)) := (q4 0).trans rfl; have e1 : w4.cell? ⟨wr.heap.size, 1, none⟩ = some (.int .i64 (xs : Int)) := (q4 1).trans rfl; have e2 : w4.cell? ⟨wr.heap.size, 2, none⟩ = some (.int .i64 (xp : Int)) := (q4 2).trans rfl; have e3 : w4.cell? ⟨wr.heap.size, 3, none⟩ = some (.slice (some ⟨gi2, 0, none⟩) m ci2) := (q4 3).trans rfl; have z3 := z4 3; obtain ⟨k0, k1⟩ := HOC.out w4 hf4; have hlt4 : wr.heap.size < w4.heap.size := lt_of_block gt4; clear q4 z4; have hfs : Fr (fun k => k = wr.heap.size) w4 (w4.setCell ⟨wr.heap.size, 3, none⟩ (.slice a4 m c4)) := (Fr.refl (fun k => k = wr.heap.size) w4).setCell (p := ⟨wr.heap.size, 3, none⟩) (fun _ => rfl) _; have hf5 : Fr New wr (w4.setCell ⟨wr.heap.size, 3, none⟩ (.slice a4 m c4)) := hf4.trans hfs (fun j hj e => by omega); have hz5 : (w4.setCell ⟨wr.heap.size, 3, none⟩ (.slice a4 m c4)).heap.size = w4.heap.size := World.size_setCell _ _ _; have ho5 : Own wr.heap.size (w4.setCell ⟨wr.heap.size, 3, none⟩ (.slice a4 m c4)) (.slice a4 m c4) xw := own_le (hfs.owns (by simpa [HM.out] using ho4) (fun g hg he => by obtain ⟨_, c, hc⟩ := own_block ho4 hg; exact type_ne hc gt4 (by decide) he)) (Nat.le_succ _))
        | (at_builtin; refine wpList_append_own_at _ rfl (.tmp 27) (.tmp 29) 34 rfl w.heap.size 54 i1 _ 4 48 Tryz.underlying34 hi1 hy0 hy1 hy2 rfl (by decide) _ _ _ rfl ((HOV.out _ hf5).alloc _) ⟨w4.heap.size, 0, none⟩ 1 1 [.int .i64 (B : Int), .int .i64 (xs : Int), .int .i64 (xp : Int), .slice a4 m c4] rfl rfl (World.news_of_block (new_at _ _ _ hz5)) (by intro u hu; simp at hu; rcases hu with rfl | rfl | rfl | rfl <;> rfl) (by unfold maxLen; omega) (by omega) (by simp; omega) ?_; intro v7 w7 ho7 hg7 _ _; obtain ⟨k7, z7⟩ := HO7.out _ w7 (hf5.alloc _) hg7; have hlt7 : w.heap.size + 2 < w7.heap.size := World.block_lt_of_cell? w7 _ k7; obtain ⟨a7, c7, rfl⟩ := own_slice ho7)
        | fail)
      go_roundg (l.length - (i + 1))
      case measure => omega
      case rel =>
        refine ⟨i + 1, _, _, by omega, rfl, by go_num, HSTP.out _ (.slice a4 m c4) w7 _ (hf5.alloc _) (ho5.alloc _) hg7 ?_⟩
        rw [HBB.out] at ho7
        exact ho7
    · obtain rfl : i = l.length := by omega
      have hd0 : decide ((l.length : Int) < (l.length : Int)) = false := by simp
      have hT := hC.t
      rw [List.take_length] at hT
      obtain ⟨a3, c3, rfl⟩ := hT.slice
      obtain ⟨hcr, hzr⟩ := block_cells hC.r
      obtain ⟨hco, _⟩ := block_cells hC.o
      have o0 : wr.cell? ⟨w.heap.size + 2, 0, none⟩ = some (.slice a3 l.length c3) := (hco 0).trans rfl
      have o1 : wr.cell? ⟨w.heap.size + 2, 1, none⟩ = some (.int .i64 r0) := (hco 1).trans rfl
      have o2 : wr.cell? ⟨w.heap.size + 2, 2, none⟩ = some (.int .i64 r1) := (hco 2).trans rfl
      have o3 : wr.cell? ⟨w.heap.size + 2, 3, none⟩ = some (.int .i64 r2) := (hco 3).trans rfl
      have o4 : wr.cell? ⟨w.heap.size + 2, 4, none⟩ = some (.int .i64 r3) := (hco 4).trans rfl
      have HC' := hC
      clear hC hco
      go_wp2
      refine bodyPost_ret (v := shV (.slice a3 l.length c3) r0 r1 r2 r3) (by simp [results, Tryz.results29, go_sem, hcr]) rfl ⟨_, us', rfl, ?_, HC'.n, ?_⟩
      · have hb : Fr (fun k => k = w.heap.size + 1) wr (((((wr.setCell ⟨w.heap.size + 1, 0, none⟩ (.slice a3 l.length c3)).setCell ⟨w.heap.size + 1, 1, none⟩ (.int .i64 r0)).setCell ⟨w.heap.size + 1, 2, none⟩ (.int .i64 r1)).setCell ⟨w.heap.size + 1, 3, none⟩ (.int .i64 r2)).setCell ⟨w.heap.size + 1, 4, none⟩ (.int .i64 r3)) := by
          iterate 5 refine Fr.setCell (T := fun k => k = w.heap.size + 1) ?_ (fun _ => rfl) _
          exact Fr.refl _ _
        exact hT.fr hb (fun k hk e => by subst e; exact hT.no HC'.r (by decide) (by decide) hk)
      · iterate 5 refine Fr.setCell ?_ (fun h => absurd h (by simp)) _
        exact HC'.f
end Go.Proofs.YtbagcjlimdilpaaGreat
