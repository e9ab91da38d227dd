/- Texts that follow one another, joined. -/
import Derived.Test.YtbagcjlimdilpabGreatKtJ16
import Derived.Laws.AppendOwnNone
import Derived.Test.YtbagcjlimdilpabGreatKtKqD
/- The walk of copied: a shape of its own. -/
namespace Go.Proofs.YtbagcjlimdilpabGreat
open Go.RowKit Go.Maps

/-- one thing more, behind the others -/
theorem ThAt.snoc {w w' : World} {v v' : Value} {l : List Th} {us : List Value} (h : ThAt w v l us) (hf : Fr (fun k => v.ownBlock = some k) w w') (x : Th) (u : Value) (hu : Own w.heap.size w' u x.2) (hx : x.2.length = 8 * x.1.span - 1 ∧ 1 ≤ x.1.span ∧ x.1.span ≤ 4 ∧ x.1.ptrs < 8 * x.1.span ∧ x.1.block < 32) (hn : l.length + 1 ≤ 32)
    (ho : w'.ownsRow 0 53 4 v' (l.length + 1) (ktCells l us ++ ktCell x u)) : ThAt w' v' (l ++ [x]) (us ++ [u]) := by
  refine ⟨?_, by simp [h.len], fun i hi hv => ?_, fun y hy => ?_, ?_, by simpa using hn⟩
  · rw [ktCells_app _ _ _ _ h.len, List.length_append]
    simpa [ktCells] using ho
  · by_cases hil : i < l.length
    · have hiu : i < us.length := by rw [h.len]; exact hil
      have e1 : (l ++ [x])[i] = l[i] := List.getElem_append_left hil
      have e2 : (us ++ [u])[i] = us[i] := List.getElem_append_left hiu
      rw [e1, e2]
      refine hf.owns (h.rows i hil hiu) (fun g hg he => ?_)
      obtain ⟨_, c, hc⟩ := own_block (h.rows i hil hiu) hg
      obtain ⟨_, c', hc'⟩ := own_block h.own he
      exact type_ne hc hc' (by decide) rfl
    · obtain rfl : i = l.length := by simp at hi; omega
      have e1 : (l ++ [x])[l.length] = x := by simp
      have e2 : (us ++ [u])[l.length] = u := by simp [← h.len]
      rw [e1, e2]
      exact own_le hu (Nat.zero_le _)
  · rcases List.mem_append.1 hy with hy | hy
    · exact h.fit y hy
    · simp at hy; subst hy; exact hx
  · rw [List.pairwise_append]
    refine ⟨h.apart, by simp, fun a ha b hb e => ?_⟩
    simp at hb
    subst hb
    rcases hu.2 with ⟨rfl, hz⟩ | ⟨g, cap, cur, rfl, hg, _⟩
    · omega
    · have := h.lt (k := g) (.inr ⟨a, ha, by rw [e]; rfl⟩)
      omega
/-- a shape while it is copied -/
structure Copying (w : World) (v : Value) (r0 r1 r2 r3 : Int) (l : List Th) (i : Nat) (v' : Value) (us' : List Value) (wr : World) : Prop where
  s : wr.heap[w.heap.size]? = some (.cells #[v, .int .i64 r0, .int .i64 r1, .int .i64 r2, .int .i64 r3] 32 (0, 0))
  r : wr.heap[w.heap.size + 1]? = some (.cells #[.slice none 0 0, .int .i64 0, .int .i64 0, .int .i64 0, .int .i64 0] 32 (0, 0))
  o : wr.heap[w.heap.size + 2]? = some (.cells #[v', .int .i64 r0, .int .i64 r1, .int .i64 r2, .int .i64 r3] 32 (0, 0))
  t : ThAt wr v' (l.take i) us'
  n : ∀ k, ThB v' us' k → w.heap.size ≤ k
  f : Fr New w wr
theorem three_at (w : World) (a b c : Obj) : (((w.alloc a).alloc b).alloc c).heap[w.heap.size]? = some a ∧ (((w.alloc a).alloc b).alloc c).heap[w.heap.size + 1]? = some b ∧ (((w.alloc a).alloc b).alloc c).heap[w.heap.size + 2]? = some c := by
  have h1 : (w.alloc a).heap[w.heap.size]? = some a := Go.Deep.blk_alloc_new w a
  have h2 : ((w.alloc a).alloc b).heap[w.heap.size + 1]? = some b := by have := Go.Deep.blk_alloc_new (w.alloc a) b; simpa using this
  have h3 : (((w.alloc a).alloc b).alloc c).heap[w.heap.size + 2]? = some c := by have := Go.Deep.blk_alloc_new ((w.alloc a).alloc b) c; simpa using this
  have f2 : Fr New (w.alloc a) ((w.alloc a).alloc b) := (Fr.refl _ _).alloc _
  have f3 : Fr New ((w.alloc a).alloc b) (((w.alloc a).alloc b).alloc c) := (Fr.refl _ _).alloc _
  exact ⟨f3.heap (f2.heap h1 id) id, f3.heap h2 id, h3⟩

theorem own_ge {w : World} {B B' : Nat} {v : Value} {n : Nat} {xs : List Value} {e : TypeId} {sz : Nat} (h : w.ownsRow B e sz v n xs) (hb : ∀ k, v.ownBlock = some k → B' ≤ k) : w.ownsRow B' e sz v n xs :=
  ⟨h.1, h.2.imp id (fun ⟨g, cap, cur, e, _, r⟩ => ⟨g, cap, cur, e, hb g (by rw [e]; rfl), r⟩)⟩
theorem empty_row (wr : World) (o : Obj) : ((wr.alloc o).alloc (.cells #[] 41)).ownsRow (wr.heap.size + 1) 41 1 (.slice (some ⟨wr.heap.size + 1, 0, none⟩) 0 0) 0 [] := by
  have := World.ownsRow_made (base := wr.heap.size + 1) (e := 41) (size := 1) (wr.alloc o) #[] 0 (by simp) (by decide) (by simp)
  simpa using this
theorem Copying.step {w wr w5 w7 : World} {v v' v4 v7 : Value} {r0 r1 r2 r3 : Int} {l : List Th} {i : Nat} {us' : List Value} (h : Copying w v r0 r1 r2 r3 l i v' us' wr) (hi : i < l.length) (hn : l.length ≤ 32) (hfit : (l[i]).2.length = 8 * (l[i]).1.span - 1 ∧ 1 ≤ (l[i]).1.span ∧ (l[i]).1.span ≤ 4 ∧ (l[i]).1.ptrs < 8 * (l[i]).1.span ∧ (l[i]).1.block < 32)
    (hf5 : Fr New wr w5) (hu : Own wr.heap.size w5 v4 (l[i]).2) (hg7 : w5.grownBy w7 v'.ownBlock) (ho7 : w7.ownsRow w.heap.size 53 4 v7 (i + 1) (ktCells (l.take i) us' ++ ktCell l[i] v4)) :
    Copying w v r0 r1 r2 r3 l (i + 1) v7 (us' ++ [v4]) (w7.setCell ⟨w.heap.size + 2, 0, none⟩ v7) := by
  have h7 : Fr (fun k => v'.ownBlock = some k) w5 w7 := (Fr.refl _ _).grown hg7 (fun k _ hk => hk)
  have h75 : Fr (fun k => v'.ownBlock = some k) wr w7 := (hf5.mono (fun _ _ h => h.elim)).trans h7 (fun _ _ h => h)
  have hne : ∀ k c, wr.heap[k]? = some (.cells c 32 (0, 0)) → ¬ v'.ownBlock = some k := fun k c hk hv => by
    obtain ⟨_, c', hc⟩ := own_block h.t.own hv
    exact type_ne hk hc (by decide) rfl
  have s7 := h75.heap h.s (hne _ _ h.s)
  have r7 := h75.heap h.r (hne _ _ h.r)
  have o7 := h75.heap h.o (hne _ _ h.o)
  have hst : Fr (fun k => k = w.heap.size + 2) w7 (w7.setCell ⟨w.heap.size + 2, 0, none⟩ v7) := (Fr.refl (fun k => k = w.heap.size + 2) w7).setCell (p := ⟨w.heap.size + 2, 0, none⟩) (fun _ => rfl) _
  have hli : (l.take i).length = i := by simp; omega
  have hu7 : Own wr.heap.size w7 v4 (l[i]).2 := h7.owns hu (fun g hg he => by
    obtain ⟨_, c, hc⟩ := own_block hu hg
    obtain ⟨_, c', hc'⟩ := own_block (h.t.new hf5).own he
    exact type_ne hc hc' (by decide) rfl)
  have T7 : ThAt w7 v7 (l.take (i + 1)) (us' ++ [v4]) := by
    rw [List.take_succ_eq_append_getElem hi]
    refine h.t.snoc h75 l[i] v4 hu7 hfit (by rw [hli]; omega) (by rw [hli]; exact own_le ho7 (Nat.zero_le _))
  refine ⟨hst.heap s7 (by simp), hst.heap r7 (by simp), ?_, ?_, fun k hk => ?_, ?_⟩
  · rw [heap_setCell_same _ _ 0 _ _ _ o7]
    rfl
  · exact T7.fr hst (fun k hk e => by subst e; exact T7.no o7 (by decide) (by decide) hk)
  · rcases hk with hk | ⟨u, hu', hk⟩
    · exact (own_block ho7 hk).1
    · rcases List.mem_append.1 hu' with hu' | hu'
      · exact h.n k (.inr ⟨u, hu', hk⟩)
      · simp at hu'
        subst hu'
        have := (own_block hu7 hk).1
        have := h.f.size
        omega
  · refine ((h.f).trans h75 (fun j hj hv => ?_)).trans hst (fun j hj e => by omega)
    have := h.n j (.inl hv)
    omega

set_option maxHeartbeats 2000000 in
set_option maxRecDepth 100000 in
theorem kcopied_any (v : Value) (l : List Th) (us : List Value) (r0 r1 r2 r3 : Int) (w : World) (ht : ThAt w v l us) :
    Calls Tryz.prog 21 #[shV v r0 r1 r2 r3] w fun e w' => ∃ v' us', e = .returned (shV v' r0 r1 r2 r3) ∧ ThAt w' v' l us' ∧ (∀ k, ThB v' us' k → w.heap.size ≤ k) ∧ Fr New w w' := by
  obtain ⟨i0, hi0, hz0, hz1, hz2⟩ := info_parts Tryz.info41
  obtain ⟨i1, hi1, hy0, hy1, hy2⟩ := info_parts Tryz.info53
  have HT : Hid (∀ wr, Fr New w wr → ThAt wr v l us) := fun wr hf => ht.new hf
  have hl32 := ht.n
  have HFIT : Hid (∀ x ∈ l, x.2.length = 8 * x.1.span - 1 ∧ 1 ≤ x.1.span ∧ x.1.span ≤ 4 ∧ x.1.ptrs < 8 * x.1.span ∧ x.1.block < 32) := ht.fit
  obtain ⟨av, cv, rfl⟩ := ht.slice
  clear ht
  go_enter Tryz.func21, Tryz.ntmps21
  go_wp2
  have HST : Hid (Copying w (.slice av l.length cv) r0 r1 r2 r3 l 0 (.slice none 0 0) [] (((w.alloc (.cells #[.slice av l.length cv, .int .i64 r0, .int .i64 r1, .int .i64 r2, .int .i64 r3] 32)).alloc (.cells #[.slice none 0 0, .int .i64 0, .int .i64 0, .int .i64 0, .int .i64 0] 32)).alloc (.cells #[.slice none 0 0, .int .i64 r0, .int .i64 r1, .int .i64 r2, .int .i64 r3] 32))) := by
    obtain ⟨q1, q2, q3⟩ := three_at w (.cells #[.slice av l.length cv, .int .i64 r0, .int .i64 r1, .int .i64 r2, .int .i64 r3] 32) (.cells #[.slice none 0 0, .int .i64 0, .int .i64 0, .int .i64 0, .int .i64 0] 32) (.cells #[.slice none 0 0, .int .i64 r0, .int .i64 r1, .int .i64 r2, .int .i64 r3] 32)
    refine ⟨q1, q2, q3, by rw [List.take_zero]; exact thAt_nil _, fun k hk => ?_, (((Fr.refl New w).alloc _).alloc _).alloc _⟩
    rcases hk with hk | ⟨u, hu, _⟩
    · cases hk
    · cases hu
  go_loopg [4] l.length (fun gh vi wr => ∃ (i : Nat) (v' : Value) (us' : List Value), i ≤ l.length ∧ gh = l.length - i ∧ vi = .int .i64 (i : Int) ∧ Copying w (.slice av l.length cv) r0 r1 r2 r3 l i v' us' wr)
  case atStart => exact ⟨0, _, _, by omega, rfl, rfl, HST.out⟩
  case round =>
    clear HST
    obtain ⟨i, v', us', hil, rfl, rfl, hC⟩ := hrel
    have hsw : wr.cell? ⟨w.heap.size, 0, none⟩ = some (.slice av l.length cv) := ((block_cells hC.s).1 0).trans rfl
    by_cases hi : i < l.length
    · have hd0 : decide ((i : Int) < (l.length : Int)) = true := by simp; omega
      obtain ⟨g2, cg2, gi2, ci2, hv2, hg2, d0, d1, d2, d3, hr2, _, _, hgi2⟩ := (HT.out wr hC.f).at' i hi
      cases hv2
      have hfi := HFIT.out l[i] (List.getElem_mem _)
      have HNW : Hid (∀ w', Fr New wr w' → ∀ j u, ((l[i]).2.map (Value.int .u64))[j]? = some u → w'.cell? ((⟨gi2, 0, none⟩ : Addr).add j) = some u) := fun w' hf => by
        obtain ⟨ad, e, h⟩ := news_row (rowU_fr hf hr2 (fun _ _ h => h)) (by simp; omega)
        cases e
        exact h
      have HSTP : Hid (∀ w5 v4 w7 v7, Fr New wr w5 → Own wr.heap.size w5 v4 (l[i]).2 → w5.grownBy w7 v'.ownBlock → w7.ownsRow w.heap.size 53 4 v7 (i + 1) (ktCells (l.take i) us' ++ ktCell l[i] v4) → Copying w (.slice (some ⟨g2, 0, none⟩) l.length cv) r0 r1 r2 r3 l (i + 1) v7 (us' ++ [v4]) (w7.setCell ⟨w.heap.size + 2, 0, none⟩ v7)) := fun w5 v4 w7 v7 f5 u5 g7 o7 => hC.step hi hl32 hfi f5 u5 g7 o7
      have HOV : Hid (∀ w5, Fr New wr w5 → w5.ownsRow w.heap.size 53 4 v' i (ktCells (l.take i) us')) := fun w5 f5 => by
        have := own_ge (f5.owns hC.t.own (fun _ _ h => h)) (B' := w.heap.size) (fun k hk => hC.n k (.inl hk))
        rwa [show (l.take i).length = i by simp; omega] at this
      have hlt2 : w.heap.size + 2 < wr.heap.size := lt_of_block hC.o
      have HOC : Hid (∀ w5, Fr New wr w5 → w5.cell? ⟨w.heap.size + 2, 0, none⟩ = some v' ∧ w5.frozen? ⟨w.heap.size + 2, 0, none⟩ = false) := fun w5 f5 => ⟨((block_cells (f5.heap hC.o id)).1 0).trans rfl, (block_cells (f5.heap hC.o id)).2 0⟩
      have HO7 : Hid (∀ w5 w7, Fr New wr w5 → w5.grownBy w7 v'.ownBlock → w7.cell? ⟨w.heap.size + 2, 0, none⟩ = some v' ∧ w7.frozen? ⟨w.heap.size + 2, 0, none⟩ = false) := fun w5 w7 f5 g7 => by
        have h7 : Fr (fun k => v'.ownBlock = some k) w5 w7 := (Fr.refl _ _).grown g7 (fun k _ hk => hk)
        have := h7.heap (f5.heap hC.o id) (fun hv => by
          obtain ⟨_, c', hc⟩ := own_block hC.t.own hv
          exact type_ne hC.o hc (by decide) rfl)
        exact ⟨((block_cells this).1 0).trans rfl, (block_cells this).2 0⟩
      obtain ⟨x, hx⟩ : ∃ x, x = l[i] := ⟨_, rfl⟩
      rw [← hx] at d0 d1 d2 d3 hfi HNW HSTP
      have hov := HOV.out wr (Fr.refl _ _)
      obtain ⟨a3, c3, rfl⟩ := own_slice hov
      clear hx hr2 hC hov
      obtain ⟨⟨xb, xs, xp⟩, xw⟩ := x
      simp only at d0 d1 d2 d3 hfi HNW HSTP
      obtain ⟨hf1, hx1, hx4, hxp, hx32⟩ := hfi
      obtain ⟨B, hB⟩ : ∃ B : Nat, B = xb + 1 := ⟨_, rfl⟩
      rw [← hB] at d0
      have HBB : Hid (B = xb + 1) := hB
      obtain ⟨m, hm⟩ : ∃ m : Nat, m = xw.length := ⟨_, rfl⟩
      rw [← hm] at d3
      have HM : Hid (m = xw.length) := hm
      have hm31 : m ≤ 31 := by omega
      have hB32 : B ≤ 32 := by omega
      clear hB hm hf1
      go_wp2_with (first
        | (at_builtin; refine wpList_append_own_at _ rfl (.tmp 21) (.tmp 23) 27 rfl (wr.heap.size + 1) 41 i0 (.int .u64 0) 1 8 Tryz.underlying27 hi0 hz0 hz1 hz2 rfl (by decide) _ _ _ rfl (empty_row wr _) ⟨gi2, 0, none⟩ m ci2 (xw.map (Value.int .u64)) rfl (by simp [HM.out]) (HNW.out _ (((Fr.refl New wr).alloc _).alloc _)) (ints_oneU _) (by unfold maxLen; omega) (by omega) (by simp) ?_; intro v4 w4 ho4 hg4 _ _; rw [Nat.zero_add] at ho4; have hT4 : Fr (fun k => k = wr.heap.size + 1) ((wr.alloc (.cells #[.int .i64 (B : Int), .int .i64 (xs : Int), .int .i64 (xp : Int), .slice (some ⟨gi2, 0, none⟩) m ci2] 53)).alloc (.cells #[] 41)) w4 := (Fr.refl _ _).grown hg4 (fun k _ e => (Option.some.inj e).symm); have hf4 : Fr New wr w4 := (((Fr.refl New wr).alloc _).alloc _).trans hT4 (fun j hj e => by omega); have gt4 : w4.heap[wr.heap.size]? = some (.cells #[.int .i64 (B : Int), .int .i64 (xs : Int), .int .i64 (xp : Int), .slice (some ⟨gi2, 0, none⟩) m ci2] 53 (0, 0)) := (hT4.heap (((Fr.refl New _).alloc _).heap (Go.Deep.blk_alloc_new wr _) id) (by simp)); obtain ⟨a4, c4, rfl⟩ := own_slice ho4; obtain ⟨q4, z4⟩ := block_cells gt4; have e0 : w4.cell? ⟨wr.heap.size, 0, none⟩ = some (.int .i64 (B : Int)) := (q4 0).trans rfl; have e1 : w4.cell? ⟨wr.heap.size, 1, none⟩ = some (.int .i64 (xs : Int)) := (q4 1).trans rfl; have e2 : w4.cell? ⟨wr.heap.size, 2, none⟩ = some (.int .i64 (xp : Int)) := (q4 2).trans rfl; have e3 : w4.cell? ⟨wr.heap.size, 3, none⟩ = some (.slice (some ⟨gi2, 0, none⟩) m ci2) := (q4 3).trans rfl; have z3 := z4 3; obtain ⟨k0, k1⟩ := HOC.out w4 hf4; have hlt4 : wr.heap.size < w4.heap.size := lt_of_block gt4; clear q4 z4; have hfs : Fr (fun k => k = wr.heap.size) w4 (w4.setCell ⟨wr.heap.size, 3, none⟩ (.slice a4 m c4)) := (Fr.refl (fun k => k = wr.heap.size) w4).setCell (p := ⟨wr.heap.size, 3, none⟩) (fun _ => rfl) _; have hf5 : Fr New wr (w4.setCell ⟨wr.heap.size, 3, none⟩ (.slice a4 m c4)) := hf4.trans hfs (fun j hj e => by omega); have hz5 : (w4.setCell ⟨wr.heap.size, 3, none⟩ (.slice a4 m c4)).heap.size = w4.heap.size := World.size_setCell _ _ _; have ho5 : Own wr.heap.size (w4.setCell ⟨wr.heap.size, 3, none⟩ (.slice a4 m c4)) (.slice a4 m c4) xw := own_le (hfs.owns (by simpa [HM.out] using ho4) (fun g hg he => by obtain ⟨_, c, hc⟩ := own_block ho4 hg; exact type_ne hc gt4 (by decide) he)) (Nat.le_succ _))
        | (at_builtin; refine wpList_append_own_at _ rfl (.tmp 27) (.tmp 29) 29 rfl w.heap.size 53 i1 _ 4 48 Tryz.underlying29 hi1 hy0 hy1 hy2 rfl (by decide) _ _ _ rfl ((HOV.out _ hf5).alloc _) ⟨w4.heap.size, 0, none⟩ 1 1 [.int .i64 (B : Int), .int .i64 (xs : Int), .int .i64 (xp : Int), .slice a4 m c4] rfl rfl (World.news_of_block (new_at _ _ _ hz5)) (by intro u hu; simp at hu; rcases hu with rfl | rfl | rfl | rfl <;> rfl) (by unfold maxLen; omega) (by omega) (by simp; omega) ?_; intro v7 w7 ho7 hg7 _ _; obtain ⟨k7, z7⟩ := HO7.out _ w7 (hf5.alloc _) hg7; have hlt7 : w.heap.size + 2 < w7.heap.size := World.block_lt_of_cell? w7 _ k7; obtain ⟨a7, c7, rfl⟩ := own_slice ho7)
        | fail)
      go_roundg (l.length - (i + 1))
      case measure => omega
      case rel =>
        refine ⟨i + 1, _, _, by omega, rfl, by go_num, HSTP.out _ (.slice a4 m c4) w7 _ (hf5.alloc _) (ho5.alloc _) hg7 ?_⟩
        rw [HBB.out] at ho7
        exact ho7
    · obtain rfl : i = l.length := by omega
      have hd0 : decide ((l.length : Int) < (l.length : Int)) = false := by simp
      have hT := hC.t
      rw [List.take_length] at hT
      obtain ⟨a3, c3, rfl⟩ := hT.slice
      obtain ⟨hcr, hzr⟩ := block_cells hC.r
      obtain ⟨hco, _⟩ := block_cells hC.o
      have o0 : wr.cell? ⟨w.heap.size + 2, 0, none⟩ = some (.slice a3 l.length c3) := (hco 0).trans rfl
      have o1 : wr.cell? ⟨w.heap.size + 2, 1, none⟩ = some (.int .i64 r0) := (hco 1).trans rfl
      have o2 : wr.cell? ⟨w.heap.size + 2, 2, none⟩ = some (.int .i64 r1) := (hco 2).trans rfl
      have o3 : wr.cell? ⟨w.heap.size + 2, 3, none⟩ = some (.int .i64 r2) := (hco 3).trans rfl
      have o4 : wr.cell? ⟨w.heap.size + 2, 4, none⟩ = some (.int .i64 r3) := (hco 4).trans rfl
      have HC' := hC
      clear hC hco
      go_wp2
      refine bodyPost_ret (v := shV (.slice a3 l.length c3) r0 r1 r2 r3) (by simp [results, Tryz.results21, go_sem, hcr]) rfl ⟨_, us', rfl, ?_, HC'.n, ?_⟩
      · have hb : Fr (fun k => k = w.heap.size + 1) wr (((((wr.setCell ⟨w.heap.size + 1, 0, none⟩ (.slice a3 l.length c3)).setCell ⟨w.heap.size + 1, 1, none⟩ (.int .i64 r0)).setCell ⟨w.heap.size + 1, 2, none⟩ (.int .i64 r1)).setCell ⟨w.heap.size + 1, 3, none⟩ (.int .i64 r2)).setCell ⟨w.heap.size + 1, 4, none⟩ (.int .i64 r3)) := by
          iterate 5 refine Fr.setCell (T := fun k => k = w.heap.size + 1) ?_ (fun _ => rfl) _
          exact Fr.refl _ _
        exact hT.fr hb (fun k hk e => by subst e; exact hT.no HC'.r (by decide) (by decide) hk)
      · iterate 5 refine Fr.setCell ?_ (fun h => absurd h (by simp)) _
        exact HC'.f
end Go.Proofs.YtbagcjlimdilpabGreat

/- The walk of a story's commit. -/
namespace Go.Proofs.YtbagcjlimdilpabGreat
open Go.RowKit Go.Maps

/-- what turns no block of things -/
theorem Sty.turned {sb n hb tb cb mb g : Nat} {vs vn vk : Value} {un uk : List Value} {ws now : List Int} {sts : List St} {w w1 : World} (h : Sty sb n hb tb cb mb g vs vn vk un uk ws now sts w) (hf : Fr (TurnedP tb mb g vs) w w1) :
    w1.heap[sb]? = some (.cells (stArr hb n vn vk now ws) 34 (0, 0)) ∧ ThAt w1 vn (things now) un ∧ ThAt w1 vk (things ws) uk := by
  have hsb : ¬ TurnedP tb mb g vs sb := by
    rintro (e | e | e | e)
    · exact type_ne h.blk h.ph.tg.t.td (by decide) e
    · exact h.ph.mapNe h.blk e
    · exact type_ne h.blk h.ph.tg.t.wb (by decide) e
    · obtain ⟨_, c, hc⟩ := own_block h.ph.tg.o e
      exact type_ne h.blk hc (by decide) rfl
  have hth : ∀ v us l, ThAt w v l us → (∀ u ∈ us, u.ownBlock ≠ some g) → ∀ k, ThB v us k → ¬ TurnedP tb mb g vs k := fun v us l ht hg k hk => by
    rintro (e | e | e | e)
    · subst e; exact ht.no h.ph.tg.t.td (by decide) (by decide) hk
    · subst e
      obtain ⟨D, ⟨es, clock, hm, _⟩, _⟩ := h.ph.cg.mp
      exact ht.noMap hm hk
    · subst e
      rcases hk with hk | ⟨u, hu, hk⟩
      · obtain ⟨_, c, hc⟩ := own_block ht.own hk
        exact type_ne h.ph.tg.t.wb hc (by decide) rfl
      · exact hg u hu hk
    · obtain ⟨_, c, hc⟩ := own_block h.ph.tg.o e
      exact ht.no hc (by decide) (by decide) hk
  exact ⟨hf.heap h.blk hsb, h.tn.fr hf (hth _ _ _ h.tn h.gn), h.tk.fr hf (hth _ _ _ h.tk h.gk)⟩
/-- five cells of a story -/
theorem five_fr (w : World) (sb a : Nat) (v0 v1 v2 v3 v4 : Value) : Fr (fun k => k = sb) w (((((w.setCell ⟨sb, a, none⟩ v0).setCell ⟨sb, a + 1, none⟩ v1).setCell ⟨sb, a + 2, none⟩ v2).setCell ⟨sb, a + 3, none⟩ v3).setCell ⟨sb, a + 4, none⟩ v4) := by
  iterate 5 refine Fr.setCell (T := fun k => k = sb) ?_ (fun _ => rfl) _
  exact Fr.refl _ _
/-- a story whose kept shape is a copy of what is there now -/
theorem keep_end {F : Nat → Prop} {sb n hb tb cb mb g : Nat} {vs vs1 vn vk v2 : Value} {un uk us2 : List Value} {ws now ws1 now1 : List Int} {sts sts1 : List St} {w w1 w2 : World}
    (S : Sty sb n hb tb cb mb g vs vn vk un uk ws now sts w) (hF : ∀ k, Foot sb hb tb cb mb g vs vn vk un uk k → F k) (hf1 : Fr (TurnedP tb mb g vs) w w1) (hph : PH hb tb cb mb g vs1 ws1 now1 sts1 w1) (hmv : Moved w vs vs1) (hhw : HW ws1 now1) (hn : nblk ws1.length = n)
    (e1 : Like now1 now) (e2 : Like ws1 now) (hf2 : Fr New w1 w2) (ht2 : ThAt w2 v2 (things now) us2) (hnew : ∀ k, ThB v2 us2 k → w1.heap.size ≤ k) :
    ∃ F', Story F' sb n ws1 now1 sts1 (((((w2.setCell ⟨sb, 7, none⟩ v2).setCell ⟨sb, 8, none⟩ (.int .i64 (wd now 3))).setCell ⟨sb, 9, none⟩ (.int .i64 (wd now 4))).setCell ⟨sb, 10, none⟩ (.int .i64 (wd now 5))).setCell ⟨sb, 11, none⟩ (.int .i64 (wd now 6))) ∧ Fr F w (((((w2.setCell ⟨sb, 7, none⟩ v2).setCell ⟨sb, 8, none⟩ (.int .i64 (wd now 3))).setCell ⟨sb, 9, none⟩ (.int .i64 (wd now 4))).setCell ⟨sb, 10, none⟩ (.int .i64 (wd now 5))).setCell ⟨sb, 11, none⟩ (.int .i64 (wd now 6))) ∧ ∀ k, F' k → F k ∨ w.heap.size ≤ k := by
  obtain ⟨b1, n1, k1⟩ := S.turned hf1
  have b2 := hf2.heap b1 id
  have hst := five_fr w2 sb 7 v2 (.int .i64 (wd now 3)) (.int .i64 (wd now 4)) (.int .i64 (wd now 5)) (.int .i64 (wd now 6))
  have hgs : g < w1.heap.size := lt_of_block hph.tg.t.wb
  have hTP : ∀ k, TurnedP tb mb g vs k → F k := fun k hk => by
    rcases hk with e | e | e | e
    · exact hF k (.inr (.inr (.inl e)))
    · exact hF k (.inr (.inr (.inr (.inr (.inl e)))))
    · exact hF k (.inr (.inr (.inr (.inr (.inr (.inl e))))))
    · exact hF k (.inr (.inr (.inr (.inr (.inr (.inr (.inl e)))))))
  refine ⟨Foot sb hb tb cb mb g vs1 vn v2 un us2, ⟨hb, tb, cb, mb, g, vs1, vn, v2, un, us2, ⟨?_, (hph.new hf2).story b2 hst, hhw, ?_, ?_, hn, S.gn, fun u hu e => ?_, fun u hu u' hu' e => ?_⟩, fun k hk => hk⟩, ?_, fun k hk => ?_⟩
  · refine (heap_setCell_same _ sb 11 _ _ _ (heap_setCell_same _ sb 10 _ _ _ (heap_setCell_same _ sb 9 _ _ _ (heap_setCell_same _ sb 8 _ _ _ (heap_setCell_same _ sb 7 _ _ _ b2))))).trans ?_
    unfold stArr
    rw [e1.roots 0 (by omega), e1.roots 1 (by omega), e1.roots 2 (by omega), e1.roots 3 (by omega), e2.roots 0 (by omega), e2.roots 1 (by omega), e2.roots 2 (by omega), e2.roots 3 (by omega)]
    rfl
  · rw [things_like e1]; exact (n1.new hf2).story b2 hst
  · rw [things_like e2]; exact ht2.story b2 hst
  · have := hnew g (.inr ⟨u, hu, e⟩)
    omega
  · rcases hb' : u'.ownBlock with _ | k
    · obtain ⟨i, hi, rfl⟩ := List.getElem_of_mem hu'
      have hr := ht2.rows i (by rw [← ht2.len]; exact hi) hi
      have hfi := ht2.fit _ (List.getElem_mem (show i < (things now).length by rw [← ht2.len]; exact hi))
      rcases hr.2 with ⟨_, hz⟩ | ⟨gg, cap, cur, e', _⟩
      · omega
      · rw [e'] at hb'; cases hb'
    · have h1 := hnew k (.inr ⟨u', hu', hb'⟩)
      have h2 := n1.lt (k := k) (.inr ⟨u, hu, by rw [e]; exact hb'⟩)
      omega
  · exact ((hf1.mono (fun j _ hj => hTP j hj)).same hf2).trans hst (fun j _ e => by subst e; exact hF _ (.inl rfl))
  · have hsz := hf1.size
    rcases hk with hk | hk | hk | hk | hk | hk | hk | hk | hk
    · exact .inl (hF k (.inl hk))
    · exact .inl (hF k (.inr (.inl hk)))
    · exact .inl (hF k (.inr (.inr (.inl hk))))
    · exact .inl (hF k (.inr (.inr (.inr (.inl hk)))))
    · exact .inl (hF k (.inr (.inr (.inr (.inr (.inl hk))))))
    · exact .inl (hF k (.inr (.inr (.inr (.inr (.inr (.inl hk)))))))
    · rcases hmv with hm | hm
      · rw [hm] at hk
        exact .inl (hF k (.inr (.inr (.inr (.inr (.inr (.inr (.inl hk))))))))
      · exact .inr (hm k hk)
    · exact .inl (hF k (.inr (.inr (.inr (.inr (.inr (.inr (.inr (.inl hk)))))))))
    · have := hnew k hk
      exact .inr (by omega)
/-- what commit makes of a story -/
def CommitR (ws now : List Int) (sts : List St) (ws' now' : List Int) (sts' : List St) : Prop :=
  (now = ws ∧ ws' = ws ∧ now' = now ∧ sts' = sts) ∨ (now ≠ ws ∧ 48 < (recsOf ws (nextS now)).length ∧ ws' = ws ∧ now' = now ∧ sts' = sts) ∨ (now ≠ ws ∧ (recsOf ws (nextS now)).length ≤ 48 ∧ ws' = pcommitW ws now ∧ now' = pcommitW ws now ∧ sts' = sts ++ pcommitSt ws now)
theorem turned_new {tb mb g : Nat} {vs : Value} {w w1 : World} (h : Fr New w w1) : Fr (TurnedP tb mb g vs) w w1 := h.mono (fun _ _ h => h.elim)

set_option maxHeartbeats 2000000 in
set_option maxRecDepth 100000 in
theorem kcommit_any (F : Nat → Prop) (sb n : Nat) (ws now : List Int) (sts : List St) (w : World) (hl : sts.length ≤ 1099511000000) (h : Story F sb n ws now sts w) :
    Calls Tryz.prog 22 #[.pointer (some ⟨sb, 0, none⟩)] w fun e w' => e = .returned (.bool true) ∧ ∃ F' ws' now' sts', Story F' sb n ws' now' sts' w' ∧ Fr F w w' ∧ (∀ k, F' k → F k ∨ w.heap.size ≤ k) ∧ CommitR ws now sts ws' now' sts' := by
  obtain ⟨hb, tb, cb, mb, g, vs, vn, vk, un, uk, S, hF⟩ := h
  have hc0 := S.c0
  have HCM : Hid (Calls Tryz.prog 32 #[.pointer (some ⟨hb, 0, none⟩)] w fun e w' => ∃ c, e = .returned (.int .i64 c) ∧ ((c = 0 ∧ ∃ vs1 ws1 now1 sts1, PH hb tb cb mb g vs1 ws1 now1 sts1 w' ∧ Fr (TurnedP tb mb g vs) w w' ∧ Moved w vs vs1 ∧ HW ws1 now1 ∧ nblk ws1.length = n ∧ Like now1 now ∧ Like ws1 now ∧ CommitR ws now sts ws1 now1 sts1) ∨ (c = 4 ∧ ∃ F', Story F' sb n ws now sts w' ∧ Fr F w w' ∧ (∀ k, F' k → F k ∨ w.heap.size ≤ k) ∧ CommitR ws now sts ws now sts))) := by
    refine (hcommit_any hb tb cb mb g vs ws now sts w S.ph S.hw.two hl).mono ?_
    rintro e w' ⟨c, rfl, hc⟩
    refine ⟨c, rfl, ?_⟩
    rcases hc with ⟨rfl, rfl, hp, hf⟩ | ⟨hne, h48, rfl, hp, hf⟩ | ⟨hne, h48, rfl, vs', hp, hf, hm⟩
    · exact .inl ⟨rfl, vs, now, now, sts, hp, turned_new hf, Moved.refl _ _, S.hw, S.n, Like.refl _, Like.refl _, .inl ⟨rfl, rfl, rfl, rfl⟩⟩
    · exact .inr ⟨rfl, F, ⟨hb, tb, cb, mb, g, vs, vn, vk, un, uk, S.new hf, hF⟩, hf.mono (fun _ _ h => h.elim), fun k hk => .inl hk, .inr (.inl ⟨hne, h48, rfl, rfl, rfl⟩)⟩
    · obtain ⟨q1, q2⟩ := commit_good S.hw h48
      exact .inl ⟨rfl, vs', _, _, _, hp, hf, hm, q1, by rw [pcommitW_len]; exact S.n, q2, q2, .inr (.inr ⟨hne, h48, rfl, rfl, rfl⟩)⟩
  have HST : Hid (∀ w1, Fr (TurnedP tb mb g vs) w w1 → w1.heap[sb]? = some (.cells (stArr hb n vn vk now ws) 34 (0, 0)) ∧ ThAt w1 vn (things now) un) := fun w1 hf => ⟨(S.turned hf).1, (S.turned hf).2.1⟩
  have HEND : Hid (∀ vs1 ws1 now1 sts1 w1 w2 v2 us2, PH hb tb cb mb g vs1 ws1 now1 sts1 w1 → Fr (TurnedP tb mb g vs) w w1 → Moved w vs vs1 → HW ws1 now1 → nblk ws1.length = n → Like now1 now → Like ws1 now → Fr New w1 w2 → ThAt w2 v2 (things now) us2 → (∀ k, ThB v2 us2 k → w1.heap.size ≤ k) → ∃ F', Story F' sb n ws1 now1 sts1 (((((w2.setCell ⟨sb, 7, none⟩ v2).setCell ⟨sb, 8, none⟩ (.int .i64 (wd now 3))).setCell ⟨sb, 9, none⟩ (.int .i64 (wd now 4))).setCell ⟨sb, 10, none⟩ (.int .i64 (wd now 5))).setCell ⟨sb, 11, none⟩ (.int .i64 (wd now 6))) ∧ Fr F w (((((w2.setCell ⟨sb, 7, none⟩ v2).setCell ⟨sb, 8, none⟩ (.int .i64 (wd now 3))).setCell ⟨sb, 9, none⟩ (.int .i64 (wd now 4))).setCell ⟨sb, 10, none⟩ (.int .i64 (wd now 5))).setCell ⟨sb, 11, none⟩ (.int .i64 (wd now 6))) ∧ ∀ k, F' k → F k ∨ w.heap.size ≤ k) := fun vs1 ws1 now1 sts1 w1 w2 v2 us2 a1 a2 a3 a4 a5 a6 a7 a8 a9 a10 => keep_end S hF a2 a1 a3 a4 a5 a6 a7 a8 a9 a10
  have HCP : Hid (∀ w1, ThAt w1 vn (things now) un → Calls Tryz.prog 21 #[.agg #[vn, .int .i64 (wd now 3), .int .i64 (wd now 4), .int .i64 (wd now 5), .int .i64 (wd now 6)]] w1 fun e w' => ∃ v' us', e = .returned (.agg #[v', .int .i64 (wd now 3), .int .i64 (wd now 4), .int .i64 (wd now 5), .int .i64 (wd now 6)]) ∧ ThAt w' v' (things now) us' ∧ (∀ k, ThB v' us' k → w1.heap.size ≤ k) ∧ Fr New w1 w') := fun w1 ht => kcopied_any vn (things now) un _ _ _ _ w1 ht
  obtain ⟨av, cv, hvn⟩ := S.tn.slice
  obtain ⟨m, hm⟩ : ∃ m, m = (things now).length := ⟨_, rfl⟩
  rw [← hm] at hvn
  subst hvn
  obtain ⟨x3, h3⟩ : ∃ x, x = wd now 3 := ⟨_, rfl⟩
  obtain ⟨x4, h4⟩ : ∃ x, x = wd now 4 := ⟨_, rfl⟩
  obtain ⟨x5, h5⟩ : ∃ x, x = wd now 5 := ⟨_, rfl⟩
  obtain ⟨x6, h6⟩ : ∃ x, x = wd now 6 := ⟨_, rfl⟩
  unfold stArr at HST
  rw [← h3, ← h4, ← h5, ← h6] at HST HCP HEND
  clear S hF hm h3 h4 h5 h6
  go_enter Tryz.func22, Tryz.ntmps22
  go_wp2_with (first
    | (go_at_call 32; refine HCM.out.mono ?_; rintro e w1 ⟨c, rfl, hcc⟩; rcases hcc with ⟨rfl, vs1, ws1, now1, sts1, q1, q2, q3, q4, q5, q6, q7, q8⟩ | ⟨rfl, hend⟩; obtain ⟨sbk, tn1⟩ := HST.out w1 q2; have c2 : w1.cell? ⟨sb, 2, none⟩ = some (.slice av m cv) := ((block_cells sbk).1 2).trans rfl; have c3 : w1.cell? ⟨sb, 3, none⟩ = some (.int .i64 x3) := ((block_cells sbk).1 3).trans rfl; have c4 : w1.cell? ⟨sb, 4, none⟩ = some (.int .i64 x4) := ((block_cells sbk).1 4).trans rfl; have c5 : w1.cell? ⟨sb, 5, none⟩ = some (.int .i64 x5) := ((block_cells sbk).1 5).trans rfl; have c6 : w1.cell? ⟨sb, 6, none⟩ = some (.int .i64 x6) := ((block_cells sbk).1 6).trans rfl; have hsb1 : sb < w1.heap.size := lt_of_block sbk)
    | (go_at_call 21; refine (HCP.out w1 tn1).mono ?_; rintro e w2 ⟨v2, us2, rfl, ht2, hn2, hf2⟩; have sbk2 := hf2.heap sbk id; have f7 := (block_cells sbk2).2 7; have f8 := (block_cells sbk2).2 8; have f9 := (block_cells sbk2).2 9; have f10 := (block_cells sbk2).2 10; have f11 := (block_cells sbk2).2 11; have g7 := (block_cells sbk2).1 7; have g8 := (block_cells sbk2).1 8; have g9 := (block_cells sbk2).1 9; have g10 := (block_cells sbk2).1 10; have g11 := (block_cells sbk2).1 11; simp only [List.getElem?_toArray, List.getElem?_cons_succ, List.getElem?_cons_zero] at g7 g8 g9 g10 g11; have hsb2 : sb < w2.heap.size := lt_of_block sbk2; obtain ⟨a2, c2', hv2⟩ := ht2.slice; subst hv2)
    | fail)
  · go_ret
    obtain ⟨F', a1, a2', a3⟩ := HEND.out vs1 ws1 now1 sts1 w1 w2 _ us2 q1 q2 q3 q4 q5 q6 q7 hf2 ht2 hn2
    exact ⟨rfl, F', ws1, now1, sts1, a1, a2', a3, q8⟩
  · go_ret
    obtain ⟨F', a1, a2, a3, a4⟩ := hend
    exact ⟨rfl, F', ws, now, sts, a1, a2, a3, a4⟩
end Go.Proofs.YtbagcjlimdilpabGreat

/- Walks of a story's play: an object more; a root; what is taken back; a commit. -/
namespace Go.Proofs.YtbagcjlimdilpabGreat
open Go.RowKit Go.Maps

/-- which of n things the raw number c speaks of, as a number without a sign -/
def pickN (c : Int) (n : Nat) : Nat := (pickI c n).toNat
theorem pickN_lt (c : Int) {n : Nat} (hn : n ≠ 0) : pickN c n < n := by
  have h0 := pickI_nonneg c n (by omega)
  have h1 := pickI_lt c n (by omega)
  unfold pickN
  omega
/-- a number of 64 bits, with its sign -/
def I64 (c : Int) : Prop := -9223372036854775808 ≤ c ∧ c ≤ 9223372036854775807
theorem pickN_any (c : Int) (n : Nat) (w : World) (h : I64 c) (hn : n ≠ 0) (hn1 : n ≤ 1048576) : Calls Tryz.prog 13 #[.int .i64 c, .int .i64 (n : Int)] w fun e w' => e = .returned (.int .i64 (pickN c n : Nat)) ∧ w' = w := by
  have h0 := pickI_nonneg c n (by omega)
  refine (pick_any c n w h.1 h.2 (by omega) (by omega)).mono ?_
  rintro e w' ⟨rfl, rfl⟩
  exact ⟨ret_i (by unfold pickN; omega), rfl⟩
/-- what one play makes of a story -/
def Played (F : Nat → Prop) (sb n : Nat) (sts : List St) (w w' : World) : Prop := ∃ F' ws' now' sts', Story F' sb n ws' now' sts' w' ∧ Fr F w w' ∧ (∀ k, F' k → F k ∨ w.heap.size ≤ k) ∧ sts'.length ≤ sts.length + 151
theorem Story.sty_n {F : Nat → Prop} {sb n : Nat} {ws now : List Int} {sts : List St} {w : World} (h : Story F sb n ws now sts w) : ∃ av cv, w.cell? ⟨sb, 2, none⟩ = some (.slice av (things now).length cv) ∧ (things now).length ≤ 32 := by
  obtain ⟨hb, tb, cb, mb, g, vs, vn, vk, un, uk, S, _⟩ := h
  obtain ⟨av, cv, e⟩ := S.tn.slice
  exact ⟨av, cv, by rw [← e]; exact S.c2, S.tn.n⟩
theorem Story.new {F : Nat → Prop} {sb n : Nat} {ws now : List Int} {sts : List St} {w w' : World} (h : Story F sb n ws now sts w) (hf : Fr New w w') : Story F sb n ws now sts w' := h.fr hf (fun _ _ _ h => h)
theorem sts_len (ws now : List Int) : (pcommitSt ws now).length = 3 * (recsOf ws (nextS now)).length + 7 := by
  unfold pcommitSt enterSt carrySt putsSt
  simp [logPs_len]
  omega
theorem commit_len {ws now ws' now' : List Int} {sts sts' : List St} (h : CommitR ws now sts ws' now' sts') : sts'.length ≤ sts.length + 151 := by
  rcases h with ⟨_, _, _, rfl⟩ | ⟨_, _, _, _, rfl⟩ | ⟨_, h48, _, _, rfl⟩
  · omega
  · omega
  · have := (sts_len ws now)
    simp only [List.length_append]
    omega
set_option maxRecDepth 100000 in
/-- an object more, where there is none -/
theorem play_none (F : Nat → Prop) (sb n : Nat) (ws now : List Int) (sts : List St) (what a b c : Int) (w : World) (ha : I64 a) (hb : I64 b) (h : Story F sb n ws now sts w) (h0 : (things now).length = 0) :
    Calls Tryz.prog 5 #[.pointer (some ⟨sb, 0, none⟩), .int .i64 what, .int .i64 a, .int .i64 b, .int .i64 c] w fun e w' => e = .returned (.bool true) ∧ Played F sb n sts w w' := by
  obtain ⟨av, cv, hc2, _⟩ := h.sty_n
  rw [h0] at hc2
  have hp4 := pickN_lt a (n := 4) (by omega)
  have HPA : Hid (∀ w1, Calls Tryz.prog 13 #[.int .i64 a, .int .i64 4] w1 fun e w' => e = .returned (.int .i64 (pickN a 4 : Nat)) ∧ w' = w1) := fun w1 => pickN_any a 4 w1 ha (by omega) (by omega)
  obtain ⟨q, hq⟩ : ∃ q : Nat, q = pickN a 4 := ⟨_, rfl⟩
  rw [← hq] at HPA hp4
  have hp8 := pickN_lt b (n := 8 * (1 + q)) (by omega)
  have HPB : Hid (∀ w1, Calls Tryz.prog 13 #[.int .i64 b, .int .i64 (8 * (1 + (q : Int)))] w1 fun e w' => e = .returned (.int .i64 (pickN b (8 * (1 + q)) : Nat)) ∧ w' = w1) := fun w1 => by
    have := pickN_any b (8 * (1 + q)) w1 hb (by omega) (by omega)
    rwa [show ((8 * (1 + q) : Nat) : Int) = 8 * (1 + (q : Int)) by omega] at this
  obtain ⟨p, hp⟩ : ∃ p : Nat, p = pickN b (8 * (1 + q)) := ⟨_, rfl⟩
  have HAL : Hid (Calls Tryz.prog 14 #[.pointer (some ⟨sb, 0, none⟩), .int .i64 (1 + (q : Int)), .int .i64 (p : Int)] w fun e w' => e = .returned (.bool true) ∧ Played F sb n sts w w') := by
    have := kalloc_any F sb n ws now sts (1 + q) p (by omega) (by omega) (by omega) w h
    rw [show ((1 + q : Nat) : Int) = 1 + (q : Int) by omega] at this
    refine this.mono ?_
    rintro e w' ⟨rfl, now', F', q1, q2, q3, _⟩
    exact ⟨rfl, F', ws, now', sts, q1, q2, q3, by omega⟩
  rw [← hp] at HPB
  clear h h0 hp hp8 hq
  go_enter Tryz.func5, Tryz.ntmps5
  go_wp2_with (first
    | (go_at_call_of 13 (Value.int .i64 b); refine calls_same (HPB.out _) ?_)
    | (go_at_call_of 13 (Value.int .i64 4); refine calls_same (HPA.out _) ?_)
    | (go_at_call 14; refine HAL.out.mono ?_; rintro e w1 ⟨rfl, hend⟩)
    | fail)
  go_ret
  exact ⟨rfl, hend⟩
set_option maxHeartbeats 1000000 in
set_option maxRecDepth 100000 in
theorem play_more (F : Nat → Prop) (sb n : Nat) (ws now : List Int) (sts : List St) (what a b c : Int) (w : World) (hw : I64 what) (ha : I64 a) (hb : I64 b) (h : Story F sb n ws now sts w) (hne : (things now).length ≠ 0) (hv : pickN what 8 = 0) :
    Calls Tryz.prog 5 #[.pointer (some ⟨sb, 0, none⟩), .int .i64 what, .int .i64 a, .int .i64 b, .int .i64 c] w fun e w' => e = .returned (.bool true) ∧ Played F sb n sts w w' := by
  obtain ⟨hb', tb, cb, mb, g, vs, vn, vk, un, uk, S, hF⟩ := h
  obtain ⟨l, hl⟩ : ∃ l, l = things now := ⟨_, rfl⟩
  have HL : Hid (l = things now) := hl
  have tn : ThAt w vn l un := by rw [hl]; exact S.tn
  rw [← hl] at hne
  have hk0 := pickN_lt a hne
  obtain ⟨k, hkd⟩ : ∃ k, k = pickN a l.length := ⟨_, rfl⟩
  have hk : k < l.length := by rw [hkd]; exact hk0
  have hm32 : l.length ≤ 32 := tn.n
  obtain ⟨g2, cv, gi, ci, hvn, hg2, d0, d1, d2, d3, hrow, huk, hfrz, hgi⟩ := tn.at' k hk
  have hc2 := S.c2
  have hc0 := S.c0
  rw [hvn] at hc2
  have HPA : Hid (∀ w1, Calls Tryz.prog 13 #[.int .i64 a, .int .i64 4] w1 fun e w' => e = .returned (.int .i64 (pickN a 4 : Nat)) ∧ w' = w1) := fun w1 => pickN_any a 4 w1 ha (by omega) (by omega)
  have HPM : Hid (∀ w1, Calls Tryz.prog 13 #[.int .i64 a, .int .i64 (l.length : Int)] w1 fun e w' => e = .returned (.int .i64 (k : Int)) ∧ w' = w1) := fun w1 => by rw [hkd]; exact pickN_any a l.length w1 ha (by omega) (by omega)
  have HPW : Hid (∀ w1, Calls Tryz.prog 13 #[.int .i64 what, .int .i64 8] w1 fun e w' => e = .returned (.int .i64 0) ∧ w' = w1) := fun w1 => by
    have := pickN_any what 8 w1 hw (by omega) (by omega)
    rwa [hv] at this
  have hq4 := pickN_lt a (n := 4) (by omega)
  obtain ⟨q, hq⟩ : ∃ q : Nat, q = pickN a 4 := ⟨_, rfl⟩
  rw [← hq] at HPA hq4
  have hfit := tn.fit _ (List.getElem_mem hk)
  obtain ⟨x, hx⟩ : ∃ x, x = l[k] := ⟨_, rfl⟩
  have HX : Hid (x = l[k]) := hx
  rw [← hx] at d0 d1 d2 d3 hrow hfit huk
  obtain ⟨⟨xb, xs, xp⟩, xw⟩ := x
  simp only at d0 d1 d2 d3 hrow hfit huk
  obtain ⟨hf1, hx1, hx4, hxp, hx32⟩ := hfit
  obtain ⟨B, hB⟩ : ∃ B : Nat, B = xb + 1 := ⟨_, rfl⟩
  rw [← hB] at d0
  have HB : Hid (B = xb + 1) := hB
  obtain ⟨M, hM⟩ : ∃ M : Nat, M = xw.length := ⟨_, rfl⟩
  rw [← hM] at d3
  have HM : Hid (M = xw.length ∧ xw.length = 8 * xs - 1) := ⟨hM, hf1⟩
  have hB32 : B ≤ 32 := by omega
  have hM31 : M ≤ 31 := by omega
  have hM1 : 7 ≤ M := by omega
  have hsbw : sb < w.heap.size := lt_of_block S.blk
  have hp4 := pickN_lt b (n := 4) (by omega)
  have HPB : Hid (∀ w1, Calls Tryz.prog 13 #[.int .i64 b, .int .i64 4] w1 fun e w' => e = .returned (.int .i64 (pickN b 4 : Nat)) ∧ w' = w1) := fun w1 => pickN_any b 4 w1 hb (by omega) (by omega)
  obtain ⟨p, hp⟩ : ∃ p : Nat, p = pickN b 4 := ⟨_, rfl⟩
  have HAL : Hid (∀ w1, Fr New w w1 → Calls Tryz.prog 14 #[.pointer (some ⟨sb, 0, none⟩), .int .i64 (1 + (q : Int)), .int .i64 (p : Int)] w1 fun e w' => e = .returned (.bool true) ∧ Played F sb n sts w w') := fun w1 hf => by
    have := kalloc_any F sb n ws now sts (1 + q) p (by omega) (by omega) (by omega) w1 ⟨hb', tb, cb, mb, g, vs, vn, vk, un, uk, S.new hf, hF⟩
    rw [show ((1 + q : Nat) : Int) = 1 + (q : Int) by omega] at this
    refine this.mono ?_
    rintro e w' ⟨rfl, now', F', q1, q2, q3, _⟩
    exact ⟨rfl, F', ws, now', sts, q1, (hf.mono (fun _ _ h => h.elim)).trans q2 (fun _ _ h => h), fun k hk => (q3 k hk).imp id (fun h => Nat.le_trans hf.size h), by omega⟩
  rw [← hp] at HPB
  clear S hF hp hp4 hq
  clear tn hkd hk0 hl hf1 hB hM hx hrow huk hfrz
  go_enter Tryz.func5, Tryz.ntmps5
  go_wp2_with (first
    | (go_at_call_of 13 (Value.int .i64 b); refine calls_same (HPB.out _) ?_)
    | (go_at_call_of 13 (Value.int .i64 4); refine calls_same (HPA.out _) ?_)
    | (go_at_call_of 13 (Value.int .i64 (l.length : Int)); refine calls_same (HPM.out _) ?_)
    | (go_at_call_of 13 (Value.int .i64 8); refine calls_same (HPW.out _) ?_)
    | (go_at_call 14; refine (HAL.out _ ((Fr.refl New w).alloc _)).mono ?_; rintro e w1 ⟨rfl, hend⟩)
    | fail)
  go_ret
  exact ⟨rfl, hend⟩
set_option maxHeartbeats 1000000 in
set_option maxRecDepth 100000 in
theorem play_more1 (F : Nat → Prop) (sb n : Nat) (ws now : List Int) (sts : List St) (what a b c : Int) (w : World) (hw : I64 what) (ha : I64 a) (hb : I64 b) (h : Story F sb n ws now sts w) (hne : (things now).length ≠ 0) (hv : pickN what 8 = 1) :
    Calls Tryz.prog 5 #[.pointer (some ⟨sb, 0, none⟩), .int .i64 what, .int .i64 a, .int .i64 b, .int .i64 c] w fun e w' => e = .returned (.bool true) ∧ Played F sb n sts w w' := by
  obtain ⟨hb', tb, cb, mb, g, vs, vn, vk, un, uk, S, hF⟩ := h
  obtain ⟨l, hl⟩ : ∃ l, l = things now := ⟨_, rfl⟩
  have HL : Hid (l = things now) := hl
  have tn : ThAt w vn l un := by rw [hl]; exact S.tn
  rw [← hl] at hne
  have hk0 := pickN_lt a hne
  obtain ⟨k, hkd⟩ : ∃ k, k = pickN a l.length := ⟨_, rfl⟩
  have hk : k < l.length := by rw [hkd]; exact hk0
  have hm32 : l.length ≤ 32 := tn.n
  obtain ⟨g2, cv, gi, ci, hvn, hg2, d0, d1, d2, d3, hrow, huk, hfrz, hgi⟩ := tn.at' k hk
  have hc2 := S.c2
  have hc0 := S.c0
  rw [hvn] at hc2
  have HPA : Hid (∀ w1, Calls Tryz.prog 13 #[.int .i64 a, .int .i64 4] w1 fun e w' => e = .returned (.int .i64 (pickN a 4 : Nat)) ∧ w' = w1) := fun w1 => pickN_any a 4 w1 ha (by omega) (by omega)
  have HPM : Hid (∀ w1, Calls Tryz.prog 13 #[.int .i64 a, .int .i64 (l.length : Int)] w1 fun e w' => e = .returned (.int .i64 (k : Int)) ∧ w' = w1) := fun w1 => by rw [hkd]; exact pickN_any a l.length w1 ha (by omega) (by omega)
  have HPW : Hid (∀ w1, Calls Tryz.prog 13 #[.int .i64 what, .int .i64 8] w1 fun e w' => e = .returned (.int .i64 1) ∧ w' = w1) := fun w1 => by
    have := pickN_any what 8 w1 hw (by omega) (by omega)
    rwa [hv] at this
  have hq4 := pickN_lt a (n := 4) (by omega)
  obtain ⟨q, hq⟩ : ∃ q : Nat, q = pickN a 4 := ⟨_, rfl⟩
  rw [← hq] at HPA hq4
  have hfit := tn.fit _ (List.getElem_mem hk)
  obtain ⟨x, hx⟩ : ∃ x, x = l[k] := ⟨_, rfl⟩
  have HX : Hid (x = l[k]) := hx
  rw [← hx] at d0 d1 d2 d3 hrow hfit huk
  obtain ⟨⟨xb, xs, xp⟩, xw⟩ := x
  simp only at d0 d1 d2 d3 hrow hfit huk
  obtain ⟨hf1, hx1, hx4, hxp, hx32⟩ := hfit
  obtain ⟨B, hB⟩ : ∃ B : Nat, B = xb + 1 := ⟨_, rfl⟩
  rw [← hB] at d0
  have HB : Hid (B = xb + 1) := hB
  obtain ⟨M, hM⟩ : ∃ M : Nat, M = xw.length := ⟨_, rfl⟩
  rw [← hM] at d3
  have HM : Hid (M = xw.length ∧ xw.length = 8 * xs - 1) := ⟨hM, hf1⟩
  have hB32 : B ≤ 32 := by omega
  have hM31 : M ≤ 31 := by omega
  have hM1 : 7 ≤ M := by omega
  have hsbw : sb < w.heap.size := lt_of_block S.blk
  have hp4 := pickN_lt b (n := 4) (by omega)
  have HPB : Hid (∀ w1, Calls Tryz.prog 13 #[.int .i64 b, .int .i64 4] w1 fun e w' => e = .returned (.int .i64 (pickN b 4 : Nat)) ∧ w' = w1) := fun w1 => pickN_any b 4 w1 hb (by omega) (by omega)
  obtain ⟨p, hp⟩ : ∃ p : Nat, p = pickN b 4 := ⟨_, rfl⟩
  have HAL : Hid (∀ w1, Fr New w w1 → Calls Tryz.prog 14 #[.pointer (some ⟨sb, 0, none⟩), .int .i64 (1 + (q : Int)), .int .i64 (p : Int)] w1 fun e w' => e = .returned (.bool true) ∧ Played F sb n sts w w') := fun w1 hf => by
    have := kalloc_any F sb n ws now sts (1 + q) p (by omega) (by omega) (by omega) w1 ⟨hb', tb, cb, mb, g, vs, vn, vk, un, uk, S.new hf, hF⟩
    rw [show ((1 + q : Nat) : Int) = 1 + (q : Int) by omega] at this
    refine this.mono ?_
    rintro e w' ⟨rfl, now', F', q1, q2, q3, _⟩
    exact ⟨rfl, F', ws, now', sts, q1, (hf.mono (fun _ _ h => h.elim)).trans q2 (fun _ _ h => h), fun k hk => (q3 k hk).imp id (fun h => Nat.le_trans hf.size h), by omega⟩
  rw [← hp] at HPB
  clear S hF hp hp4 hq
  clear tn hkd hk0 hl hf1 hB hM hx hrow huk hfrz
  go_enter Tryz.func5, Tryz.ntmps5
  go_wp2_with (first
    | (go_at_call_of 13 (Value.int .i64 b); refine calls_same (HPB.out _) ?_)
    | (go_at_call_of 13 (Value.int .i64 4); refine calls_same (HPA.out _) ?_)
    | (go_at_call_of 13 (Value.int .i64 (l.length : Int)); refine calls_same (HPM.out _) ?_)
    | (go_at_call_of 13 (Value.int .i64 8); refine calls_same (HPW.out _) ?_)
    | (go_at_call 14; refine (HAL.out _ ((Fr.refl New w).alloc _)).mono ?_; rintro e w1 ⟨rfl, hend⟩)
    | fail)
  go_ret
  exact ⟨rfl, hend⟩
set_option maxHeartbeats 1000000 in
set_option maxRecDepth 100000 in
theorem play_commit (F : Nat → Prop) (sb n : Nat) (ws now : List Int) (sts : List St) (what a b c : Int) (w : World) (hw : I64 what) (ha : I64 a) (hlen : sts.length ≤ 1099511000000) (h : Story F sb n ws now sts w) (hne : (things now).length ≠ 0) (hv : pickN what 8 = 7) :
    Calls Tryz.prog 5 #[.pointer (some ⟨sb, 0, none⟩), .int .i64 what, .int .i64 a, .int .i64 b, .int .i64 c] w fun e w' => e = .returned (.bool true) ∧ Played F sb n sts w w' := by
  obtain ⟨hb', tb, cb, mb, g, vs, vn, vk, un, uk, S, hF⟩ := h
  obtain ⟨l, hl⟩ : ∃ l, l = things now := ⟨_, rfl⟩
  have HL : Hid (l = things now) := hl
  have tn : ThAt w vn l un := by rw [hl]; exact S.tn
  rw [← hl] at hne
  have hk0 := pickN_lt a hne
  obtain ⟨k, hkd⟩ : ∃ k, k = pickN a l.length := ⟨_, rfl⟩
  have hk : k < l.length := by rw [hkd]; exact hk0
  have hm32 : l.length ≤ 32 := tn.n
  obtain ⟨g2, cv, gi, ci, hvn, hg2, d0, d1, d2, d3, hrow, huk, hfrz, hgi⟩ := tn.at' k hk
  have hc2 := S.c2
  have hc0 := S.c0
  rw [hvn] at hc2
  have HPA : Hid (∀ w1, Calls Tryz.prog 13 #[.int .i64 a, .int .i64 4] w1 fun e w' => e = .returned (.int .i64 (pickN a 4 : Nat)) ∧ w' = w1) := fun w1 => pickN_any a 4 w1 ha (by omega) (by omega)
  have HPM : Hid (∀ w1, Calls Tryz.prog 13 #[.int .i64 a, .int .i64 (l.length : Int)] w1 fun e w' => e = .returned (.int .i64 (k : Int)) ∧ w' = w1) := fun w1 => by rw [hkd]; exact pickN_any a l.length w1 ha (by omega) (by omega)
  have HPW : Hid (∀ w1, Calls Tryz.prog 13 #[.int .i64 what, .int .i64 8] w1 fun e w' => e = .returned (.int .i64 7) ∧ w' = w1) := fun w1 => by
    have := pickN_any what 8 w1 hw (by omega) (by omega)
    rwa [hv] at this
  have hq4 := pickN_lt a (n := 4) (by omega)
  obtain ⟨q, hq⟩ : ∃ q : Nat, q = pickN a 4 := ⟨_, rfl⟩
  rw [← hq] at HPA hq4
  have hfit := tn.fit _ (List.getElem_mem hk)
  obtain ⟨x, hx⟩ : ∃ x, x = l[k] := ⟨_, rfl⟩
  have HX : Hid (x = l[k]) := hx
  rw [← hx] at d0 d1 d2 d3 hrow hfit huk
  obtain ⟨⟨xb, xs, xp⟩, xw⟩ := x
  simp only at d0 d1 d2 d3 hrow hfit huk
  obtain ⟨hf1, hx1, hx4, hxp, hx32⟩ := hfit
  obtain ⟨B, hB⟩ : ∃ B : Nat, B = xb + 1 := ⟨_, rfl⟩
  rw [← hB] at d0
  have HB : Hid (B = xb + 1) := hB
  obtain ⟨M, hM⟩ : ∃ M : Nat, M = xw.length := ⟨_, rfl⟩
  rw [← hM] at d3
  have HM : Hid (M = xw.length ∧ xw.length = 8 * xs - 1) := ⟨hM, hf1⟩
  have hB32 : B ≤ 32 := by omega
  have hM31 : M ≤ 31 := by omega
  have hM1 : 7 ≤ M := by omega
  have hsbw : sb < w.heap.size := lt_of_block S.blk
  have HCM : Hid (∀ w1, Fr New w w1 → Calls Tryz.prog 22 #[.pointer (some ⟨sb, 0, none⟩)] w1 fun e w' => e = .returned (.bool true) ∧ Played F sb n sts w w') := fun w1 hf => by
    refine (kcommit_any F sb n ws now sts w1 hlen ⟨hb', tb, cb, mb, g, vs, vn, vk, un, uk, S.new hf, hF⟩).mono ?_
    rintro e w' ⟨rfl, F', ws', now', sts', q1, q2, q3, q4⟩
    exact ⟨rfl, F', ws', now', sts', q1, (hf.mono (fun _ _ h => h.elim)).trans q2 (fun _ _ h => h), fun k hk => (q3 k hk).imp id (fun h => Nat.le_trans hf.size h), commit_len q4⟩
  clear S hF hq
  clear tn hkd hk0 hl hf1 hB hM hx hrow huk hfrz
  go_enter Tryz.func5, Tryz.ntmps5
  go_wp2_with (first
    | (go_at_call_of 13 (Value.int .i64 4); refine calls_same (HPA.out _) ?_)
    | (go_at_call_of 13 (Value.int .i64 (l.length : Int)); refine calls_same (HPM.out _) ?_)
    | (go_at_call_of 13 (Value.int .i64 8); refine calls_same (HPW.out _) ?_)
    | (go_at_call 22; refine (HCM.out _ ((Fr.refl New w).alloc _)).mono ?_; rintro e w1 ⟨rfl, hend⟩)
    | fail)
  go_ret
  exact ⟨rfl, hend⟩
end Go.Proofs.YtbagcjlimdilpabGreat

