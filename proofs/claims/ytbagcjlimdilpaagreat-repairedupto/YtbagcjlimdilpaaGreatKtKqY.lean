/- The walk of reached: the part of a shape that is. -/
import Derived.Test.YtbagcjlimdilpaaGreatKtJ22
import Derived.Test.YtbagcjlimdilpaaGreatKtJ18
import Derived.Deep.RegionHeld3
import Derived.Deep.AppendLies
namespace Go.Proofs.YtbagcjlimdilpaaGreat
open Go.RowKit Go.Maps

/-- a part of a shape while it is gathered -/
structure Part (w3 : World) (r0 r1 r2 r3 : Int) (l : List Th) (us : List Value) (out : List Bool) (i : Nat) (v' : Value) (wr : World) : Prop where
  o : wr.heap[w3.heap.size]? = some (.cells #[v', .int .i64 r0, .int .i64 r1, .int .i64 r2, .int .i64 r3] 37 (0, 0))
  own : wr.ownsRow w3.heap.size 54 4 v' (sel (l.take i) (out.take i)).length (ktCells (sel (l.take i) (out.take i)) (sel (us.take i) (out.take i)))
  f : Fr New w3 wr
theorem Part.skip {w3 wr : World} {r0 r1 r2 r3 : Int} {l : List Th} {us : List Value} {out : List Bool} {i : Nat} {v' : Value} (h : Part w3 r0 r1 r2 r3 l us out i v' wr) (hi : i < l.length) (hu : i < us.length) (ho : i < out.length) (hb : out[i] = false) : Part w3 r0 r1 r2 r3 l us out (i + 1) v' wr := by
  refine ⟨h.o, ?_, h.f⟩
  rw [sel_next l out i hi ho, sel_next us out i hu ho, hb]
  simpa using h.own
theorem Part.step {w3 wr w5 w7 : World} {r0 r1 r2 r3 : Int} {l : List Th} {us : List Value} {out : List Bool} {i : Nat} {v' v7 : Value} (h : Part w3 r0 r1 r2 r3 l us out i v' wr) (hi : i < l.length) (hu : i < us.length) (hlu : us.length = l.length) (ho : i < out.length) (hb : out[i] = true)
    (hf5 : Fr New wr w5) (hg7 : w5.grownBy w7 v'.ownBlock) (ho7 : w7.ownsRow w3.heap.size 54 4 v7 ((sel (l.take i) (out.take i)).length + 1) (ktCells (sel (l.take i) (out.take i)) (sel (us.take i) (out.take i)) ++ ktCell l[i] us[i])) :
    Part w3 r0 r1 r2 r3 l us out (i + 1) v7 (w7.setCell ⟨w3.heap.size, 0, none⟩ v7) := by
  have h7 : Fr (fun k => v'.ownBlock = some k) w5 w7 := (Fr.refl _ _).grown hg7 (fun k _ hk => hk)
  have h75 : Fr (fun k => v'.ownBlock = some k) wr w7 := (hf5.mono (fun _ _ h => h.elim)).trans h7 (fun _ _ h => h)
  have o7 := h75.heap h.o (fun hv => by
    obtain ⟨_, c', hc⟩ := own_block h.own hv
    exact type_ne h.o hc (by decide) rfl)
  have hst : Fr (fun k => k = w3.heap.size) w7 (w7.setCell ⟨w3.heap.size, 0, none⟩ v7) := (Fr.refl (fun k => k = w3.heap.size) w7).setCell (p := ⟨w3.heap.size, 0, none⟩) (fun _ => rfl) _
  refine ⟨?_, ?_, ?_⟩
  · rw [heap_setCell_same _ _ 0 _ _ _ o7]
    rfl
  · rw [sel_next l out i hi ho, sel_next us out i hu ho, hb]
    simp only [if_true]
    rw [ktCells_app _ _ _ _ (sel_len _ _ _ (by simp [hlu])), List.length_append]
    refine hst.owns (by simpa [ktCells] using ho7) (fun g hg e => ?_)
    obtain ⟨_, c', hc⟩ := own_block ho7 hg
    subst e
    exact type_ne o7 hc (by decide) rfl
  · refine (h.f.trans h75 (fun j hj hv => ?_)).trans hst (fun j hj e => by omega)
    have := (own_block h.own hv).1
    omega

set_option maxHeartbeats 2000000 in
set_option maxRecDepth 100000 in
theorem kreached_any (v : Value) (ws : List Int) (us : List Value) (r0 r1 r2 r3 : Int) (w : World) (hg : Good ws) (hro : ∀ k, k < 4 → root4 r0 r1 r2 r3 k = wd ws (3 + k)) (ht : ThAt w v (things ws) us) :
    Calls Tryz.prog 34 #[shV v r0 r1 r2 r3] w fun e w' => ∃ v' us' out, e = .returned (shV v' r0 r1 r2 r3) ∧ out.length = (objs ws).length ∧ (∀ i : Nat, out[i]? = some true ↔ Reach ws (objs ws) i) ∧ ThAt w' v' (sel (things ws) out) us' ∧ Fr New w w' := by
  obtain ⟨l, hl⟩ : ∃ l, l = things ws := ⟨_, rfl⟩
  have HL : Hid (l = things ws) := hl
  have HLO : Hid (l.map Prod.fst = objs ws) := by show _ = _; rw [hl]; simp [things, Function.comp_def]
  have hlen : (objs ws).length = l.length := by rw [hl, things_len]
  have HWD : Hid (∀ i (hi : i < l.length) (hi' : i < (objs ws).length), l[i] = ((objs ws)[i], objW ws (objs ws)[i])) := fun i hi hi' => by simp [hl, things]
  rw [← hl] at ht
  obtain ⟨ob, hob⟩ : ∃ ob, ob = objs ws := ⟨_, rfl⟩
  rw [← hob] at HLO hlen HWD
  rw [← hob, ← hl]
  have HT : Hid (∀ wr, Fr New w wr → ThAt wr v l us) := fun wr hf => ht.new hf
  have hl32 := ht.n
  have HFIT : Hid (∀ y ∈ l, y.2.length = 8 * y.1.span - 1 ∧ 1 ≤ y.1.span ∧ y.1.span ≤ 4 ∧ y.1.ptrs < 8 * y.1.span ∧ y.1.block < 32) := ht.fit
  have HROOT : Hid (∀ k, k < 4 → root4 r0 r1 r2 r3 k = wd ws (3 + k) ∧ 0 ≤ wd ws (3 + k) ∧ wd ws (3 + k) ≤ 32) := fun k hk => ⟨hro k hk, by
    rcases hg.root k hk with h | ⟨o, ho, h⟩
    · rw [h]; omega
    · have := objs_in ho
      have := hg.len
      rw [← h]
      omega⟩
  obtain ⟨av, cv, rfl⟩ := ht.slice
  clear ht hg hro hl hob
  obtain ⟨i0, hi0, hz0, hz1, hz2⟩ := info_parts Tryz.info4
  obtain ⟨i1, hi1, hy0, hy1, hy2⟩ := info_parts Tryz.info54
  go_enter Tryz.func34, Tryz.ntmps34
  go_upto_region 1 with fail
  have hsb0 : ((w.alloc (.cells #[.slice av l.length cv, .int .i64 r0, .int .i64 r1, .int .i64 r2, .int .i64 r3] 37)).alloc (.cells #[.slice none 0 0, .int .i64 0, .int .i64 0, .int .i64 0, .int .i64 0] 37)).heap[w.heap.size]? = some (.cells #[.slice av l.length cv, .int .i64 r0, .int .i64 r1, .int .i64 r2, .int .i64 r3] 37 (0, 0)) := ((Fr.refl New _).alloc _).heap (Go.Deep.blk_alloc_new w _) id
  have hrb0 : ((w.alloc (.cells #[.slice av l.length cv, .int .i64 r0, .int .i64 r1, .int .i64 r2, .int .i64 r3] 37)).alloc (.cells #[.slice none 0 0, .int .i64 0, .int .i64 0, .int .i64 0, .int .i64 0] 37)).heap[w.heap.size + 1]? = some (.cells #[.slice none 0 0, .int .i64 0, .int .i64 0, .int .i64 0, .int .i64 0] 37 (0, 0)) := by have := Go.Deep.blk_alloc_new (w.alloc (.cells #[.slice av l.length cv, .int .i64 r0, .int .i64 r1, .int .i64 r2, .int .i64 r3] 37)) (.cells #[.slice none 0 0, .int .i64 0, .int .i64 0, .int .i64 0, .int .i64 0] 37); simpa using this
  have hf1 : Fr New w ((w.alloc (.cells #[.slice av l.length cv, .int .i64 r0, .int .i64 r1, .int .i64 r2, .int .i64 r3] 37)).alloc (.cells #[.slice none 0 0, .int .i64 0, .int .i64 0, .int .i64 0, .int .i64 0] 37)) := ((Fr.refl New w).alloc _).alloc _
  obtain ⟨w1, hw1⟩ : ∃ w1, w1 = (w.alloc (.cells #[.slice av l.length cv, .int .i64 r0, .int .i64 r1, .int .i64 r2, .int .i64 r3] 37)).alloc (.cells #[.slice none 0 0, .int .i64 0, .int .i64 0, .int .i64 0, .int .i64 0] 37) := ⟨_, rfl⟩
  obtain ⟨sb, hsbe⟩ : ∃ sb, sb = w.heap.size := ⟨_, rfl⟩
  have HSBE : Hid (sb = w.heap.size) := hsbe
  rw [← hw1, ← hsbe] at hsb0 hrb0
  rw [← hw1] at hf1
  rw [← hw1, ← hsbe]
  have HF1 : Hid (Fr New w w1) := hf1
  have HT1 : Hid (∀ wr, Fr New w1 wr → ThAt wr (.slice av l.length cv) l us) := fun wr hf => HT.out wr (hf1.same hf)
  have HSB : Hid (∀ wr, Fr New w1 wr → wr.heap[sb]? = some (.cells #[.slice av l.length cv, .int .i64 r0, .int .i64 r1, .int .i64 r2, .int .i64 r3] 37 (0, 0))) := fun wr hf => hf.heap hsb0 id
  have HRB : Hid (∀ wr, Fr New w1 wr → wr.heap[sb + 1]? = some (.cells #[.slice none 0 0, .int .i64 0, .int .i64 0, .int .i64 0, .int .i64 0] 37 (0, 0))) := fun wr hf => hf.heap hrb0 id
  have HC : Hid (∀ wr, Fr New w1 wr → wr.cell? ⟨sb, 0, none⟩ = some (.slice av l.length cv) ∧ wr.cell? ⟨sb, 1, none⟩ = some (.int .i64 r0) ∧ wr.cell? ⟨sb, 2, none⟩ = some (.int .i64 r1) ∧ wr.cell? ⟨sb, 3, none⟩ = some (.int .i64 r2) ∧ wr.cell? ⟨sb, 4, none⟩ = some (.int .i64 r3)) := fun wr hf => by
    have hb := hf.heap hsb0 id
    exact ⟨((block_cells hb).1 0).trans rfl, ((block_cells hb).1 1).trans rfl, ((block_cells hb).1 2).trans rfl, ((block_cells hb).1 3).trans rfl, ((block_cells hb).1 4).trans rfl⟩
  have HAT0 : Hid (∀ y w2, Fr New w1 w2 → Calls Tryz.prog 27 #[.agg #[.slice av l.length cv, .int .i64 r0, .int .i64 r1, .int .i64 r2, .int .i64 r3], .int .u64 y] w2 fun e w' => e = .returned (.int .i64 (findI ob y)) ∧ Fr New w2 w') := fun y w2 hf => by
    have := kat_any (.slice av l.length cv) l us r0 r1 r2 r3 y w2 (HT1.out w2 hf)
    rwa [HLO.out] at this
  have c00 : w1.cell? ⟨sb, 0, none⟩ = some (.slice av l.length cv) := (HC.out w1 (Fr.refl _ _)).1
  clear hw1 hsbe hsb0 hrb0 hf1 HT
  go_wp2_with (first
    | (at_make; refine wpList_make_full _ rfl (.tmp 14) (.tmp 14) 124 rfl w1.heap.size 4 i0 (.bool false) 1 Tryz.underlying124 hi0 hz0 hz1 .i64 .i64 _ _ l.length rfl rfl rfl rfl (by rw [hz2]; omega) (by unfold maxLen; omega) (Nat.le_refl _) ?_; intro w2 hown1 hg1; have hm1 : Mem w1 w1.heap.size (List.replicate l.length false) w2 := ⟨BRow.ofOwn hown1 (made_false _), (Fr.refl New w1).grownNew hg1⟩; clear hown1 hg1)
    | fail)
  go_loopg [4] 4 (fun gh t wr => ∃ (r : Nat) (out : List Bool), r ≤ 4 ∧ gh = 4 - r ∧ t = .int .i64 r ∧ Marks ws ob r out ∧ Mem w1 w1.heap.size out wr)
  case atStart => exact ⟨0, _, by omega, rfl, rfl, by have := marks_none ws ob; rwa [hlen] at this, hm1⟩
  case round =>
    obtain ⟨r, out, hr4, rfl, rfl, hM, hmem⟩ := hrel
    clear hm1 c00
    obtain ⟨c0, c1, c2, c3, c4⟩ := HC.out wr hmem.fr
    by_cases hr : r < 4
    · have hrc := root_cells (HSB.out wr hmem.fr) r hr
      obtain ⟨he, hp, hp'⟩ := HROOT.out r hr
      obtain ⟨y, hy⟩ : ∃ y, y = wd ws (3 + r) := ⟨_, rfl⟩
      rw [he, ← hy] at hrc
      rw [← hy] at hp hp'
      have hwy : IntKind.u64.wrap y = y := by rw [IntKind.wrap_u64]; omega
      have HAT : Hid (∀ w2, Fr New w1 w2 → Calls Tryz.prog 27 #[.agg #[.slice av l.length cv, .int .i64 r0, .int .i64 r1, .int .i64 r2, .int .i64 r3], .int .u64 y] w2 fun e w' => e = .returned (.int .i64 (findI ob y)) ∧ Fr New w2 w') := HAT0.out y
      have b1 : (0 : Int) ≤ (r : Int) := by omega
      have b2 : (r : Int) < 4 := by omega
      clear he
      rcases hx : idx ob y with _ | k
      · have hnx := hM.next (fun k hk => by rw [← hy, hx] at hk; cases hk)
        rw [findI_none hx] at HAT
        clear hx hy
        go_upto_region 5 with fail
        go_region_held3 (fun w' => w'.cell? ⟨sb, 0, none⟩ = some (.slice av l.length cv) ∧ w'.cell? ⟨sb, 1, none⟩ = some (.int .i64 r0) ∧ w'.cell? ⟨sb, 2, none⟩ = some (.int .i64 r1) ∧ w'.cell? ⟨sb, 3, none⟩ = some (.int .i64 r2) ∧ w'.cell? ⟨sb, 4, none⟩ = some (.int .i64 r3) ∧ w'.cell? ⟨sb, 1 + r, none⟩ = some (.int .i64 y)) (first | go_keep | exact hkeep2)
          (first
            | (go_at_call 27; refine (HAT.out _ (by first | exact hmem.fr | exact hmem.fr.drew)).mono ?_; rintro e w3 ⟨rfl, hf3⟩; have hf3' : Fr New wr w3 := ((Fr.refl New wr).drew.same hf3); have hm3 := hmem.grow hf3'; have hkeep2 : w3.cell? ⟨sb, 0, none⟩ = some (.slice av l.length cv) ∧ w3.cell? ⟨sb, 1, none⟩ = some (.int .i64 r0) ∧ w3.cell? ⟨sb, 2, none⟩ = some (.int .i64 r1) ∧ w3.cell? ⟨sb, 3, none⟩ = some (.int .i64 r2) ∧ w3.cell? ⟨sb, 4, none⟩ = some (.int .i64 r3) ∧ w3.cell? ⟨sb, 1 + r, none⟩ = some (.int .i64 y) := ⟨hf3'.cell c0 id, hf3'.cell c1 id, hf3'.cell c2 id, hf3'.cell c3 id, hf3'.cell c4 id, hf3'.cell hrc id⟩)
            | fail)
        all_goals
          clear hkeep2

          go_wp2_with fail
          go_roundg (4 - (r + 1))
          case measure => omega
          case rel => exact ⟨r + 1, out, by omega, rfl, by go_num, hnx, (by first | exact hm3 | exact hm3.grow (Fr.refl New _).drew)⟩
      · have hk := idx_lt hx
        have hnx := (hM.mark hk (reach_root hr (by rw [← hy]; exact hx))).next (fun k' hk' => by rw [← hy, hx] at hk'; cases hk'; exact (set_true (by rw [hM.len]; exact hk)).2 (.inl rfl))
        rw [findI_some hx] at HAT
        have HKO : Hid (k < out.length) := by show _ < _; rw [hM.len]; exact hk
        have hkl : k < l.length := by omega
        clear hx hy
        go_upto_region 5 with fail
        go_region_held3 (fun w' => w'.cell? ⟨sb, 0, none⟩ = some (.slice av l.length cv) ∧ w'.cell? ⟨sb, 1, none⟩ = some (.int .i64 r0) ∧ w'.cell? ⟨sb, 2, none⟩ = some (.int .i64 r1) ∧ w'.cell? ⟨sb, 3, none⟩ = some (.int .i64 r2) ∧ w'.cell? ⟨sb, 4, none⟩ = some (.int .i64 r3) ∧ w'.cell? ⟨sb, 1 + r, none⟩ = some (.int .i64 y)) (first | go_keep | exact hkeep2)
          (first
            | (go_at_call 27; refine (HAT.out _ (by first | exact hmem.fr | exact hmem.fr.drew)).mono ?_; rintro e w3 ⟨rfl, hf3⟩; have hf3' : Fr New wr w3 := ((Fr.refl New wr).drew.same hf3); have hm3 := hmem.grow hf3'; have hkeep2 : w3.cell? ⟨sb, 0, none⟩ = some (.slice av l.length cv) ∧ w3.cell? ⟨sb, 1, none⟩ = some (.int .i64 r0) ∧ w3.cell? ⟨sb, 2, none⟩ = some (.int .i64 r1) ∧ w3.cell? ⟨sb, 3, none⟩ = some (.int .i64 r2) ∧ w3.cell? ⟨sb, 4, none⟩ = some (.int .i64 r3) ∧ w3.cell? ⟨sb, 1 + r, none⟩ = some (.int .i64 y) := ⟨hf3'.cell c0 id, hf3'.cell c1 id, hf3'.cell c2 id, hf3'.cell c3 id, hf3'.cell c4 id, hf3'.cell hrc id⟩; have hcl := hm3.row.cell k HKO.out; have hfz := hm3.row.free k; have hput := hm3.put k)
            | fail)
        all_goals
          clear hkeep2

          go_wp2_with fail
          go_roundg (4 - (r + 1))
          case measure => omega
          case rel => exact ⟨r + 1, _, by omega, rfl, by go_num, hnx, (by first | exact hput | exact (hm3.grow (Fr.refl New _).drew).put k)⟩
    · obtain rfl : r = 4 := by omega
      clear c1 c2 c3 c4
      go_wp2
      go_loopg [6] l.length (fun gh t wr => ∃ (n : Nat) (out : List Bool), n ≤ l.length ∧ gh = l.length - n ∧ t = .int .i64 n ∧ Marks ws ob 4 out ∧ ((∀ i, i < ob.length → ∀ p, Spread ws ob out i p) ∨ unmarked out + n ≤ ob.length) ∧ Mem w1 w1.heap.size out wr)
      case atStart => exact ⟨0, out, by omega, rfl, rfl, hM, .inr (by unfold unmarked; have := List.countP_le_length (l := out) (p := fun b => !b); have := hM.len; omega), hmem⟩
      case round =>
        clear hM hmem hr hr4 c0
        obtain ⟨n, out, hnl, rfl, rfl, hM, hcl, hmem⟩ := hrel
        obtain ⟨c0, _⟩ := HC.out wr hmem.fr
        by_cases hn : n < l.length
        · have hd0 : decide ((n : Int) < (l.length : Int)) = true := by simp; omega
          have hP0 := Pass.start hM
          obtain ⟨U0, hU0⟩ : ∃ U0, U0 = unmarked out := ⟨_, rfl⟩
          rw [← hU0] at hP0
          have HEND : Hid (∀ out' m, Pass ws ob U0 out' m ob.length → (∀ i, i < ob.length → ∀ p, Spread ws ob out' i p) ∨ unmarked out' + (n + 1) ≤ ob.length) := fun out' m hP => pass_end hM hcl (by rw [← hU0]; exact hP)
          clear hM hU0 hcl
          go_wp2
          go_loopg [7] l.length (fun gh ti wr => ∃ (out : List Bool) (m : Bool) (i : Nat), ti = .int .i64 i ∧ i ≤ l.length ∧ gh = l.length - i ∧ Pass ws ob U0 out m i ∧ Mem w1 w1.heap.size out wr)
          case atStart => exact ⟨out, false, 0, rfl, by omega, rfl, hP0, hmem⟩
          case round =>
            clear hP0 hmem c0
            obtain ⟨out', m, i, rfl, hil, rfl, hP, hmem⟩ := hrel
            obtain ⟨c0, _⟩ := HC.out wr hmem.fr
            by_cases hi : i < l.length
            · have hd1 : decide ((i : Int) < (l.length : Int)) = true := by simp; omega
              have hi' : i < ob.length := by omega
              have hfi := HFIT.out l[i] (List.getElem_mem _)
              have HLI : Hid (l[i] = (ob[i], objW ws ob[i])) := HWD.out i hi hi'
              obtain ⟨P, hPe⟩ : ∃ P : Nat, P = (l[i]).1.ptrs := ⟨_, rfl⟩
              obtain ⟨M, hMe⟩ : ∃ M : Nat, M = (l[i]).2.length := ⟨_, rfl⟩
              have HPO : Hid (P = (ob[i]).ptrs) := by show _ = _; rw [hPe, HLI.out]
              have hPM : P ≤ M := by omega
              have hM31 : M ≤ 31 := by omega
              have HAW : Hid (∀ wr, Fr New w1 wr → ∃ g2 gi2 ci2, av = some ⟨g2, 0, none⟩ ∧ wr.cell? ⟨g2, i * 4 + 2, none⟩ = some (.int .i64 P) ∧ wr.cell? ⟨g2, i * 4 + 3, none⟩ = some (.slice (some ⟨gi2, 0, none⟩) M ci2) ∧ ∀ p, p < P → wr.cell? ⟨gi2, p, none⟩ = some (.int .u64 (wd ws (pl ob[i] p)))) := fun wr hf => by
                obtain ⟨g2, cg2, gi2, ci2, hv2, hg2, d0, d1, d2, d3, hr2, _, _, hgi2⟩ := (HT1.out wr hf).at' i hi
                cases hv2
                refine ⟨g2, gi2, ci2, rfl, by rw [hPe]; exact d2, by rw [hMe]; exact d3, fun p hp => ?_⟩
                obtain ⟨ad, e, hc⟩ := hr2 p (by omega)
                cases e
                rw [add_plain, Nat.zero_add] at hc
                rw [← wd_objW (now := ws) (by have := HPO.out; have := hfi.2.2.2.1; rw [HLI.out] at this; simp only at this; omega)]
                rw [HLI.out] at hc
                exact hc
              clear hPe hMe hfi
              go_wp2
              go_loopg [8] P (fun gh tp wr => ∃ (out : List Bool) (m : Bool) (p : Nat), tp = .int .i64 p ∧ p ≤ P ∧ gh = P - p ∧ Pass ws ob U0 out m i ∧ (m = false → Spread ws ob out i p) ∧ Mem w1 w1.heap.size out wr)
              case atStart => exact ⟨out', m, 0, rfl, by omega, rfl, hP, fun _ => spread_zero, hmem⟩
              case round =>
                clear hP hmem c0
                obtain ⟨out, m, p, rfl, hpp, rfl, hP, hSp, hmem⟩ := hrel
                obtain ⟨c0, c1, c2, c3, c4⟩ := HC.out wr hmem.fr
                obtain ⟨g2, gi2, ci2, rfl, d2, d3, dw⟩ := HAW.out wr hmem.fr
                have hio : i < out.length := by rw [hP.marks.len]; exact hi'
                have hci := hmem.row.cell i hio
                rcases hoi : out[i] with _ | _
                · rw [hoi] at hci
                  have hnx := hP.next (fun _ p => spread_not (by rw [List.getElem?_eq_getElem hio, hoi]; simp) p)
                  clear hoi hSp hP dw
                  go_wp2
                  go_roundg (l.length - (i + 1))
                  case measure => omega
                  case rel => exact ⟨out, m, i + 1, by go_num, by omega, rfl, hnx, hmem⟩
                · rw [hoi] at hci
                  by_cases hp : p < P
                  · have hd : decide ((p : Int) < (P : Int)) = true := by simp; omega
                    obtain ⟨h, hh⟩ : ∃ h, h = wd ws (pl ob[i] p) := ⟨_, rfl⟩
                    have hcw : wr.cell? ⟨gi2, p, none⟩ = some (.int .u64 h) := by rw [hh]; exact dw p hp
                    have HAT : Hid (∀ w2, Fr New w1 w2 → Calls Tryz.prog 27 #[.agg #[.slice (some ⟨g2, 0, none⟩) l.length cv, .int .i64 r0, .int .i64 r1, .int .i64 r2, .int .i64 r3], .int .u64 h] w2 fun e w' => e = .returned (.int .i64 (findI ob h)) ∧ Fr New w2 w') := HAT0.out h
                    have HOI : Hid (out[i]? = some true) := (List.getElem?_eq_getElem hio).trans (by rw [hoi])
                    have hpi : p < (ob[i]).ptrs := by rw [← HPO.out]; exact hp
                    have b1 : (0 : Int) ≤ (i : Int) := by omega
                    have b2 : (i : Int) < (l.length : Int) := by omega
                    have b3 : (0 : Int) ≤ (p : Int) := by omega
                    have b4 : (p : Int) < (M : Int) := by omega
                    clear hoi dw
                    rcases hx : idx ob h with _ | k
                    · have hsp : m = false → Spread ws ob out i (p + 1) := fun hm => spread_more (hSp hm) (fun hi' k hk => by rw [← hh, hx] at hk; cases hk)
                      rw [findI_none hx] at HAT
                      clear hx hSp hpi hh
                      go_upto_region 17 with fail
                      go_region_held3 (fun w' => w'.cell? ⟨sb, 0, none⟩ = some (.slice (some ⟨g2, 0, none⟩) l.length cv) ∧ w'.cell? ⟨sb, 1, none⟩ = some (.int .i64 r0) ∧ w'.cell? ⟨sb, 2, none⟩ = some (.int .i64 r1) ∧ w'.cell? ⟨sb, 3, none⟩ = some (.int .i64 r2) ∧ w'.cell? ⟨sb, 4, none⟩ = some (.int .i64 r3) ∧ w'.cell? ⟨g2, i * 4 + 3, none⟩ = some (.slice (some ⟨gi2, 0, none⟩) M ci2) ∧ w'.cell? ⟨gi2, p, none⟩ = some (.int .u64 h)) (first | go_keep | exact hkeep2)
                        (first
                          | (go_at_call 27; refine (HAT.out _ (by first | exact hmem.fr | exact hmem.fr.drew)).mono ?_; rintro e w3 ⟨rfl, hf3⟩; have hf3' : Fr New wr w3 := ((Fr.refl New wr).drew.same hf3); have hm3 := hmem.grow hf3'; have hkeep2 : w3.cell? ⟨sb, 0, none⟩ = some (.slice (some ⟨g2, 0, none⟩) l.length cv) ∧ w3.cell? ⟨sb, 1, none⟩ = some (.int .i64 r0) ∧ w3.cell? ⟨sb, 2, none⟩ = some (.int .i64 r1) ∧ w3.cell? ⟨sb, 3, none⟩ = some (.int .i64 r2) ∧ w3.cell? ⟨sb, 4, none⟩ = some (.int .i64 r3) ∧ w3.cell? ⟨g2, i * 4 + 3, none⟩ = some (.slice (some ⟨gi2, 0, none⟩) M ci2) ∧ w3.cell? ⟨gi2, p, none⟩ = some (.int .u64 h) := ⟨hf3'.cell c0 id, hf3'.cell c1 id, hf3'.cell c2 id, hf3'.cell c3 id, hf3'.cell c4 id, hf3'.cell d3 id, hf3'.cell hcw id⟩)
                          | fail)
                      all_goals
                        clear hkeep2

                        go_wp2_with fail
                        go_roundg (P - (p + 1))
                        case measure => omega
                        case rel => exact ⟨out, m, p + 1, by go_num, by omega, rfl, hP, hsp, (by first | exact hm3 | exact hm3.grow (Fr.refl New _).drew)⟩
                    · have hk := idx_lt hx
                      have hkl : k < l.length := by omega
                      have hko : k < out.length := by rw [hP.marks.len]; exact hk
                      have HKO : Hid (k < out.length) := hko
                      rw [findI_some hx] at HAT
                      have HNX : Hid (∃ m', Pass ws ob U0 (out.set k true) m' i ∧ (m' = false → Spread ws ob (out.set k true) i (p + 1))) := by
                        rcases hok : out[k] with _ | _
                        · exact ⟨true, hP.mark hk (reach_step hi' (hP.marks.sound i HOI.out) hpi (by rw [← hh]; exact hx)) ((List.getElem?_eq_getElem hko).trans (congrArg some hok)), fun h => by cases h⟩
                        · have he : out.set k true = out := by
                            refine List.ext_getElem (by simp) (fun j h1 h2 => ?_)
                            rw [List.getElem_set]
                            split
                            · rename_i hkj; subst hkj; exact hok.symm
                            · rfl
                          rw [he]
                          exact ⟨m, hP, fun hm => spread_more (hSp hm) (fun hi' k' hk' => by rw [← hh, hx] at hk'; cases hk'; exact (List.getElem?_eq_getElem hko).trans (congrArg some hok))⟩
                      clear hx hSp hpi hh hP hko
                      go_upto_region 17 with fail
                      go_region_held3 (fun w' => w'.cell? ⟨sb, 0, none⟩ = some (.slice (some ⟨g2, 0, none⟩) l.length cv) ∧ w'.cell? ⟨sb, 1, none⟩ = some (.int .i64 r0) ∧ w'.cell? ⟨sb, 2, none⟩ = some (.int .i64 r1) ∧ w'.cell? ⟨sb, 3, none⟩ = some (.int .i64 r2) ∧ w'.cell? ⟨sb, 4, none⟩ = some (.int .i64 r3) ∧ w'.cell? ⟨g2, i * 4 + 3, none⟩ = some (.slice (some ⟨gi2, 0, none⟩) M ci2) ∧ w'.cell? ⟨gi2, p, none⟩ = some (.int .u64 h)) (first | go_keep | exact hkeep2)
                        (first
                          | (go_at_call 27; refine (HAT.out _ (by first | exact hmem.fr | exact hmem.fr.drew)).mono ?_; rintro e w3 ⟨rfl, hf3⟩; have hf3' : Fr New wr w3 := ((Fr.refl New wr).drew.same hf3); have hm3 := hmem.grow hf3'; have hkeep2 : w3.cell? ⟨sb, 0, none⟩ = some (.slice (some ⟨g2, 0, none⟩) l.length cv) ∧ w3.cell? ⟨sb, 1, none⟩ = some (.int .i64 r0) ∧ w3.cell? ⟨sb, 2, none⟩ = some (.int .i64 r1) ∧ w3.cell? ⟨sb, 3, none⟩ = some (.int .i64 r2) ∧ w3.cell? ⟨sb, 4, none⟩ = some (.int .i64 r3) ∧ w3.cell? ⟨g2, i * 4 + 3, none⟩ = some (.slice (some ⟨gi2, 0, none⟩) M ci2) ∧ w3.cell? ⟨gi2, p, none⟩ = some (.int .u64 h) := ⟨hf3'.cell c0 id, hf3'.cell c1 id, hf3'.cell c2 id, hf3'.cell c3 id, hf3'.cell c4 id, hf3'.cell d3 id, hf3'.cell hcw id⟩; have hcl := hm3.row.cell k HKO.out; have hfz := hm3.row.free k; have hput := hm3.put k)
                          | fail)
                      all_goals
                        clear hkeep2

                        go_wp2_with fail
                        obtain ⟨m', hP', hS'⟩ := HNX.out
                        go_roundg (P - (p + 1))
                        case measure => omega
                        case rel => exact ⟨_, m', p + 1, by go_num, by omega, rfl, hP', hS', (by first | exact hput | exact (hm3.grow (Fr.refl New _).drew).put k)⟩
                  · have hd : decide ((p : Int) < (P : Int)) = false := by simp; omega
                    have hnx := hP.next (fun hm p' => spread_all (hSp hm) hi' (by rw [← HPO.out]; omega) p')
                    clear hoi hSp hP dw
                    go_wp2
                    go_roundg (l.length - (i + 1))
                    case measure => omega
                    case rel => exact ⟨out, m, i + 1, by go_num, by omega, rfl, hnx, hmem⟩
            · obtain rfl : i = l.length := by omega
              have hd1 : decide ((l.length : Int) < (l.length : Int)) = false := by simp
              have he := HEND.out out' m (by rw [hlen]; exact hP)
              have hM' := hP.marks
              go_wp2
              go_roundg (l.length - (n + 1))
              case measure => omega
              case rel => exact ⟨n + 1, out', by omega, rfl, by go_num, hM', he, hmem⟩
        · obtain rfl : n = l.length := by omega
          have hd0 : decide ((l.length : Int) < (l.length : Int)) = false := by simp
          have HD : Hid (∀ i : Nat, out[i]? = some true ↔ Reach ws ob i) := passes_done hM (by rw [hlen] at hcl ⊢; exact hcl)
          have HOL : Hid (out.length = l.length) := by show _ = _; rw [hM.len, hlen]
          clear hM hcl hn hnl
          obtain ⟨_, c1, c2, c3, c4⟩ := HC.out wr hmem.fr
          go_upto_region 21 with fail
          have HPT : Hid (Part wr r0 r1 r2 r3 l us out 0 (.slice none 0 0) (wr.alloc (.cells #[.slice none 0 0, .int .i64 r0, .int .i64 r1, .int .i64 r2, .int .i64 r3] 37))) := by
            refine ⟨Go.Deep.blk_alloc_new wr _, ?_, (Fr.refl New wr).alloc _⟩
            simp only [List.take_zero, sel, List.length_nil, ktCells]
            exact ⟨by simp, .inl ⟨rfl, rfl⟩⟩
          have HM3 : Hid (Mem w1 w1.heap.size out wr) := hmem
          have hg1 : w1.heap.size < wr.heap.size := lt_of_block hmem.row
          obtain ⟨w3, hw3⟩ : ∃ w3, w3 = wr := ⟨_, rfl⟩
          obtain ⟨wa, hwa⟩ : ∃ wa, wa = wr.alloc (.cells #[.slice none 0 0, .int .i64 r0, .int .i64 r1, .int .i64 r2, .int .i64 r3] 37) := ⟨_, rfl⟩
          rw [← hwa] at HPT
          rw [← hwa]
          clear hwa hmem c0 c1 c2 c3 c4 hd0
          rw [← hw3] at HPT HM3 hg1
          rw [← hw3]
          clear hw3
          have HFW : Hid (∀ wq, Fr New w3 wq → Fr New w1 wq) := fun wq hf => HM3.out.fr.same hf
          go_wp2
          go_loopg [11] l.length (fun gh vi wr => ∃ (i : Nat) (v' : Value), i ≤ l.length ∧ gh = l.length - i ∧ vi = .int .i64 (i : Int) ∧ Part w3 r0 r1 r2 r3 l us out i v' wr)
          case atStart => exact ⟨0, _, by omega, rfl, rfl, HPT.out⟩
          case round =>
            clear HPT
            obtain ⟨i, v', hil, rfl, rfl, hP⟩ := hrel
            obtain ⟨c0, _⟩ := HC.out wr (HFW.out wr hP.f)
            by_cases hi : i < l.length
            · have hd0 : decide ((i : Int) < (l.length : Int)) = true := by simp; omega
              have hio : i < out.length := by rw [HOL.out]; exact hi
              have hci : wr.cell? ⟨w1.heap.size, i, none⟩ = some (.bool out[i]) := hP.f.cell (HM3.out.row.cell i hio) id
              rcases hoi : out[i] with _ | _
              · rw [hoi] at hci
                have hnx := hP.skip hi (by rw [(HT1.out wr (HFW.out wr hP.f)).len]; exact hi) hio hoi
                clear hoi hP
                go_wp2
                go_roundg (l.length - (i + 1))
                case measure => omega
                case rel => exact ⟨i + 1, _, by omega, rfl, by go_num, hnx⟩
              · rw [hoi] at hci
                have hT := HT1.out wr (HFW.out wr hP.f)
                obtain ⟨g2, cg2, gi2, ci2, hv2, hg2, d0, d1, d2, d3, hr2, ⟨huv, hu2⟩, _, hgi2⟩ := hT.at' i hi
                cases hv2
                have hg3 : g2 < w3.heap.size := by
                  obtain ⟨g', c', _, _, e, h, _⟩ := (HT1.out w3 HM3.out.fr).at' i hi
                  cases e
                  exact h
                have hul := hT.len
                have hfi := HFIT.out l[i] (List.getElem_mem _)
                obtain ⟨a3, c3, rfl⟩ := own_slice hP.own
                have HN : Hid ((sel (l.take i) (out.take i)).length ≤ 32) := by
                  have h1 := sel_le (l.take i) (out.take i)
                  have h2 : (l.take i).length ≤ 32 := by simp; omega
                  exact Nat.le_trans h1 h2
                have HOW : Hid (∀ w5, Fr New wr w5 → w5.ownsRow w3.heap.size 54 4 (.slice a3 (sel (l.take i) (out.take i)).length c3) (sel (l.take i) (out.take i)).length (ktCells (sel (l.take i) (out.take i)) (sel (us.take i) (out.take i)))) := fun w5 f5 => f5.owns hP.own (fun _ _ h => h)
                have HSTP : Hid (∀ w5 w7 v7, Fr New wr w5 → w5.grownBy w7 (Value.slice a3 (sel (l.take i) (out.take i)).length c3).ownBlock → w7.ownsRow w3.heap.size 54 4 v7 ((sel (l.take i) (out.take i)).length + 1) (ktCells (sel (l.take i) (out.take i)) (sel (us.take i) (out.take i)) ++ [.int .i64 (((l[i]).1.block + 1 : Nat) : Int), .int .i64 (l[i]).1.span, .int .i64 (l[i]).1.ptrs, .slice (some ⟨gi2, 0, none⟩) (l[i]).2.length ci2]) → Part w3 r0 r1 r2 r3 l us out (i + 1) v7 (w7.setCell ⟨w3.heap.size, 0, none⟩ v7)) := fun w5 w7 v7 f5 g7 o7 => hP.step hi huv hul hio hoi f5 g7 (by rw [hu2]; exact o7)
                have HK7 : Hid (∀ w5 w7, Fr New wr w5 → w5.grownBy w7 (Value.slice a3 (sel (l.take i) (out.take i)).length c3).ownBlock → Fr (fun k => w3.heap.size < k ∨ w3.heap.size ≤ k ∧ k ≠ w3.heap.size) wr w7) := fun w5 w7 f5 g7 => by
                  have h7 : Fr (fun k => (Value.slice a3 (sel (l.take i) (out.take i)).length c3).ownBlock = some k) wr w7 := (f5.mono (fun _ _ h => h.elim)).trans ((Fr.refl _ _).grown g7 (fun k _ hk => hk)) (fun _ _ h => h)
                  refine h7.mono (fun k _ hk => ?_)
                  obtain ⟨hge, c', hc⟩ := own_block hP.own hk
                  rcases Nat.lt_or_ge w3.heap.size k with h | h
                  · exact .inl h
                  · exfalso
                    obtain rfl : k = w3.heap.size := by omega
                    exact type_ne hP.o hc (by decide) rfl
                have hpo : wr.cell? ⟨w3.heap.size, 0, none⟩ = some (.slice a3 (sel (l.take i) (out.take i)).length c3) := ((block_cells hP.o).1 0).trans rfl
                have hpz : wr.frozen? ⟨w3.heap.size, 0, none⟩ = false := (block_cells hP.o).2 0
                have HPO : Hid (wr.heap[w3.heap.size]? = some (.cells #[.slice a3 (sel (l.take i) (out.take i)).length c3, .int .i64 r0, .int .i64 r1, .int .i64 r2, .int .i64 r3] 37 (0, 0))) := hP.o
                obtain ⟨x, hx⟩ : ∃ x, x = l[i] := ⟨_, rfl⟩
                rw [← hx] at d0 d1 d2 d3 hfi HSTP
                obtain ⟨⟨xb, xs, xp⟩, xw⟩ := x
                simp only at d0 d1 d2 d3 hfi HSTP
                obtain ⟨hf1, hx1, hx4, hxp, hx32⟩ := hfi
                obtain ⟨B, hB⟩ : ∃ B : Nat, B = xb + 1 := ⟨_, rfl⟩
                rw [← hB] at d0 HSTP
                obtain ⟨m, hm⟩ : ∃ m : Nat, m = xw.length := ⟨_, rfl⟩
                rw [← hm] at d3 HSTP
                obtain ⟨N, hN⟩ : ∃ N, N = (sel (l.take i) (out.take i)).length := ⟨_, rfl⟩
                rw [← hN] at hpo HOW HSTP HK7 HN HPO
                have hN32 := HN.out
                have hm31 : m ≤ 31 := by omega
                have hB32 : B ≤ 32 := by omega
                have hlt3 : w3.heap.size < wr.heap.size := lt_of_block HPO.out
                have hsb3 : sb < w1.heap.size := lt_of_block (HSB.out w1 (Fr.refl _ _))
                have HKEEP : Hid (∀ w5 w7, Fr New wr w5 → w5.grownBy w7 (Value.slice a3 N c3).ownBlock → (w7.cell? ⟨sb, 0, none⟩ = some (.slice (some ⟨g2, 0, none⟩) l.length cv) ∧ w7.cell? ⟨g2, i * 4, none⟩ = some (.int .i64 (B : Int)) ∧ w7.cell? ⟨g2, i * 4 + 1, none⟩ = some (.int .i64 (xs : Int)) ∧ w7.cell? ⟨g2, i * 4 + 2, none⟩ = some (.int .i64 (xp : Int)) ∧ w7.cell? ⟨g2, i * 4 + 3, none⟩ = some (.slice (some ⟨gi2, 0, none⟩) m ci2)) ∧ w7.cell? ⟨w3.heap.size, 0, none⟩ = some (.slice a3 N c3) ∧ w7.frozen? ⟨w3.heap.size, 0, none⟩ = false ∧ w3.heap.size < w7.heap.size) := fun w5 w7 f5 g7 => by
                  have h7 := HK7.out w5 w7 f5 g7
                  have hb7 := h7.heap HPO.out (by omega)
                  exact ⟨⟨h7.cell c0 (by simp; omega), h7.cell d0 (by simp; omega), h7.cell d1 (by simp; omega), h7.cell d2 (by simp; omega), h7.cell d3 (by simp; omega)⟩, ((block_cells hb7).1 0).trans rfl, (block_cells hb7).2 0, lt_of_block hb7⟩
                have b1 : (0 : Int) ≤ (i : Int) := by omega
                have b2 : (i : Int) < (l.length : Int) := by omega
                clear hx hB hm hf1 hP hT hu2 hoi hr2 hN
                go_upto_region 25 with fail
                go_region_law (first
                    | (refine step_append_lies _ (by rfl) (.tmp 93) (.tmp 99) 34 (by rfl) w3.heap.size 54 i1 _ 4 48 Tryz.underlying34 hi1 hy0 hy1 hy2 rfl (by decide) (.slice a3 N c3) N _ (by rfl) (HOW.out _ (by first | exact (Fr.refl New wr).alloc _ | exact (Fr.refl New wr).drew.alloc _ | exact ((Fr.refl New wr).alloc _).drew)) ⟨wr.heap.size, 0, none⟩ 1 1 [.int .i64 (B : Int), .int .i64 (xs : Int), .int .i64 (xp : Int), .slice (some ⟨gi2, 0, none⟩) m ci2] (by rfl) rfl (World.news_of_block (by first | exact Go.Deep.blk_alloc_new wr _ | exact Go.Deep.blk_alloc_new wr.drew _)) (by intro u hu; simp at hu; rcases hu with rfl | rfl | rfl | rfl <;> rfl) (by decide) (by unfold maxLen; omega) (by omega) (by simp; omega) _ rfl ?_; intro g7 c7 w7 ho7 hg7 _ _; have hst7 := HSTP.out _ w7 _ (by first | exact (Fr.refl New wr).alloc _ | exact (Fr.refl New wr).drew.alloc _ | exact ((Fr.refl New wr).alloc _).drew) hg7 ho7; obtain ⟨hkeep3, hk7, hz7, hlt7⟩ := HKEEP.out _ w7 (by first | exact (Fr.refl New wr).alloc _ | exact (Fr.refl New wr).drew.alloc _ | exact ((Fr.refl New wr).alloc _).drew) hg7)
                    | fail)
                all_goals
                  clear hkeep3
                  go_wp2_with fail
                  go_roundg (l.length - (i + 1))
                  case measure => omega
                  case rel => exact ⟨i + 1, _, by omega, rfl, by go_num, hst7⟩
            · obtain rfl : i = l.length := by omega
              have hd0 : decide ((l.length : Int) < (l.length : Int)) = false := by simp
              have hT3 := HT1.out w3 HM3.out.fr
              have hown := hP.own
              have hul := hT3.len
              rw [List.take_length, List.take_of_length_le (by rw [HOL.out]; exact Nat.le_refl _), List.take_of_length_le (by rw [hul]; exact Nat.le_refl _)] at hown
              have hT := hT3.part hP.f (own_le hown (Nat.zero_le _))
              obtain ⟨a3, c3, rfl⟩ := hT.slice
              obtain ⟨N, hN⟩ : ∃ N, N = (sel l out).length := ⟨_, rfl⟩
              have hres := HRB.out wr (HFW.out wr hP.f)
              obtain ⟨hcr, hzr⟩ := block_cells hres
              obtain ⟨hco, _⟩ := block_cells hP.o
              have o0 : wr.cell? ⟨w3.heap.size, 0, none⟩ = some (.slice a3 N c3) := by rw [hN]; exact (hco 0).trans rfl
              have o1 : wr.cell? ⟨w3.heap.size, 1, none⟩ = some (.int .i64 r0) := (hco 1).trans rfl
              have o2 : wr.cell? ⟨w3.heap.size, 2, none⟩ = some (.int .i64 r1) := (hco 2).trans rfl
              have o3 : wr.cell? ⟨w3.heap.size, 3, none⟩ = some (.int .i64 r2) := (hco 3).trans rfl
              have o4 : wr.cell? ⟨w3.heap.size, 4, none⟩ = some (.int .i64 r3) := (hco 4).trans rfl
              have HFF : Hid (Fr New w wr) := HF1.out.same (HFW.out wr hP.f)
              have HTT : Hid (ThAt wr (.slice a3 N c3) (sel l out) (sel us out)) := by rw [hN]; exact hT
              clear hP hco hT hown hT3 hN
              go_wp2
              refine bodyPost_ret (v := shV (.slice a3 N c3) r0 r1 r2 r3) (by simp [results, Tryz.results34, go_sem, hcr]) rfl ⟨_, sel us out, out, rfl, by rw [HOL.out, hlen], HD.out, ?_, ?_⟩
              · have hb : Fr (fun k => k = sb + 1) wr (((((wr.setCell ⟨sb + 1, 0, none⟩ (.slice a3 N c3)).setCell ⟨sb + 1, 1, none⟩ (.int .i64 r0)).setCell ⟨sb + 1, 2, none⟩ (.int .i64 r1)).setCell ⟨sb + 1, 3, none⟩ (.int .i64 r2)).setCell ⟨sb + 1, 4, none⟩ (.int .i64 r3)) := by
                  iterate 5 refine Fr.setCell (T := fun k => k = sb + 1) ?_ (fun _ => rfl) _
                  exact Fr.refl _ _
                exact HTT.out.fr hb (fun k hk e => by subst e; exact HTT.out.no hres (by decide) (by decide) hk)
              · iterate 5 refine Fr.setCell ?_ (fun h => absurd h (by have := HSBE.out; simp; omega)) _
                exact HFF.out
end Go.Proofs.YtbagcjlimdilpaaGreat
