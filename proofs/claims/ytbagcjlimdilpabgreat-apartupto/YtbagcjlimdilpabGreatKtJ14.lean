/- Texts that follow one another, joined. -/
import Derived.Test.YtbagcjlimdilpabGreatKtJ11
import Derived.Test.YtbagcjlimdilpabGreatKtPgH
import Derived.Deep.RegionHeld3
import Derived.Deep.AppendLies
/- The walk of the program's Objects. -/
namespace Go.Proofs.YtbagcjlimdilpabGreat
open Go.RowKit Go.Maps

theorem Tryz.info45 : (Tryz.prog.info? 45).map (fun i => (i.zero, i.size, i.bytes)) = some (some (.agg #[.int .i64 0, .int .i64 0, .int .i64 0, .slice none 0 0]), 4, 48) := by kernel_rfl
/-- an object as it is told -/
def aoCell (o : Ob) (g : Nat) : List Value := [.int .i64 ((o.block + 1 : Nat) : Int), .int .i64 o.span, .int .i64 o.ptrs, .slice (some ⟨g, 0, none⟩) (8 * o.span - 1) (8 * o.span - 1)]
def aoCells (l : List Ob) (gs : List Nat) : List Value := (List.zipWith aoCell l gs).flatten
theorem aoCells_snoc {l : List Ob} {gs : List Nat} (h : l.length = gs.length) (o : Ob) (g : Nat) : aoCells (l ++ [o]) (gs ++ [g]) = aoCells l gs ++ aoCell o g := by
  unfold aoCells
  rw [List.zipWith_append (by exact h)]
  simp
theorem aoCell_one (o : Ob) (g : Nat) : ∀ u ∈ aoCell o g, u.oneCell' = true := by
  intro u hu
  simp only [aoCell, List.mem_cons, List.not_mem_nil, or_false] at hu
  rcases hu with rfl | rfl | rfl | rfl <;> rfl
/-- objects that were told: the list, and each one's words -/
structure ToldO (B : Nat) (w : World) (v : Value) (now : List Int) (l : List Ob) (gs : List Nat) : Prop where
  own : w.ownsRow B 45 4 v l.length (aoCells l gs)
  len : l.length = gs.length
  rows : ∀ i (hi : i < l.length) (hg : i < gs.length), Row w (gs[i]) (objW now l[i])
  base : ∀ g ∈ gs, B ≤ g
  nodup : gs.Nodup
  lt : ∀ g ∈ gs, g < w.heap.size
theorem ToldO.fr {B : Nat} {w w' : World} {v : Value} {now : List Int} {l : List Ob} {gs : List Nat} (h : ToldO B w v now l gs) (hf : Fr New w w') : ToldO B w' v now l gs :=
  ⟨hf.owns h.own (fun _ _ h => h), h.len, fun i hi hg => hf.heap (h.rows i hi hg) id, h.base, h.nodup, fun g hg => Nat.lt_of_lt_of_le (h.lt g hg) hf.size⟩
/-- behind one more -/
theorem ToldO.more {B : Nat} {w w1 w2 : World} {v v2 : Value} {now : List Int} {l : List Ob} {gs : List Nat} {o : Ob} {g : Nat} (h : ToldO B w v now l gs) (hf : Fr New w w1) (hg : w1.grownBy w2 v.ownBlock) (hr : Row w1 g (objW now o)) (hgw : w.heap.size ≤ g) (hB : B ≤ w.heap.size)
    (ho : w2.ownsRow B 45 4 v2 (l.length + 1) (aoCells l gs ++ aoCell o g)) : ToldO B w2 v2 now (l ++ [o]) (gs ++ [g]) ∧ Fr (fun k => B ≤ k) w w2 := by
  have h1 := h.fr hf
  have h2 : Fr (fun k => v.ownBlock = some k) w1 w2 := (Fr.refl _ _).grown hg (fun k _ hk => hk)
  have hne : ∀ g' cur, w1.heap[g']? = some (.cells cur 41 (0, 0)) → ¬ v.ownBlock = some g' := fun g' cur hg' hv => by
    obtain ⟨_, c, hc⟩ := own_block h1.own hv
    exact type_ne hg' hc (by decide) rfl
  have hltg : g < w1.heap.size := lt_of_block (show w1.heap[g]? = some _ from hr)
  refine ⟨⟨by rw [aoCells_snoc h.len, List.length_append]; exact ho, by simp [h.len], fun i hi hg' => ?_, fun g' hg' => ?_, ?_, fun g' hg' => ?_⟩, ?_⟩
  · by_cases hil : i < l.length
    · have hgl : i < gs.length := by rw [← h.len]; exact hil
      have e1 : (l ++ [o])[i] = l[i] := List.getElem_append_left hil
      have e2 : (gs ++ [g])[i] = gs[i] := List.getElem_append_left hgl
      rw [e1, e2]
      exact h2.heap (h1.rows i hil hgl) (hne _ _ (h1.rows i hil hgl))
    · have hie : i = l.length := by simp at hi; omega
      subst hie
      have e1 : (l ++ [o])[l.length] = o := by simp
      have e2 : (gs ++ [g])[l.length] = g := by simp [h.len]
      rw [e1, e2]
      exact h2.heap hr (hne _ _ hr)
  · rcases List.mem_append.1 hg' with hx | hx
    · exact h.base g' hx
    · simp at hx; omega
  · refine List.nodup_append.2 ⟨h.nodup, by simp, fun a ha b hb => ?_⟩
    simp at hb
    subst hb
    have := h.lt a ha
    omega
  · have := h2.size
    rcases List.mem_append.1 hg' with hx | hx
    · have := h1.lt g' hx; omega
    · simp at hx; omega
  · exact (((Fr.refl (fun k => B ≤ k) w).same hf)).trans h2 (fun j _ hv => (own_block h1.own hv).1)
theorem own_le {w : World} {B B' : Nat} {v : Value} {n : Nat} {xs : List Value} {e : TypeId} {sz : Nat} (h : w.ownsRow B e sz v n xs) (hb : B' ≤ B) : w.ownsRow B' e sz v n xs :=
  ⟨h.1, h.2.imp id (fun ⟨g, cap, cur, e, hbg, r⟩ => ⟨g, cap, cur, e, Nat.le_trans hb hbg, r⟩)⟩

set_option maxHeartbeats 2000000 in
set_option maxRecDepth 100000 in
theorem hobjs_any (hb tb cb mb g : Nat) (vs : Value) (ws now : List Int) (st : List St) (w : World) (h : PH hb tb cb mb g vs ws now st w) :
    Calls Tryz.prog 9 #[.pointer (some ⟨hb, 0, none⟩)] w fun e w' => ∃ v gs, e = .returned v ∧ ToldO w.heap.size w' v now (objs now) gs ∧ Fr New w w' := by
  have HO : Hid (Calls Tryz.prog 30 #[.pointer (some ⟨hb, 0, none⟩)] w fun e w' => ∃ vl, e = .returned vl ∧ OwnT w.heap.size w' vl (objs now) ∧ Fr New w w') := hobjects_any hb tb cb mb g vs ws now st w h
  have hlens := h.lens
  have HLN : Hid (now.length = ws.length) := h.len
  obtain ⟨i0, hi0, hz0, hz1, hz2⟩ := info_parts Tryz.info45
  have HIN : Hid (∀ o ∈ objs now, 106 + 8 * (o.block + o.span) ≤ now.length ∧ 1 ≤ o.span ∧ o.span ≤ 4 ∧ o.ptrs < 8 * o.span ∧ o.block < 32) := fun o ho => by
    have := objs_in ho
    have := nblk_le now.length
    exact ⟨by omega, by omega, by omega, by omega, by omega⟩
  have HWD : Hid (∀ o ∈ objs now, ∀ w1, Fr New w w1 → Calls Tryz.prog 31 #[.agg #[.int .i64 1, .int .i64 ((o.block + 1 : Nat) : Int), .int .i64 o.span, .int .i64 o.ptrs], .iface 63 (.pointer (some ⟨cb, 0, none⟩))] w1 fun e w' => ∃ g, w1.heap.size ≤ g ∧ e = .returned (.slice (some ⟨g, 0, none⟩) (8 * o.span - 1) (8 * o.span - 1)) ∧ Row w' g (objW now o) ∧ Fr New w1 w') := fun o ho w1 hf => twords_row _ _ _ _ _ now o w1 (h.new hf).row (HIN.out o ho).2.1 (HIN.out o ho).2.2.1 (HIN.out o ho).1 (by rw [h.len]; omega)
  have HC1 : Hid (∀ w1, Fr New w w1 → w1.cell? ⟨hb, 1, none⟩ = some (.pointer (some ⟨cb, 0, none⟩))) := fun w1 hf => (h.new hf).p1
  have HHB : Hid (∀ w1, Fr New w w1 → w1.heap[hb]? = some (.cells #[.pointer (some ⟨tb, 0, none⟩), .pointer (some ⟨cb, 0, none⟩)] 65 (0, 0))) := fun w1 hf => (h.new hf).hp
  have hl32 := objs_len now
  obtain ⟨l, hl⟩ : ∃ l, l = objs now := ⟨_, rfl⟩
  rw [← hl] at HO HIN HWD hl32 ⊢
  have HLO : Hid (∀ w1 vl, OwnT w.heap.size w1 vl l → LiesT w1 vl l) := fun w1 vl ho => by rw [hl] at ho ⊢; exact liesT_objs ho
  clear hl hlens h
  go_enter Tryz.func9, Tryz.ntmps9
  go_wp2_with (first
    | (go_at_call 30; refine HO.out.mono ?_; rintro e w1 ⟨vl, rfl, hol, hf1⟩; have hlo := HLO.out w1 vl hol; have HLV : Hid (∀ w', Fr (fun k => w1.heap.size ≤ k) w1 w' → LiesT w' vl l) := (fun w' hf => hlo.fr hf (fun g hg => by have := (own_block hol hg).2; obtain ⟨c, hc⟩ := this; have := lt_of_block hc; omega)); obtain ⟨av, cv, rfl, _⟩ := hlo)
    | fail)
  go_loopg [3, 9] l.length (fun gh v t wr => ∃ (i : Nat) (gs : List Nat), i ≤ l.length ∧ gh = l.length - i ∧ t = .int .i64 i ∧ ToldO w1.heap.size wr v now (l.take i) gs ∧ Fr (fun k => w1.heap.size ≤ k) w1 wr)
  case atStart => exact ⟨0, [], by omega, rfl, rfl, ⟨by simpa [aoCells] using World.ownsRow_nil _ _ _ _, rfl, (fun i hi => by simp at hi), (fun g hg => by cases hg), List.nodup_nil, (fun g hg => by cases hg)⟩, Fr.refl _ _⟩
  case round =>
    obtain ⟨i, gs, hil, rfl, rfl, hT, hF⟩ := hrel
    have HFW : Hid (Fr New w wr) := hf1.trans hF (fun j hj hk => by have := hf1.size; omega)
    by_cases hi : i < l.length
    · have hd0 : decide ((i : Int) < (l.length : Int)) = true := by simp; omega
      obtain ⟨gv, rfl, e0, e1, e2, e3⟩ := (HLV.out wr hF).at i hi
      have hin := HIN.out l[i] (List.getElem_mem _)
      have HWI : Hid (∀ w', Fr New w w' → Calls Tryz.prog 31 #[.agg #[.int .i64 1, .int .i64 ((l[i].block + 1 : Nat) : Int), .int .i64 l[i].span, .int .i64 l[i].ptrs], .iface 63 (.pointer (some ⟨cb, 0, none⟩))] w' fun e w'' => ∃ g, w'.heap.size ≤ g ∧ e = .returned (.slice (some ⟨g, 0, none⟩) (8 * l[i].span - 1) (8 * l[i].span - 1)) ∧ Row w'' g (objW now l[i]) ∧ Fr New w' w'') := HWD.out l[i] (List.getElem_mem _)
      have HTK : Hid (l.take (i + 1) = l.take i ++ [l[i]]) := List.take_succ_eq_append_getElem hi
      have htl : (l.take i).length = i := by simp; omega
      obtain ⟨o, ho⟩ : ∃ o, o = l[i] := ⟨_, rfl⟩
      rw [← ho] at e1 e2 e3 hin HWI HTK
      obtain ⟨b, sp, pt⟩ := o
      simp only at e1 e2 e3 hin HWI
      obtain ⟨B, hB⟩ : ∃ B : Nat, B = b + 1 := ⟨_, rfl⟩
      rw [← hB] at e1 HWI
      have HBB : Hid (B = b + 1) := hB
      have hB33 : B ≤ 32 := by omega
      have hT' := hT
      obtain ⟨a3, c3, rfl⟩ := own_slice hT.own
      rw [htl]
      clear ho hB hin
      go_upto_region 5 with fail
      have htq : (wr.alloc (.cells #[.int .i64 1, .int .i64 B, .int .i64 sp, .int .i64 pt] 81)).heap[wr.heap.size]? = some (.cells #[.int .i64 1, .int .i64 B, .int .i64 sp, .int .i64 pt] 81 (0, 0)) := Go.Deep.blk_alloc_new wr _
      have hfq : Fr New wr (wr.alloc (.cells #[.int .i64 1, .int .i64 B, .int .i64 sp, .int .i64 pt] 81)) := (Fr.refl _ _).alloc _
      obtain ⟨W2, hW2⟩ : ∃ W2, W2 = wr.alloc (.cells #[.int .i64 1, .int .i64 B, .int .i64 sp, .int .i64 pt] 81) := ⟨_, rfl⟩
      obtain ⟨gt, hgt⟩ : ∃ gt, gt = wr.heap.size := ⟨_, rfl⟩
      rw [← hW2] at htq hfq ⊢
      rw [← hgt] at htq
      rw [← hgt]
      have HSZ : Hid (wr.heap.size ≤ W2.heap.size) := hfq.size
      obtain ⟨ht, hz⟩ := block_cells htq
      have ht0 : W2.cell? ⟨gt, 0, none⟩ = some (.int .i64 1) := (ht 0).trans rfl
      have ht1 : W2.cell? ⟨gt, 1, none⟩ = some (.int .i64 B) := (ht 1).trans rfl
      have ht2 : W2.cell? ⟨gt, 2, none⟩ = some (.int .i64 sp) := (ht 2).trans rfl
      have ht3 : W2.cell? ⟨gt, 3, none⟩ = some (.int .i64 pt) := (ht 3).trans rfl
      have hc1 := HC1.out W2 (HFW.out.same hfq)
      clear ht hz hW2 hgt e0 e1 e2 e3
      have hown := hT.own
      rw [htl] at hown
      have HMO : Hid (∀ w4 g4 w7 v7, Fr New W2 w4 → W2.heap.size ≤ g4 → Row w4 g4 (objW now ⟨b, sp, pt⟩) → (w4.alloc (.cells ((aoCell ⟨b, sp, pt⟩ g4).toArray) 45)).grownBy w7 (Value.slice a3 i c3).ownBlock → w7.ownsRow w1.heap.size 45 4 v7 (i + 1) (aoCells (l.take i) gs ++ aoCell ⟨b, sp, pt⟩ g4) → ToldO w1.heap.size w7 v7 now (l.take (i + 1)) (gs ++ [g4]) ∧ Fr (fun k => w1.heap.size ≤ k) w1 w7) := fun w4 g4 w7 v7 h1 h2 h3 h4 h5 => by
        have := hT.more (o := ⟨b, sp, pt⟩) (g := g4) (hfq.same (h1.alloc (.cells ((aoCell ⟨b, sp, pt⟩ g4).toArray) 45))) (by rw [htl]; exact h4) (((Fr.refl New w4).alloc _).heap h3 id) (Nat.le_trans HSZ.out h2) hF.size (by rw [htl]; exact h5)
        rw [HTK.out]
        exact ⟨this.1, hF.trans this.2 (fun j _ h => h)⟩
      have HBS : Hid (w1.heap.size ≤ W2.heap.size) := Nat.le_trans hF.size HSZ.out
      have HOW : Hid (∀ w4, Fr New W2 w4 → w4.ownsRow w1.heap.size 45 4 (.slice a3 i c3) i (aoCells (l.take i) gs)) := fun w4 hf => (hfq.same hf).owns hown (fun _ _ h => h)
      have HFQ : Hid (Fr New w W2) := HFW.out.same hfq
      have hi32 : i < 32 := by omega
      have HKP : Hid (∀ w4 w7, Fr New W2 w4 → Fr (fun k => (Value.slice a3 i c3).ownBlock = some k) w4 w7 → w7.cell? ⟨gt, 0, none⟩ = some (.int .i64 1) ∧ w7.cell? ⟨gt, 1, none⟩ = some (.int .i64 B) ∧ w7.cell? ⟨gt, 2, none⟩ = some (.int .i64 sp) ∧ w7.cell? ⟨gt, 3, none⟩ = some (.int .i64 pt) ∧ w7.cell? ⟨hb, 1, none⟩ = some (.pointer (some ⟨cb, 0, none⟩))) := fun w4 w7 h4 h7 => by
        have hne : ∀ k t cs, t ≠ 45 → w4.heap[k]? = some (.cells cs t (0, 0)) → ¬ (Value.slice a3 i c3).ownBlock = some k := fun k t cs ht hk hv => by
          obtain ⟨_, c, hc⟩ := own_block (HOW.out w4 h4) hv
          exact type_ne hk hc ht rfl
        have t4 := h4.heap htq id
        have b4 := HHB.out w4 (HFQ.out.same h4)
        obtain ⟨k7, _⟩ := block_cells (h7.heap t4 (hne _ _ _ (by decide) t4))
        obtain ⟨l7, _⟩ := block_cells (h7.heap b4 (hne _ _ _ (by decide) b4))
        exact ⟨(k7 0).trans rfl, (k7 1).trans rfl, (k7 2).trans rfl, (k7 3).trans rfl, (l7 1).trans rfl⟩
      have HAC : Hid (∀ g4 : Nat, (#[Value.int .i64 (B : Int), .int .i64 (sp : Int), .int .i64 (pt : Int), .slice (some ⟨g4, 0, none⟩) (8 * sp - 1) (8 * sp - 1)] : Array Value) = (aoCell ⟨b, sp, pt⟩ g4).toArray) := fun g4 => by rw [HBB.out]; rfl
      clear hT hT' hown htl
      go_region_held3 (fun w' => w'.cell? ⟨gt, 0, none⟩ = some (.int .i64 1) ∧ w'.cell? ⟨gt, 1, none⟩ = some (.int .i64 B) ∧ w'.cell? ⟨gt, 2, none⟩ = some (.int .i64 sp) ∧ w'.cell? ⟨gt, 3, none⟩ = some (.int .i64 pt) ∧ w'.cell? ⟨hb, 1, none⟩ = some (.pointer (some ⟨cb, 0, none⟩))) (first | go_keep | exact hkeep2 | exact hkeep3)
        (first
          | (go_at_call 31; refine (HWI.out _ (by first | exact HFQ.out | exact HFQ.out.drew)).mono ?_; rintro e w4 ⟨g4, hg4, rfl, hR4, hf4⟩; have hf4' : Fr New W2 w4 := ((Fr.refl New W2).drew.same hf4); have hkeep2 : w4.cell? ⟨gt, 0, none⟩ = some (.int .i64 1) ∧ w4.cell? ⟨gt, 1, none⟩ = some (.int .i64 B) ∧ w4.cell? ⟨gt, 2, none⟩ = some (.int .i64 sp) ∧ w4.cell? ⟨gt, 3, none⟩ = some (.int .i64 pt) ∧ w4.cell? ⟨hb, 1, none⟩ = some (.pointer (some ⟨cb, 0, none⟩)) := ⟨hf4'.cell ht0 id, hf4'.cell ht1 id, hf4'.cell ht2 id, hf4'.cell ht3 id, hf4'.cell hc1 id⟩)
          | (refine step_append_lies _ (by rfl) (.tmp 13) (.tmp 28) 42 (by rfl) w1.heap.size 45 i0 _ 4 48 Tryz.underlying42 hi0 hz0 hz1 hz2 rfl (by decide) (.slice a3 i c3) i (aoCells (l.take i) gs) (by rfl) ((HOW.out w4 hf4').alloc _) ⟨w4.heap.size, 0, none⟩ 1 1 [.int .i64 (B : Int), .int .i64 (sp : Int), .int .i64 (pt : Int), .slice (some ⟨g4, 0, none⟩) (8 * sp - 1) (8 * sp - 1)] (by rfl) rfl (World.news_of_block (Go.Deep.blk_alloc_new w4 _)) (by intro u hu; simp at hu; rcases hu with rfl | rfl | rfl | rfl <;> rfl) (by decide) (by unfold maxLen; omega) (by omega) (by have := HBS.out; have := hf4'.size; simp; omega) _ rfl ?_; intro g7 c7 w7 ho7 hg7 _ _; have hkeep3 : w7.cell? ⟨gt, 0, none⟩ = some (.int .i64 1) ∧ w7.cell? ⟨gt, 1, none⟩ = some (.int .i64 B) ∧ w7.cell? ⟨gt, 2, none⟩ = some (.int .i64 sp) ∧ w7.cell? ⟨gt, 3, none⟩ = some (.int .i64 pt) ∧ w7.cell? ⟨hb, 1, none⟩ = some (.pointer (some ⟨cb, 0, none⟩)) := HKP.out w4 w7 hf4' (((Fr.refl _ _).alloc _).grown hg7 (fun k _ h => h))))
      all_goals
        rw [HAC.out] at hg7
        have hfin := HMO.out w4 g4 w7 _ hf4' (by simpa using hg4) hR4 hg7 (by rw [HBB.out] at ho7; exact ho7)
        clear hkeep2 hkeep3 ho7 hg7
        go_wp2_with fail
        go_roundg (l.length - (i + 1))
        case measure => omega
        case rel => exact ⟨i + 1, _, by omega, rfl, by go_num, hfin.1, hfin.2⟩
    · obtain rfl : i = l.length := by omega
      have hd0 : decide ((l.length : Int) < (l.length : Int)) = false := by simp
      rw [List.take_of_length_le (Nat.le_refl _)] at hT
      obtain ⟨a3, c3, rfl⟩ := own_slice hT.own
      clear hi hil
      go_wp2
      go_ret
      exact ⟨_, gs, rfl, ⟨own_le hT.own hf1.size, hT.len, hT.rows, fun g hg => Nat.le_trans hf1.size (hT.base g hg), hT.nodup, hT.lt⟩, HFW.out⟩
end Go.Proofs.YtbagcjlimdilpabGreat

/- Shapes in memory: things with their words. Walks of sameWords and is. -/
namespace Go.Proofs.YtbagcjlimdilpabGreat
open Go.RowKit Go.Maps

theorem Tryz.info53 : (Tryz.prog.info? 53).map (fun i => (i.zero, i.size, i.bytes)) = some (some (.agg #[.int .i64 0, .int .i64 0, .int .i64 0, .slice none 0 0]), 4, 48) := by kernel_rfl
/-- a thing: an object and its words -/
abbrev Th := Ob × List Int
def ktCell (x : Th) (v : Value) : List Value := [.int .i64 ((x.1.block + 1 : Nat) : Int), .int .i64 x.1.span, .int .i64 x.1.ptrs, v]
def ktCells : List Th → List Value → List Value
  | x :: l, v :: vs => ktCell x v ++ ktCells l vs
  | _, _ => []
theorem ktCells_len : ∀ (l : List Th) (vs : List Value), vs.length = l.length → (ktCells l vs).length = l.length * 4
  | [], [], _ => rfl
  | x :: l, v :: vs, h => by
    have := ktCells_len l vs (by simpa using h)
    simp only [ktCells, List.length_append, this, ktCell, List.length_cons, List.length_nil]
    omega
theorem ktCells_app : ∀ (l : List Th) (vs : List Value) (m : List Th) (us : List Value), vs.length = l.length → ktCells (l ++ m) (vs ++ us) = ktCells l vs ++ ktCells m us
  | [], [], _, _, _ => rfl
  | x :: l, v :: vs, m, us, h => by
    simp only [List.cons_append, ktCells, ktCells_app l vs m us (by simpa using h), List.append_assoc]
theorem ktCells_get : ∀ (l : List Th) (vs : List Value) (i : Nat) (hi : i < l.length) (hv : i < vs.length) (j : Nat), j < 4 → (ktCells l vs)[i * 4 + j]? = (ktCell l[i] vs[i])[j]?
  | x :: l, v :: vs, 0, _, _, j, hj => by
    simp only [ktCells, Nat.zero_mul, Nat.zero_add, List.getElem_cons_zero]
    rw [List.getElem?_append_left (by simpa [ktCell] using hj)]
  | x :: l, v :: vs, i + 1, hi, hv, j, hj => by
    simp only [ktCells, List.getElem_cons_succ]
    rw [List.getElem?_append_right (by simp [ktCell]; omega)]
    rw [← ktCells_get l vs i (by simpa using hi) (by simpa using hv) j hj]
    congr 1
    simp [ktCell]
    omega
theorem ktCells_one : ∀ (l : List Th) (vs : List Value), (∀ v ∈ vs, v.oneCell' = true) → ∀ u ∈ ktCells l vs, u.oneCell' = true
  | [], _, _, u, hu => by simp [ktCells] at hu
  | x :: l, [], _, u, hu => by simp [ktCells] at hu
  | x :: l, v :: vs, h, u, hu => by
    simp only [ktCells, List.mem_append] at hu
    rcases hu with hu | hu
    · simp only [ktCell, List.mem_cons, List.not_mem_nil, or_false] at hu
      rcases hu with rfl | rfl | rfl | rfl
      · rfl
      · rfl
      · rfl
      · exact h _ (by simp)
    · exact ktCells_one l vs (fun v hv => h v (List.mem_cons_of_mem _ hv)) u hu
/-- things that lie in memory, with their words -/
structure ThAt (w : World) (v : Value) (l : List Th) (vs : List Value) : Prop where
  own : w.ownsRow 0 53 4 v l.length (ktCells l vs)
  len : vs.length = l.length
  rows : ∀ i (hi : i < l.length) (hv : i < vs.length), Own 0 w vs[i] (l[i]).2
  fit : ∀ x ∈ l, x.2.length = 8 * x.1.span - 1 ∧ 1 ≤ x.1.span ∧ x.1.span ≤ 4 ∧ x.1.ptrs < 8 * x.1.span ∧ x.1.block < 32
  apart : vs.Pairwise (fun a b => a.ownBlock ≠ b.ownBlock)
  n : l.length ≤ 32
/-- the blocks of things -/
def ThB (v : Value) (vs : List Value) (k : Nat) : Prop := v.ownBlock = some k ∨ ∃ u ∈ vs, u.ownBlock = some k
namespace ThAt
variable {w : World} {v : Value} {l : List Th} {vs : List Value}
theorem fr {T : Nat → Prop} {w' : World} (h : ThAt w v l vs) (hf : Fr T w w') (hn : ∀ k, ThB v vs k → ¬ T k) : ThAt w' v l vs :=
  ⟨hf.owns h.own (fun g hg => hn g (.inl hg)), h.len, fun i hi hv => hf.owns (h.rows i hi hv) (fun g hg => hn g (.inr ⟨_, List.getElem_mem hv, hg⟩)), h.fit, h.apart, h.n⟩
theorem new {w' : World} (h : ThAt w v l vs) (hf : Fr New w w') : ThAt w' v l vs := h.fr hf (fun _ _ h => h)
theorem lt (h : ThAt w v l vs) {k : Nat} (hk : ThB v vs k) : k < w.heap.size := by
  rcases hk with hk | ⟨u, hu, hk⟩
  · obtain ⟨_, c, hc⟩ := own_block h.own hk
    exact lt_of_block hc
  · obtain ⟨i, hi, rfl⟩ := List.getElem_of_mem hu
    obtain ⟨_, c, hc⟩ := own_block (h.rows i (by rw [← h.len]; exact hi) hi) hk
    exact lt_of_block hc
/-- a block of another type is none of them -/
theorem no (h : ThAt w v l vs) {k : Nat} {c : Array Value} {t : TypeId} (hk : w.heap[k]? = some (.cells c t (0, 0))) (h1 : t ≠ 53) (h2 : t ≠ 41) : ¬ ThB v vs k := by
  rintro (hv | ⟨u, hu, hv⟩)
  · obtain ⟨_, c, hc⟩ := own_block h.own hv
    exact type_ne hk hc h1 rfl
  · obtain ⟨i, hi, rfl⟩ := List.getElem_of_mem hu
    obtain ⟨_, c, hc⟩ := own_block (h.rows i (by rw [← h.len]; exact hi) hi) hv
    exact type_ne hk hc h2 rfl
theorem noMap (h : ThAt w v l vs) {k : Nat} {es : Array MapEntry} {cl : Nat} (hk : w.heap[k]? = some (.map es cl)) : ¬ ThB v vs k := by
  rintro (hv | ⟨u, hu, hv⟩)
  · obtain ⟨_, c, hc⟩ := own_block h.own hv
    rw [hk] at hc; cases hc
  · obtain ⟨i, hi, rfl⟩ := List.getElem_of_mem hu
    obtain ⟨_, c, hc⟩ := own_block (h.rows i (by rw [← h.len]; exact hi) hi) hv
    rw [hk] at hc; cases hc
/-- the list as it is read -/
theorem slice (h : ThAt w v l vs) : ∃ a c, v = .slice a l.length c := own_slice h.own
/-- the i-th thing as it is read -/
theorem at' (h : ThAt w v l vs) (i : Nat) (hi : i < l.length) : ∃ g c gi ci, v = .slice (some ⟨g, 0, none⟩) l.length c ∧ g < w.heap.size ∧
    w.cell? ⟨g, i * 4, none⟩ = some (.int .i64 (((l[i]).1.block + 1 : Nat) : Int)) ∧ w.cell? ⟨g, i * 4 + 1, none⟩ = some (.int .i64 (l[i]).1.span) ∧ w.cell? ⟨g, i * 4 + 2, none⟩ = some (.int .i64 (l[i]).1.ptrs) ∧
    w.cell? ⟨g, i * 4 + 3, none⟩ = some (.slice (some ⟨gi, 0, none⟩) (l[i]).2.length ci) ∧ RowU w (some ⟨gi, 0, none⟩) (l[i]).2 ∧ (∃ hv : i < vs.length, vs[i] = .slice (some ⟨gi, 0, none⟩) (l[i]).2.length ci) ∧ (∀ k, w.frozen? ⟨gi, k, none⟩ = false) ∧ gi < w.heap.size := by
  have hv : i < vs.length := by rw [h.len]; exact hi
  have hfit := h.fit _ (List.getElem_mem hi)
  rcases h.own.2 with ⟨_, hn⟩ | ⟨g, cap, cur, rfl, hb, hh, hnc, hcm, hcs, htk⟩
  · omega
  · have hr := h.rows i hi hv
    rcases hr.2 with ⟨_, hn⟩ | ⟨gi, ci, curi, hvi, _, hhi, _⟩
    · omega
    · have hc : ∀ j, j < 4 → w.cell? ⟨g, i * 4 + j, none⟩ = (ktCell l[i] vs[i])[j]? := fun j hj => by
        rw [← ktCells_get l vs i hi hv j hj, ← htk, (block_cells hh).1]
        rw [List.getElem?_take_of_lt (by omega)]
        simp
      rw [hvi] at hr
      refine ⟨g, cap, gi, ci, rfl, lt_of_block hh, (hc 0 (by omega)).trans rfl, (hc 1 (by omega)).trans rfl, (hc 2 (by omega)).trans rfl, (hc 3 (by omega)).trans ?_, rowU_own hr, ⟨hv, hvi⟩, (block_cells hhi).2, lt_of_block hhi⟩
      rw [hvi]
      rfl
end ThAt

theorem ksame_any (a b : Option Addr) (cap cap' : Nat) (zs ys : List Int) (w : World) (hm : zs.length ≤ maxLen) (ha : RowU w a zs) (hb : RowU w b ys) :
    Calls Tryz.prog 33 #[.slice a zs.length cap, .slice b ys.length cap'] w fun e w' => e = .returned (.bool (decide (zs = ys))) ∧ ∃ n, w' = w.drewN n := by
  unfold maxLen at hm
  by_cases hl : zs.length = ys.length
  · have hdl : ((zs.length : Int) != (ys.length : Int)) = false := by simp; omega
    go_enter Tryz.func33, Tryz.ntmps33
    go_wp2
    go_loopg [5] zs.length (fun gh i wr => ∃ k n : Nat, k ≤ zs.length ∧ gh = zs.length - k ∧ i = .int .i64 k ∧ wr = w.drewN n ∧ ∀ j, j < k → wd zs j = wd ys j)
    case atStart => exact ⟨0, 0, Nat.zero_le _, rfl, rfl, rfl, fun j hj => by omega⟩
    case round =>
      obtain ⟨k, n, hk, rfl, rfl, rfl, hsame⟩ := hrel
      have HS : Hid (∀ j, j < k → wd zs j = wd ys j) := hsame
      clear hsame
      by_cases hlt : k < zs.length
      · obtain ⟨x, rfl, hcx⟩ := ha k hlt
        obtain ⟨y, rfl, hcy⟩ := hb k (by omega)
        by_cases he : wd zs k = wd ys k
        · have hk2 : k < ys.length := by omega
          have he' : (zs[k] != ys[k]) = false := by simpa [wd, List.getD, hlt, hk2] using he
          go_wp2
          go_quiet (fail)
          go_wp2
          go_roundg (zs.length - (k + 1))
          case rel => exact ⟨k + 1, n + nq, by omega, rfl, by go_num, rfl, fun j hj => by
            rcases (show j < k ∨ j = k by omega) with h | rfl
            · exact HS.out j h
            · exact he⟩
          case measure => omega
        · have hk2 : k < ys.length := by omega
          have he' : (zs[k] != ys[k]) = true := by simpa [wd, List.getD, hlt, hk2] using he
          go_wp2
          go_quiet (fail)
          go_wp2
          go_ret
          have hd : decide (zs = ys) = false := by simpa using fun h : zs = ys => absurd (by rw [h]) he
          rw [hd]
          exact ⟨rfl, n + nq, World.drewN_drewN ..⟩
      · go_wp2
        go_ret
        have hd : decide (zs = ys) = true := by
          rw [decide_eq_true_eq]
          refine wd_ext hl (fun q => ?_)
          by_cases hq : q < zs.length
          · exact HS.out q (by omega)
          · unfold wd
            simp [List.getD, show zs.length ≤ q by omega, show ys.length ≤ q by omega]
        rw [hd]
        exact ⟨rfl, n, rfl⟩
  · have hdl : ((zs.length : Int) != (ys.length : Int)) = true := by simp; omega
    go_enter Tryz.func33, Tryz.ntmps33
    go_wp2
    go_ret
    have hd : decide (zs = ys) = false := by simpa using fun h : zs = ys => absurd (by rw [h]) hl
    rw [hd]
    exact ⟨rfl, 0, rfl⟩
end Go.Proofs.YtbagcjlimdilpabGreat

/- The walk of is: has a heap just this shape? -/
namespace Go.Proofs.YtbagcjlimdilpabGreat
open Go.RowKit Go.Maps

theorem aoCells_get : ∀ (l : List Ob) (gs : List Nat) (i : Nat) (hi : i < l.length) (hg : i < gs.length) (j : Nat), j < 4 → (aoCells l gs)[i * 4 + j]? = (aoCell l[i] gs[i])[j]?
  | x :: l, g :: gs, 0, _, _, j, hj => by
    simp only [aoCells, List.zipWith_cons_cons, List.flatten_cons, Nat.zero_mul, Nat.zero_add, List.getElem_cons_zero]
    rw [List.getElem?_append_left (by simpa [aoCell] using hj)]
  | x :: l, g :: gs, i + 1, hi, hg, j, hj => by
    have ih := aoCells_get l gs i (by simpa using hi) (by simpa using hg) j hj
    simp only [aoCells, List.zipWith_cons_cons, List.flatten_cons, List.getElem_cons_succ] at ih ⊢
    rw [List.getElem?_append_right (by simp [aoCell]; omega), ← ih]
    congr 1
    simp [aoCell]
    omega
/-- the i-th object as it is told -/
theorem ToldO.at' {B : Nat} {w : World} {v : Value} {now : List Int} {l : List Ob} {gs : List Nat} (h : ToldO B w v now l gs) (i : Nat) (hi : i < l.length) : ∃ g c, v = .slice (some ⟨g, 0, none⟩) l.length c ∧ g < w.heap.size ∧ ∃ gi, gi < w.heap.size ∧
    w.cell? ⟨g, i * 4, none⟩ = some (.int .i64 (((l[i]).block + 1 : Nat) : Int)) ∧ w.cell? ⟨g, i * 4 + 1, none⟩ = some (.int .i64 (l[i]).span) ∧ w.cell? ⟨g, i * 4 + 2, none⟩ = some (.int .i64 (l[i]).ptrs) ∧
    w.cell? ⟨g, i * 4 + 3, none⟩ = some (.slice (some ⟨gi, 0, none⟩) (8 * (l[i]).span - 1) (8 * (l[i]).span - 1)) ∧ RowU w (some ⟨gi, 0, none⟩) (objW now l[i]) := by
  have hg : i < gs.length := by rw [← h.len]; exact hi
  rcases h.own.2 with ⟨_, hn⟩ | ⟨g, cap, cur, rfl, hb, hh, hnc, hcm, hcs, htk⟩
  · omega
  · have hc : ∀ j, j < 4 → w.cell? ⟨g, i * 4 + j, none⟩ = (aoCell l[i] gs[i])[j]? := fun j hj => by
      rw [← aoCells_get l gs i hi hg j hj, ← htk, (block_cells hh).1]
      rw [List.getElem?_take_of_lt (by omega)]
      simp
    exact ⟨g, cap, rfl, lt_of_block hh, gs[i], h.lt _ (List.getElem_mem hg), (hc 0 (by omega)).trans rfl, (hc 1 (by omega)).trans rfl, (hc 2 (by omega)).trans rfl, (hc 3 (by omega)).trans rfl, Row.rowU (h.rows i hi hg)⟩
/-- the shape of some words -/
def things (now : List Int) : List Th := (objs now).map (fun o => (o, objW now o))
theorem things_len (now : List Int) : (things now).length = (objs now).length := by simp [things]
/-- a shape as a value -/
abbrev shV (v : Value) (r0 r1 r2 r3 : Int) : Value := .agg #[v, .int .i64 r0, .int .i64 r1, .int .i64 r2, .int .i64 r3]
/-- four roots -/
def root4 (r0 r1 r2 r3 : Int) (k : Nat) : Int := if k = 0 then r0 else if k = 1 then r1 else if k = 2 then r2 else r3
theorem root_cells {w : World} {sb : Nat} {v : Value} {r0 r1 r2 r3 : Int} (h : w.heap[sb]? = some (.cells #[v, .int .i64 r0, .int .i64 r1, .int .i64 r2, .int .i64 r3] 32 (0, 0))) (k : Nat) (hk : k < 4) : w.cell? ⟨sb, 1 + k, none⟩ = some (.int .i64 (root4 r0 r1 r2 r3 k)) := by
  rw [(block_cells h).1]
  match k, hk with
  | 0, _ => rfl
  | 1, _ => rfl
  | 2, _ => rfl
  | 3, _ => rfl

/-- the shape is the heap's -/
def IsIt (now : List Int) (l : List Th) (r0 r1 r2 r3 : Int) : Prop := l = things now ∧ ∀ k, k < 4 → wrap64 (wd now (3 + k)) = root4 r0 r1 r2 r3 k
set_option maxHeartbeats 1000000 in
set_option maxRecDepth 100000 in
theorem kis_any (hb tb cb mb g : Nat) (vs : Value) (ws now : List Int) (st : List St) (vt : Value) (l : List Th) (us : List Value) (r0 r1 r2 r3 : Int) (w : World) (h : PH hb tb cb mb g vs ws now st w) (ht : ThAt w vt l us) :
    Calls Tryz.prog 11 #[.pointer (some ⟨hb, 0, none⟩), shV vt r0 r1 r2 r3] w fun e w' => ∃ b, e = .returned (.bool b) ∧ (b = true ↔ IsIt now l r0 r1 r2 r3) ∧ Fr New w w' := by
  have HO : Hid (∀ w1, Fr New w w1 → Calls Tryz.prog 9 #[.pointer (some ⟨hb, 0, none⟩)] w1 fun e w' => ∃ v gs, e = .returned v ∧ ToldO w1.heap.size w' v now (objs now) gs ∧ Fr New w1 w') := fun w1 hf => hobjs_any hb tb cb mb g vs ws now st w1 (h.new hf)
  have HRT : Hid (∀ w1, Fr New w w1 → ∀ k : Nat, k < 4 → Calls Tryz.prog 34 #[.pointer (some ⟨hb, 0, none⟩), .int .i64 (k : Int)] w1 fun e w' => e = .returned (.tuple #[.int .i64 (wrap64 (wd now (3 + k))), .int .i64 0]) ∧ w' = w1) := fun w1 hf k hk => by
    have := hroot_any hb tb cb mb g vs ws now st (k : Int) w1 (h.new hf)
    unfold rootS at this
    rwa [if_neg (by omega), Int.toNat_natCast] at this
  have HT : Hid (∀ w1, Fr New w w1 → ThAt w1 vt l us) := fun w1 hf => ht.new hf
  have hl32 := objs_len now
  have hlt32 := ht.n
  have HFIT : Hid (∀ x ∈ l, x.2.length = 8 * x.1.span - 1 ∧ 1 ≤ x.1.span ∧ x.1.span ≤ 4 ∧ x.1.ptrs < 8 * x.1.span ∧ x.1.block < 32) := ht.fit
  have HIN : Hid (∀ o ∈ objs now, 1 ≤ o.span ∧ o.span ≤ 4 ∧ o.ptrs < 8 * o.span ∧ o.block < 32) := fun o ho => by
    have := objs_in ho
    have := nblk_le now.length
    exact ⟨by omega, by omega, by omega, by omega⟩
  obtain ⟨av, cv, rfl⟩ := ht.slice
  obtain ⟨lo, hlo⟩ : ∃ lo, lo = objs now := ⟨_, rfl⟩
  have HTH : Hid (things now = lo.map (fun o => (o, objW now o))) := by rw [hlo]; rfl
  rw [← hlo] at HO hl32 HIN
  clear h ht hlo
  by_cases hlen : lo.length = l.length
  · have hdl : ((lo.length : Int) != (l.length : Int)) = false := by simp; omega
    go_enter Tryz.func11, Tryz.ntmps11
    go_wp2_with (first
      | (go_at_call 9; refine (HO.out _ ((Fr.refl New w).alloc _)).mono ?_; rintro e w1 ⟨v1, gs, rfl, hT1, hf1⟩; obtain ⟨a1, c1, rfl⟩ := own_slice hT1.own; have hcs : w1.cell? ⟨w.heap.size, 0, none⟩ = some (.slice av l.length cv) := ((block_cells (hf1.heap (Go.Deep.blk_alloc_new w _) id)).1 0).trans rfl)
      | fail)
    have hsb : (w.alloc (.cells #[.slice av l.length cv, .int .i64 r0, .int .i64 r1, .int .i64 r2, .int .i64 r3] 32)).heap[w.heap.size]? = some (.cells #[.slice av l.length cv, .int .i64 r0, .int .i64 r1, .int .i64 r2, .int .i64 r3] 32 (0, 0)) := Go.Deep.blk_alloc_new w _
    obtain ⟨sb, hsbe⟩ : ∃ sb, sb = w.heap.size := ⟨_, rfl⟩
    rw [← hsbe] at hsb
    rw [← hsbe]
    have HSB : Hid (∀ wr, Fr New w1 wr → wr.heap[sb]? = some (.cells #[.slice av l.length cv, .int .i64 r0, .int .i64 r1, .int .i64 r2, .int .i64 r3] 32 (0, 0))) := fun wr hf => (hf1.same hf).heap hsb id
    have HFW : Hid (∀ wr, Fr New w1 wr → Fr New w wr) := fun wr hf => (((Fr.refl New w).alloc _).same hf1).same hf
    clear hsb hsbe hf1
    go_loopg [6] l.length (fun gh t wr => ∃ i : Nat, i ≤ l.length ∧ gh = l.length - i ∧ t = .int .i64 i ∧ Fr New w1 wr ∧ ∀ j (hj : j < l.length) (hj' : j < lo.length), j < i → l[j] = (lo[j], objW now lo[j]))
    case atStart => exact ⟨0, by omega, rfl, rfl, Fr.refl _ _, fun j hj hj' h => by omega⟩
    case round =>
      obtain ⟨i, hil, rfl, rfl, hf2, hsame⟩ := hrel
      have HSM : Hid (∀ j (hj : j < l.length) (hj' : j < lo.length), j < i → l[j] = (lo[j], objW now lo[j])) := hsame
      clear hsame
      have hsh : wr.cell? ⟨sb, 0, none⟩ = some (.slice av l.length cv) := ((block_cells (HSB.out wr hf2)).1 0).trans rfl
      by_cases hi : i < l.length
      · have hd0 : decide ((i : Int) < (l.length : Int)) = true := by simp; omega
        have hio : i < lo.length := by omega
        obtain ⟨g1, cg1, hv1, hg1, gi1, hgi1, e0, e1, e2, e3, hr1⟩ := (hT1.fr hf2).at' i hio
        obtain ⟨g2, cg2, gi2, ci2, hv2, hg2, d0, d1, d2, d3, hr2, _, _, hgi2⟩ := (HT.out wr (HFW.out wr hf2)).at' i hi
        cases hv1
        cases hv2
        have hin := HIN.out lo[i] (List.getElem_mem _)
        have hfi := HFIT.out l[i] (List.getElem_mem _)
        have HSW : Hid (∀ w', Fr New wr w' → Calls Tryz.prog 33 #[.slice (some ⟨gi1, 0, none⟩) (8 * (lo[i]).span - 1) (8 * (lo[i]).span - 1), .slice (some ⟨gi2, 0, none⟩) (l[i]).2.length ci2] w' fun e w'' => e = .returned (.bool (decide (objW now lo[i] = (l[i]).2))) ∧ ∃ n, w'' = w'.drewN n) := fun w' hf => by
          have := ksame_any (some ⟨gi1, 0, none⟩) (some ⟨gi2, 0, none⟩) (8 * (lo[i]).span - 1) ci2 (objW now lo[i]) (l[i]).2 w' (by rw [objW_len]; unfold maxLen; omega) (rowU_fr hf hr1 (fun _ _ h => h)) (rowU_fr hf hr2 (fun _ _ h => h))
          rwa [objW_len] at this
        obtain ⟨o, ho⟩ : ∃ o, o = lo[i] := ⟨_, rfl⟩
        obtain ⟨x, hx⟩ : ∃ x, x = l[i] := ⟨_, rfl⟩
        rw [← ho] at e0 e1 e2 e3 hin HSW
        rw [← hx] at d0 d1 d2 d3 hfi HSW
        have HEQ : Hid (objW now o = x.2 → o.block = x.1.block → o.span = x.1.span → o.ptrs = x.1.ptrs → ∀ j (hj : j < l.length) (hj' : j < lo.length), j < i + 1 → l[j] = (lo[j], objW now lo[j])) := fun q1 q2 q3 q4 j hj hj' hji => by
          by_cases hj2 : j < i
          · exact HSM.out j hj hj' hj2
          · obtain rfl : j = i := by omega
            rw [← hx, ← ho, q1]
            obtain ⟨⟨xb, xs, xp⟩, xw⟩ := x
            obtain ⟨ob, os, op⟩ := o
            simp only at q2 q3 q4
            rw [q2, q3, q4]
        have HNE : Hid (IsIt now l r0 r1 r2 r3 → objW now o = x.2 ∧ o.block = x.1.block ∧ o.span = x.1.span ∧ o.ptrs = x.1.ptrs) := fun hit => by
          have h1 : l[i]? = some (o, objW now o) := by
            rw [hit.1, HTH.out, List.getElem?_map, List.getElem?_eq_getElem hio, ho]
            rfl
          rw [List.getElem?_eq_getElem hi, ← hx] at h1
          simp only [Option.some.injEq] at h1
          rw [h1]
          exact ⟨rfl, rfl, rfl, rfl⟩
        clear ho hx hr1 hr2 HSM
        obtain ⟨⟨xb, xs, xp⟩, xw⟩ := x
        obtain ⟨ob, os, op⟩ := o
        simp only at e0 e1 e2 e3 d0 d1 d2 d3 hin hfi HSW HEQ HNE
        obtain ⟨B1, hB1⟩ : ∃ B1 : Nat, B1 = ob + 1 := ⟨_, rfl⟩
        obtain ⟨B2, hB2⟩ : ∃ B2 : Nat, B2 = xb + 1 := ⟨_, rfl⟩
        rw [← hB1] at e0
        rw [← hB2] at d0
        have HBB : Hid (B1 = ob + 1 ∧ B2 = xb + 1) := ⟨hB1, hB2⟩
        have hB32 : B1 ≤ 32 ∧ B2 ≤ 32 := by omega
        clear hB1 hB2 hfi hin
        by_cases c1' : objW now ⟨ob, os, op⟩ = xw
        · have hw1 : decide (objW now ⟨ob, os, op⟩ = xw) = true := by simpa using c1'
          have C1 : Hid (objW now ⟨ob, os, op⟩ = xw) := c1'
          clear c1'
          by_cases c2' : B1 = B2
          · have hb1 : ((B1 : Int) != (B2 : Int)) = false := by simp; omega
            have C2 : Hid (B1 = B2) := c2'
            clear c2'
            by_cases c3' : os = xs
            · have hs1 : ((os : Int) != (xs : Int)) = false := by simp; omega
              have C3 : Hid (os = xs) := c3'
              clear c3'
              by_cases c4' : op = xp
              · have hp1 : ((op : Int) != (xp : Int)) = false := by simp; omega
                have C4 : Hid (op = xp) := c4'
                clear c4'
                go_wp2
                go_quiet (first | (go_at_call 33; refine Calls.quiet_of (HSW.out _ ?_); exact ((Fr.refl New wr).alloc _).drewN _) | fail)
                go_wp2
                go_quiet (fail)
                go_wp2
                go_roundg (l.length - (i + 1))
                case measure => omega
                case rel => exact ⟨i + 1, by omega, rfl, by go_num, (hf2.alloc _).drewN _, HEQ.out C1.out (by have := HBB.out; have := C2.out; omega) C3.out C4.out⟩
              · have hp1 : ((op : Int) != (xp : Int)) = true := by simp; omega
                go_wp2
                go_quiet (first | (go_at_call 33; refine Calls.quiet_of (HSW.out _ ?_); exact ((Fr.refl New wr).alloc _).drewN _) | fail)
                go_wp2
                go_quiet (fail)
                go_wp2
                go_ret
                exact ⟨false, rfl, ⟨(fun h => by cases h), fun h => absurd (HNE.out h) (fun hh => c4' hh.2.2.2)⟩, HFW.out _ (((hf2.alloc _).drewN _).drewN _)⟩
            · have hs1 : ((os : Int) != (xs : Int)) = true := by simp; omega
              go_wp2
              go_quiet (first | (go_at_call 33; refine Calls.quiet_of (HSW.out _ ?_); exact ((Fr.refl New wr).alloc _).drewN _) | fail)
              go_wp2
              go_quiet (fail)
              go_wp2
              go_ret
              exact ⟨false, rfl, ⟨(fun h => by cases h), fun h => absurd (HNE.out h) (fun hh => c3' hh.2.2.1)⟩, HFW.out _ (((hf2.alloc _).drewN _).drewN _)⟩
          · have hb1 : ((B1 : Int) != (B2 : Int)) = true := by simp; omega
            go_wp2
            go_quiet (first | (go_at_call 33; refine Calls.quiet_of (HSW.out _ ?_); exact ((Fr.refl New wr).alloc _).drewN _) | fail)
            go_wp2
            go_quiet (fail)
            go_wp2
            go_ret
            exact ⟨false, rfl, ⟨(fun h => by cases h), fun h => absurd (HNE.out h) (fun hh => c2' (by have := HBB.out; omega))⟩, HFW.out _ (((hf2.alloc _).drewN _).drewN _)⟩
        · have hw1 : decide (objW now ⟨ob, os, op⟩ = xw) = false := by simpa using c1'
          go_wp2
          go_quiet (first | (go_at_call 33; refine Calls.quiet_of (HSW.out _ ?_); exact ((Fr.refl New wr).alloc _).drewN _) | fail)
          go_wp2
          go_quiet (fail)
          go_wp2
          go_ret
          exact ⟨false, rfl, ⟨(fun h => by cases h), fun h => absurd (HNE.out h) (fun hh => c1' hh.1)⟩, HFW.out _ (((hf2.alloc _).drewN _).drewN _)⟩
      · obtain rfl : i = l.length := by omega
        have hd0 : decide ((l.length : Int) < (l.length : Int)) = false := by simp
        have HEQ : Hid (l = things now) := by
          rw [HTH.out]
          refine List.ext_getElem (by simp; omega) (fun j h1 h2 => ?_)
          rw [List.getElem_map]
          exact HSM.out j h1 (by omega) h1
        clear HSM hi hil
        go_wp2
        go_loopg [9] 4 (fun gh t wr => ∃ k : Nat, k ≤ 4 ∧ gh = 4 - k ∧ t = .int .i64 k ∧ Fr New w1 wr ∧ ∀ j, j < k → wrap64 (wd now (3 + j)) = root4 r0 r1 r2 r3 j)
        case atStart => exact ⟨0, by omega, rfl, rfl, hf2, fun j hj => by omega⟩
        case round =>
          clear hf2 hsh
          obtain ⟨k, hk4, rfl, rfl, hf3, hro⟩ := hrel
          have HRO : Hid (∀ j, j < k → wrap64 (wd now (3 + j)) = root4 r0 r1 r2 r3 j) := hro
          clear hro
          by_cases hk : k < 4
          · have HR : Hid (Calls Tryz.prog 34 #[.pointer (some ⟨hb, 0, none⟩), .int .i64 (k : Int)] wr fun e w' => e = .returned (.tuple #[.int .i64 (wrap64 (wd now (3 + k))), .int .i64 0]) ∧ w' = wr) := HRT.out wr (HFW.out wr hf3) k hk
            have hrc := root_cells (HSB.out wr hf3) k hk
            obtain ⟨x, hx⟩ : ∃ x, x = wrap64 (wd now (3 + k)) := ⟨_, rfl⟩
            obtain ⟨y, hy⟩ : ∃ y, y = root4 r0 r1 r2 r3 k := ⟨_, rfl⟩
            have HXY : Hid (x = y → ∀ j, j < k + 1 → wrap64 (wd now (3 + j)) = root4 r0 r1 r2 r3 j) := fun e j hj => by
              rcases (show j < k ∨ j = k by omega) with h' | rfl
              · exact HRO.out j h'
              · rw [← hx, ← hy]; exact e
            have HNE : Hid (IsIt now l r0 r1 r2 r3 → x = y) := fun hit => by rw [hx, hy]; exact hit.2 k hk
            rw [← hx] at HR
            rw [← hy] at hrc
            clear hx hy HRO
            by_cases c : x = y
            · have hxy : (x != y) = false := by simpa using c
              have C : Hid (x = y) := c
              clear c
              go_wp2_with (first
                | (go_at_call 34; refine calls_same HR.out ?_)
                | fail)
              go_roundg (4 - (k + 1))
              case measure => omega
              case rel => exact ⟨k + 1, by omega, rfl, by go_num, hf3, HXY.out C.out⟩
            · have hxy : (x != y) = true := by simpa using c
              go_wp2_with (first
                | (go_at_call 34; refine calls_same HR.out ?_)
                | fail)
              go_ret
              exact ⟨false, rfl, ⟨(fun h => by cases h), fun h => absurd (HNE.out h) c⟩, HFW.out _ hf3⟩
          · obtain rfl : k = 4 := by omega
            go_wp2
            go_ret
            exact ⟨true, rfl, ⟨fun _ => ⟨HEQ.out, HRO.out⟩, fun _ => rfl⟩, HFW.out _ hf3⟩
  · have hdl : ((lo.length : Int) != (l.length : Int)) = true := by simp; omega
    go_enter Tryz.func11, Tryz.ntmps11
    go_wp2_with (first
      | (go_at_call 9; refine (HO.out _ ((Fr.refl New w).alloc _)).mono ?_; rintro e w1 ⟨v1, gs, rfl, hT1, hf1⟩; obtain ⟨a1, c1, rfl⟩ := own_slice hT1.own; have hcs : w1.cell? ⟨w.heap.size, 0, none⟩ = some (.slice av l.length cv) := ((block_cells (hf1.heap (Go.Deep.blk_alloc_new w _) id)).1 0).trans rfl)
      | fail)
    go_ret
    refine ⟨false, rfl, ⟨(fun h => by cases h), fun h => absurd ?_ hlen⟩, ((Fr.refl New w).alloc _).same hf1⟩
    rw [h.1, HTH.out, List.length_map]
end Go.Proofs.YtbagcjlimdilpabGreat

