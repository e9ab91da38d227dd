/- Texts that follow one another, joined. -/
import Derived.Test.YtbagcjlimdilpaaGreatKtJ7
import Derived.Test.YtbagcjlimdilpaaGreatKtPgH
import Derived.Deep.RegionHeld3
import Derived.Deep.AppendLies
import Derived.Test.YtbagcjlimdilpaaGreatKtKpA
import Derived.Test.YtbagcjlimdilpaaGreatKtPgI
import Derived.Test.YtbagcjlimdilpaaGreatKtRefQ
import Derived.Test.YtbagcjlimdilpaaGreatKtRefL
/- The walk of the program's Objects. -/
namespace Go.Proofs.YtbagcjlimdilpaaGreat
open Go.RowKit Go.Maps

theorem Tryz.info96 : (Tryz.prog.info? 96).map (fun i => (i.zero, i.size, i.bytes)) = some (some (.agg #[.int .i64 0, .int .i64 0, .int .i64 0, .slice none 0 0]), 4, 48) := by kernel_rfl
/-- an object as it is told -/
def aoCell (o : Ob) (g : Nat) : List Value := [.int .i64 ((o.block + 1 : Nat) : Int), .int .i64 o.span, .int .i64 o.ptrs, .slice (some ⟨g, 0, none⟩) (8 * o.span - 1) (8 * o.span - 1)]
def aoCells (l : List Ob) (gs : List Nat) : List Value := (List.zipWith aoCell l gs).flatten
theorem aoCells_snoc {l : List Ob} {gs : List Nat} (h : l.length = gs.length) (o : Ob) (g : Nat) : aoCells (l ++ [o]) (gs ++ [g]) = aoCells l gs ++ aoCell o g := by
  unfold aoCells
  rw [List.zipWith_append (by exact h)]
  simp
theorem aoCell_one (o : Ob) (g : Nat) : ∀ u ∈ aoCell o g, u.oneCell' = true := by
  intro u hu
  simp only [aoCell, List.mem_cons, List.not_mem_nil, or_false] at hu
  rcases hu with rfl | rfl | rfl | rfl <;> rfl
/-- objects that were told: the list, and each one's words -/
structure ToldO (B : Nat) (w : World) (v : Value) (now : List Int) (l : List Ob) (gs : List Nat) : Prop where
  own : w.ownsRow B 96 4 v l.length (aoCells l gs)
  len : l.length = gs.length
  rows : ∀ i (hi : i < l.length) (hg : i < gs.length), Row w (gs[i]) (objW now l[i])
  base : ∀ g ∈ gs, B ≤ g
  nodup : gs.Nodup
  lt : ∀ g ∈ gs, g < w.heap.size
theorem ToldO.fr {B : Nat} {w w' : World} {v : Value} {now : List Int} {l : List Ob} {gs : List Nat} (h : ToldO B w v now l gs) (hf : Fr New w w') : ToldO B w' v now l gs :=
  ⟨hf.owns h.own (fun _ _ h => h), h.len, fun i hi hg => hf.heap (h.rows i hi hg) id, h.base, h.nodup, fun g hg => Nat.lt_of_lt_of_le (h.lt g hg) hf.size⟩
/-- behind one more -/
theorem ToldO.more {B : Nat} {w w1 w2 : World} {v v2 : Value} {now : List Int} {l : List Ob} {gs : List Nat} {o : Ob} {g : Nat} (h : ToldO B w v now l gs) (hf : Fr New w w1) (hg : w1.grownBy w2 v.ownBlock) (hr : Row w1 g (objW now o)) (hgw : w.heap.size ≤ g) (hB : B ≤ w.heap.size)
    (ho : w2.ownsRow B 96 4 v2 (l.length + 1) (aoCells l gs ++ aoCell o g)) : ToldO B w2 v2 now (l ++ [o]) (gs ++ [g]) ∧ Fr (fun k => B ≤ k) w w2 := by
  have h1 := h.fr hf
  have h2 : Fr (fun k => v.ownBlock = some k) w1 w2 := (Fr.refl _ _).grown hg (fun k _ hk => hk)
  have hne : ∀ g' cur, w1.heap[g']? = some (.cells cur 50 (0, 0)) → ¬ v.ownBlock = some g' := fun g' cur hg' hv => by
    obtain ⟨_, c, hc⟩ := own_block h1.own hv
    exact type_ne hg' hc (by decide) rfl
  have hltg : g < w1.heap.size := lt_of_block (show w1.heap[g]? = some _ from hr)
  refine ⟨⟨by rw [aoCells_snoc h.len, List.length_append]; exact ho, by simp [h.len], fun i hi hg' => ?_, fun g' hg' => ?_, ?_, fun g' hg' => ?_⟩, ?_⟩
  · by_cases hil : i < l.length
    · have hgl : i < gs.length := by rw [← h.len]; exact hil
      have e1 : (l ++ [o])[i] = l[i] := List.getElem_append_left hil
      have e2 : (gs ++ [g])[i] = gs[i] := List.getElem_append_left hgl
      rw [e1, e2]
      exact h2.heap (h1.rows i hil hgl) (hne _ _ (h1.rows i hil hgl))
    · have hie : i = l.length := by simp at hi; omega
      subst hie
      have e1 : (l ++ [o])[l.length] = o := by simp
      have e2 : (gs ++ [g])[l.length] = g := by simp [h.len]
      rw [e1, e2]
      exact h2.heap hr (hne _ _ hr)
  · rcases List.mem_append.1 hg' with hx | hx
    · exact h.base g' hx
    · simp at hx; omega
  · refine List.nodup_append.2 ⟨h.nodup, by simp, fun a ha b hb => ?_⟩
    simp at hb
    subst hb
    have := h.lt a ha
    omega
  · have := h2.size
    rcases List.mem_append.1 hg' with hx | hx
    · have := h1.lt g' hx; omega
    · simp at hx; omega
  · exact (((Fr.refl (fun k => B ≤ k) w).same hf)).trans h2 (fun j _ hv => (own_block h1.own hv).1)
theorem own_le {w : World} {B B' : Nat} {v : Value} {n : Nat} {xs : List Value} {e : TypeId} {sz : Nat} (h : w.ownsRow B e sz v n xs) (hb : B' ≤ B) : w.ownsRow B' e sz v n xs :=
  ⟨h.1, h.2.imp id (fun ⟨g, cap, cur, e, hbg, r⟩ => ⟨g, cap, cur, e, Nat.le_trans hb hbg, r⟩)⟩

set_option maxHeartbeats 2000000 in
set_option maxRecDepth 100000 in
theorem hobjs_any (hb tb cb mb g : Nat) (vs : Value) (ws now : List Int) (st : List St) (w : World) (h : PH hb tb cb mb g vs ws now st w) :
    Calls Tryz.prog 45 #[.pointer (some ⟨hb, 0, none⟩)] w fun e w' => ∃ v gs, e = .returned v ∧ ToldO w.heap.size w' v now (objs now) gs ∧ Fr New w w' := by
  have HO : Hid (Calls Tryz.prog 55 #[.pointer (some ⟨hb, 0, none⟩)] w fun e w' => ∃ vl, e = .returned vl ∧ OwnT w.heap.size w' vl (objs now) ∧ Fr New w w') := hobjects_any hb tb cb mb g vs ws now st w h
  have hlens := h.lens
  have HLN : Hid (now.length = ws.length) := h.len
  obtain ⟨i0, hi0, hz0, hz1, hz2⟩ := info_parts Tryz.info96
  have HIN : Hid (∀ o ∈ objs now, 106 + 8 * (o.block + o.span) ≤ now.length ∧ 1 ≤ o.span ∧ o.span ≤ 4 ∧ o.ptrs < 8 * o.span ∧ o.block < 32) := fun o ho => by
    have := objs_in ho
    have := nblk_le now.length
    exact ⟨by omega, by omega, by omega, by omega, by omega⟩
  have HWD : Hid (∀ o ∈ objs now, ∀ w1, Fr New w w1 → Calls Tryz.prog 94 #[.agg #[.int .i64 1, .int .i64 ((o.block + 1 : Nat) : Int), .int .i64 o.span, .int .i64 o.ptrs], .iface 101 (.pointer (some ⟨cb, 0, none⟩))] w1 fun e w' => ∃ g, w1.heap.size ≤ g ∧ e = .returned (.slice (some ⟨g, 0, none⟩) (8 * o.span - 1) (8 * o.span - 1)) ∧ Row w' g (objW now o) ∧ Fr New w1 w') := fun o ho w1 hf => twords_row _ _ _ _ _ now o w1 (h.new hf).row (HIN.out o ho).2.1 (HIN.out o ho).2.2.1 (HIN.out o ho).1 (by rw [h.len]; omega)
  have HC1 : Hid (∀ w1, Fr New w w1 → w1.cell? ⟨hb, 1, none⟩ = some (.pointer (some ⟨cb, 0, none⟩))) := fun w1 hf => (h.new hf).p1
  have HHB : Hid (∀ w1, Fr New w w1 → w1.heap[hb]? = some (.cells #[.pointer (some ⟨tb, 0, none⟩), .pointer (some ⟨cb, 0, none⟩)] 104 (0, 0))) := fun w1 hf => (h.new hf).hp
  have hl32 := objs_len now
  obtain ⟨l, hl⟩ : ∃ l, l = objs now := ⟨_, rfl⟩
  rw [← hl] at HO HIN HWD hl32 ⊢
  have HLO : Hid (∀ w1 vl, OwnT w.heap.size w1 vl l → LiesT w1 vl l) := fun w1 vl ho => by rw [hl] at ho ⊢; exact liesT_objs ho
  clear hl hlens h
  go_enter Tryz.func45, Tryz.ntmps45
  go_wp2_with (first
    | (go_at_call 55; refine HO.out.mono ?_; rintro e w1 ⟨vl, rfl, hol, hf1⟩; have hlo := HLO.out w1 vl hol; have HLV : Hid (∀ w', Fr (fun k => w1.heap.size ≤ k) w1 w' → LiesT w' vl l) := (fun w' hf => hlo.fr hf (fun g hg => by have := (own_block hol hg).2; obtain ⟨c, hc⟩ := this; have := lt_of_block hc; omega)); obtain ⟨av, cv, rfl, _⟩ := hlo)
    | fail)
  go_loopg [3, 9] l.length (fun gh v t wr => ∃ (i : Nat) (gs : List Nat), i ≤ l.length ∧ gh = l.length - i ∧ t = .int .i64 i ∧ ToldO w1.heap.size wr v now (l.take i) gs ∧ Fr (fun k => w1.heap.size ≤ k) w1 wr)
  case atStart => exact ⟨0, [], by omega, rfl, rfl, ⟨by simpa [aoCells] using World.ownsRow_nil _ _ _ _, rfl, (fun i hi => by simp at hi), (fun g hg => by cases hg), List.nodup_nil, (fun g hg => by cases hg)⟩, Fr.refl _ _⟩
  case round =>
    obtain ⟨i, gs, hil, rfl, rfl, hT, hF⟩ := hrel
    have HFW : Hid (Fr New w wr) := hf1.trans hF (fun j hj hk => by have := hf1.size; omega)
    by_cases hi : i < l.length
    · have hd0 : decide ((i : Int) < (l.length : Int)) = true := by simp; omega
      obtain ⟨gv, rfl, e0, e1, e2, e3⟩ := (HLV.out wr hF).at i hi
      have hin := HIN.out l[i] (List.getElem_mem _)
      have HWI : Hid (∀ w', Fr New w w' → Calls Tryz.prog 94 #[.agg #[.int .i64 1, .int .i64 ((l[i].block + 1 : Nat) : Int), .int .i64 l[i].span, .int .i64 l[i].ptrs], .iface 101 (.pointer (some ⟨cb, 0, none⟩))] w' fun e w'' => ∃ g, w'.heap.size ≤ g ∧ e = .returned (.slice (some ⟨g, 0, none⟩) (8 * l[i].span - 1) (8 * l[i].span - 1)) ∧ Row w'' g (objW now l[i]) ∧ Fr New w' w'') := HWD.out l[i] (List.getElem_mem _)
      have HTK : Hid (l.take (i + 1) = l.take i ++ [l[i]]) := List.take_succ_eq_append_getElem hi
      have htl : (l.take i).length = i := by simp; omega
      obtain ⟨o, ho⟩ : ∃ o, o = l[i] := ⟨_, rfl⟩
      rw [← ho] at e1 e2 e3 hin HWI HTK
      obtain ⟨b, sp, pt⟩ := o
      simp only at e1 e2 e3 hin HWI
      obtain ⟨B, hB⟩ : ∃ B : Nat, B = b + 1 := ⟨_, rfl⟩
      rw [← hB] at e1 HWI
      have HBB : Hid (B = b + 1) := hB
      have hB33 : B ≤ 32 := by omega
      have hT' := hT
      obtain ⟨a3, c3, rfl⟩ := own_slice hT.own
      rw [htl]
      clear ho hB hin
      go_upto_region 5 with fail
      have htq : (wr.alloc (.cells #[.int .i64 1, .int .i64 B, .int .i64 sp, .int .i64 pt] 115)).heap[wr.heap.size]? = some (.cells #[.int .i64 1, .int .i64 B, .int .i64 sp, .int .i64 pt] 115 (0, 0)) := Go.Deep.blk_alloc_new wr _
      have hfq : Fr New wr (wr.alloc (.cells #[.int .i64 1, .int .i64 B, .int .i64 sp, .int .i64 pt] 115)) := (Fr.refl _ _).alloc _
      obtain ⟨W2, hW2⟩ : ∃ W2, W2 = wr.alloc (.cells #[.int .i64 1, .int .i64 B, .int .i64 sp, .int .i64 pt] 115) := ⟨_, rfl⟩
      obtain ⟨gt, hgt⟩ : ∃ gt, gt = wr.heap.size := ⟨_, rfl⟩
      rw [← hW2] at htq hfq ⊢
      rw [← hgt] at htq
      rw [← hgt]
      have HSZ : Hid (wr.heap.size ≤ W2.heap.size) := hfq.size
      obtain ⟨ht, hz⟩ := block_cells htq
      have ht0 : W2.cell? ⟨gt, 0, none⟩ = some (.int .i64 1) := (ht 0).trans rfl
      have ht1 : W2.cell? ⟨gt, 1, none⟩ = some (.int .i64 B) := (ht 1).trans rfl
      have ht2 : W2.cell? ⟨gt, 2, none⟩ = some (.int .i64 sp) := (ht 2).trans rfl
      have ht3 : W2.cell? ⟨gt, 3, none⟩ = some (.int .i64 pt) := (ht 3).trans rfl
      have hc1 := HC1.out W2 (HFW.out.same hfq)
      clear ht hz hW2 hgt e0 e1 e2 e3
      have hown := hT.own
      rw [htl] at hown
      have HMO : Hid (∀ w4 g4 w7 v7, Fr New W2 w4 → W2.heap.size ≤ g4 → Row w4 g4 (objW now ⟨b, sp, pt⟩) → (w4.alloc (.cells ((aoCell ⟨b, sp, pt⟩ g4).toArray) 96)).grownBy w7 (Value.slice a3 i c3).ownBlock → w7.ownsRow w1.heap.size 96 4 v7 (i + 1) (aoCells (l.take i) gs ++ aoCell ⟨b, sp, pt⟩ g4) → ToldO w1.heap.size w7 v7 now (l.take (i + 1)) (gs ++ [g4]) ∧ Fr (fun k => w1.heap.size ≤ k) w1 w7) := fun w4 g4 w7 v7 h1 h2 h3 h4 h5 => by
        have := hT.more (o := ⟨b, sp, pt⟩) (g := g4) (hfq.same (h1.alloc (.cells ((aoCell ⟨b, sp, pt⟩ g4).toArray) 96))) (by rw [htl]; exact h4) (((Fr.refl New w4).alloc _).heap h3 id) (Nat.le_trans HSZ.out h2) hF.size (by rw [htl]; exact h5)
        rw [HTK.out]
        exact ⟨this.1, hF.trans this.2 (fun j _ h => h)⟩
      have HBS : Hid (w1.heap.size ≤ W2.heap.size) := Nat.le_trans hF.size HSZ.out
      have HOW : Hid (∀ w4, Fr New W2 w4 → w4.ownsRow w1.heap.size 96 4 (.slice a3 i c3) i (aoCells (l.take i) gs)) := fun w4 hf => (hfq.same hf).owns hown (fun _ _ h => h)
      have HFQ : Hid (Fr New w W2) := HFW.out.same hfq
      have hi32 : i < 32 := by omega
      have HKP : Hid (∀ w4 w7, Fr New W2 w4 → Fr (fun k => (Value.slice a3 i c3).ownBlock = some k) w4 w7 → w7.cell? ⟨gt, 0, none⟩ = some (.int .i64 1) ∧ w7.cell? ⟨gt, 1, none⟩ = some (.int .i64 B) ∧ w7.cell? ⟨gt, 2, none⟩ = some (.int .i64 sp) ∧ w7.cell? ⟨gt, 3, none⟩ = some (.int .i64 pt) ∧ w7.cell? ⟨hb, 1, none⟩ = some (.pointer (some ⟨cb, 0, none⟩))) := fun w4 w7 h4 h7 => by
        have hne : ∀ k t cs, t ≠ 96 → w4.heap[k]? = some (.cells cs t (0, 0)) → ¬ (Value.slice a3 i c3).ownBlock = some k := fun k t cs ht hk hv => by
          obtain ⟨_, c, hc⟩ := own_block (HOW.out w4 h4) hv
          exact type_ne hk hc ht rfl
        have t4 := h4.heap htq id
        have b4 := HHB.out w4 (HFQ.out.same h4)
        obtain ⟨k7, _⟩ := block_cells (h7.heap t4 (hne _ _ _ (by decide) t4))
        obtain ⟨l7, _⟩ := block_cells (h7.heap b4 (hne _ _ _ (by decide) b4))
        exact ⟨(k7 0).trans rfl, (k7 1).trans rfl, (k7 2).trans rfl, (k7 3).trans rfl, (l7 1).trans rfl⟩
      have HAC : Hid (∀ g4 : Nat, (#[Value.int .i64 (B : Int), .int .i64 (sp : Int), .int .i64 (pt : Int), .slice (some ⟨g4, 0, none⟩) (8 * sp - 1) (8 * sp - 1)] : Array Value) = (aoCell ⟨b, sp, pt⟩ g4).toArray) := fun g4 => by rw [HBB.out]; rfl
      clear hT hT' hown htl
      go_region_held3 (fun w' => w'.cell? ⟨gt, 0, none⟩ = some (.int .i64 1) ∧ w'.cell? ⟨gt, 1, none⟩ = some (.int .i64 B) ∧ w'.cell? ⟨gt, 2, none⟩ = some (.int .i64 sp) ∧ w'.cell? ⟨gt, 3, none⟩ = some (.int .i64 pt) ∧ w'.cell? ⟨hb, 1, none⟩ = some (.pointer (some ⟨cb, 0, none⟩))) (first | go_keep | exact hkeep2 | exact hkeep3)
        (first
          | (go_at_call 94; refine (HWI.out _ (by first | exact HFQ.out | exact HFQ.out.drew)).mono ?_; rintro e w4 ⟨g4, hg4, rfl, hR4, hf4⟩; have hf4' : Fr New W2 w4 := ((Fr.refl New W2).drew.same hf4); have hkeep2 : w4.cell? ⟨gt, 0, none⟩ = some (.int .i64 1) ∧ w4.cell? ⟨gt, 1, none⟩ = some (.int .i64 B) ∧ w4.cell? ⟨gt, 2, none⟩ = some (.int .i64 sp) ∧ w4.cell? ⟨gt, 3, none⟩ = some (.int .i64 pt) ∧ w4.cell? ⟨hb, 1, none⟩ = some (.pointer (some ⟨cb, 0, none⟩)) := ⟨hf4'.cell ht0 id, hf4'.cell ht1 id, hf4'.cell ht2 id, hf4'.cell ht3 id, hf4'.cell hc1 id⟩)
          | (refine step_append_lies _ (by rfl) (.tmp 13) (.tmp 28) 93 (by rfl) w1.heap.size 96 i0 _ 4 48 Tryz.underlying93 hi0 hz0 hz1 hz2 rfl (by decide) (.slice a3 i c3) i (aoCells (l.take i) gs) (by rfl) ((HOW.out w4 hf4').alloc _) ⟨w4.heap.size, 0, none⟩ 1 1 [.int .i64 (B : Int), .int .i64 (sp : Int), .int .i64 (pt : Int), .slice (some ⟨g4, 0, none⟩) (8 * sp - 1) (8 * sp - 1)] (by rfl) rfl (World.news_of_block (Go.Deep.blk_alloc_new w4 _)) (by intro u hu; simp at hu; rcases hu with rfl | rfl | rfl | rfl <;> rfl) (by decide) (by unfold maxLen; omega) (by omega) (by have := HBS.out; have := hf4'.size; simp; omega) _ rfl ?_; intro g7 c7 w7 ho7 hg7 _ _; have hkeep3 : w7.cell? ⟨gt, 0, none⟩ = some (.int .i64 1) ∧ w7.cell? ⟨gt, 1, none⟩ = some (.int .i64 B) ∧ w7.cell? ⟨gt, 2, none⟩ = some (.int .i64 sp) ∧ w7.cell? ⟨gt, 3, none⟩ = some (.int .i64 pt) ∧ w7.cell? ⟨hb, 1, none⟩ = some (.pointer (some ⟨cb, 0, none⟩)) := HKP.out w4 w7 hf4' (((Fr.refl _ _).alloc _).grown hg7 (fun k _ h => h))))
      all_goals
        rw [HAC.out] at hg7
        have hfin := HMO.out w4 g4 w7 _ hf4' (by simpa using hg4) hR4 hg7 (by rw [HBB.out] at ho7; exact ho7)
        clear hkeep2 hkeep3 ho7 hg7
        go_wp2_with fail
        go_roundg (l.length - (i + 1))
        case measure => omega
        case rel => exact ⟨i + 1, _, by omega, rfl, by go_num, hfin.1, hfin.2⟩
    · obtain rfl : i = l.length := by omega
      have hd0 : decide ((l.length : Int) < (l.length : Int)) = false := by simp
      rw [List.take_of_length_le (Nat.le_refl _)] at hT
      obtain ⟨a3, c3, rfl⟩ := own_slice hT.own
      clear hi hil
      go_wp2
      go_ret
      exact ⟨_, gs, rfl, ⟨own_le hT.own hf1.size, hT.len, hT.rows, fun g hg => Nat.le_trans hf1.size (hT.base g hg), hT.nodup, hT.lt⟩, HFW.out⟩
end Go.Proofs.YtbagcjlimdilpaaGreat
/- Shapes in memory: things with their words. Walks of sameWords and is. -/
namespace Go.Proofs.YtbagcjlimdilpaaGreat
open Go.RowKit Go.Maps

theorem Tryz.info54 : (Tryz.prog.info? 54).map (fun i => (i.zero, i.size, i.bytes)) = some (some (.agg #[.int .i64 0, .int .i64 0, .int .i64 0, .slice none 0 0]), 4, 48) := by kernel_rfl
/-- a thing: an object and its words -/
abbrev Th := Ob × List Int
def ktCell (x : Th) (v : Value) : List Value := [.int .i64 ((x.1.block + 1 : Nat) : Int), .int .i64 x.1.span, .int .i64 x.1.ptrs, v]
def ktCells : List Th → List Value → List Value
  | x :: l, v :: vs => ktCell x v ++ ktCells l vs
  | _, _ => []
theorem ktCells_len : ∀ (l : List Th) (vs : List Value), vs.length = l.length → (ktCells l vs).length = l.length * 4
  | [], [], _ => rfl
  | x :: l, v :: vs, h => by
    have := ktCells_len l vs (by simpa using h)
    simp only [ktCells, List.length_append, this, ktCell, List.length_cons, List.length_nil]
    omega
theorem ktCells_app : ∀ (l : List Th) (vs : List Value) (m : List Th) (us : List Value), vs.length = l.length → ktCells (l ++ m) (vs ++ us) = ktCells l vs ++ ktCells m us
  | [], [], _, _, _ => rfl
  | x :: l, v :: vs, m, us, h => by
    simp only [List.cons_append, ktCells, ktCells_app l vs m us (by simpa using h), List.append_assoc]
theorem ktCells_get : ∀ (l : List Th) (vs : List Value) (i : Nat) (hi : i < l.length) (hv : i < vs.length) (j : Nat), j < 4 → (ktCells l vs)[i * 4 + j]? = (ktCell l[i] vs[i])[j]?
  | x :: l, v :: vs, 0, _, _, j, hj => by
    simp only [ktCells, Nat.zero_mul, Nat.zero_add, List.getElem_cons_zero]
    rw [List.getElem?_append_left (by simpa [ktCell] using hj)]
  | x :: l, v :: vs, i + 1, hi, hv, j, hj => by
    simp only [ktCells, List.getElem_cons_succ]
    rw [List.getElem?_append_right (by simp [ktCell]; omega)]
    rw [← ktCells_get l vs i (by simpa using hi) (by simpa using hv) j hj]
    congr 1
    simp [ktCell]
    omega
theorem ktCells_one : ∀ (l : List Th) (vs : List Value), (∀ v ∈ vs, v.oneCell' = true) → ∀ u ∈ ktCells l vs, u.oneCell' = true
  | [], _, _, u, hu => by simp [ktCells] at hu
  | x :: l, [], _, u, hu => by simp [ktCells] at hu
  | x :: l, v :: vs, h, u, hu => by
    simp only [ktCells, List.mem_append] at hu
    rcases hu with hu | hu
    · simp only [ktCell, List.mem_cons, List.not_mem_nil, or_false] at hu
      rcases hu with rfl | rfl | rfl | rfl
      · rfl
      · rfl
      · rfl
      · exact h _ (by simp)
    · exact ktCells_one l vs (fun v hv => h v (List.mem_cons_of_mem _ hv)) u hu
/-- things that lie in memory, with their words -/
structure ThAt (w : World) (v : Value) (l : List Th) (vs : List Value) : Prop where
  own : w.ownsRow 0 54 4 v l.length (ktCells l vs)
  len : vs.length = l.length
  rows : ∀ i (hi : i < l.length) (hv : i < vs.length), Own 0 w vs[i] (l[i]).2
  fit : ∀ x ∈ l, x.2.length = 8 * x.1.span - 1 ∧ 1 ≤ x.1.span ∧ x.1.span ≤ 4 ∧ x.1.ptrs < 8 * x.1.span ∧ x.1.block < 32
  apart : vs.Pairwise (fun a b => a.ownBlock ≠ b.ownBlock)
  n : l.length ≤ 32
/-- the blocks of things -/
def ThB (v : Value) (vs : List Value) (k : Nat) : Prop := v.ownBlock = some k ∨ ∃ u ∈ vs, u.ownBlock = some k
namespace ThAt
variable {w : World} {v : Value} {l : List Th} {vs : List Value}
theorem fr {T : Nat → Prop} {w' : World} (h : ThAt w v l vs) (hf : Fr T w w') (hn : ∀ k, ThB v vs k → ¬ T k) : ThAt w' v l vs :=
  ⟨hf.owns h.own (fun g hg => hn g (.inl hg)), h.len, fun i hi hv => hf.owns (h.rows i hi hv) (fun g hg => hn g (.inr ⟨_, List.getElem_mem hv, hg⟩)), h.fit, h.apart, h.n⟩
theorem new {w' : World} (h : ThAt w v l vs) (hf : Fr New w w') : ThAt w' v l vs := h.fr hf (fun _ _ h => h)
theorem lt (h : ThAt w v l vs) {k : Nat} (hk : ThB v vs k) : k < w.heap.size := by
  rcases hk with hk | ⟨u, hu, hk⟩
  · obtain ⟨_, c, hc⟩ := own_block h.own hk
    exact lt_of_block hc
  · obtain ⟨i, hi, rfl⟩ := List.getElem_of_mem hu
    obtain ⟨_, c, hc⟩ := own_block (h.rows i (by rw [← h.len]; exact hi) hi) hk
    exact lt_of_block hc
/-- a block of another type is none of them -/
theorem no (h : ThAt w v l vs) {k : Nat} {c : Array Value} {t : TypeId} (hk : w.heap[k]? = some (.cells c t (0, 0))) (h1 : t ≠ 54) (h2 : t ≠ 50) : ¬ ThB v vs k := by
  rintro (hv | ⟨u, hu, hv⟩)
  · obtain ⟨_, c, hc⟩ := own_block h.own hv
    exact type_ne hk hc h1 rfl
  · obtain ⟨i, hi, rfl⟩ := List.getElem_of_mem hu
    obtain ⟨_, c, hc⟩ := own_block (h.rows i (by rw [← h.len]; exact hi) hi) hv
    exact type_ne hk hc h2 rfl
theorem noMap (h : ThAt w v l vs) {k : Nat} {es : Array MapEntry} {cl : Nat} (hk : w.heap[k]? = some (.map es cl)) : ¬ ThB v vs k := by
  rintro (hv | ⟨u, hu, hv⟩)
  · obtain ⟨_, c, hc⟩ := own_block h.own hv
    rw [hk] at hc; cases hc
  · obtain ⟨i, hi, rfl⟩ := List.getElem_of_mem hu
    obtain ⟨_, c, hc⟩ := own_block (h.rows i (by rw [← h.len]; exact hi) hi) hv
    rw [hk] at hc; cases hc
/-- the list as it is read -/
theorem slice (h : ThAt w v l vs) : ∃ a c, v = .slice a l.length c := own_slice h.own
/-- the i-th thing as it is read -/
theorem at' (h : ThAt w v l vs) (i : Nat) (hi : i < l.length) : ∃ g c gi ci, v = .slice (some ⟨g, 0, none⟩) l.length c ∧ g < w.heap.size ∧
    w.cell? ⟨g, i * 4, none⟩ = some (.int .i64 (((l[i]).1.block + 1 : Nat) : Int)) ∧ w.cell? ⟨g, i * 4 + 1, none⟩ = some (.int .i64 (l[i]).1.span) ∧ w.cell? ⟨g, i * 4 + 2, none⟩ = some (.int .i64 (l[i]).1.ptrs) ∧
    w.cell? ⟨g, i * 4 + 3, none⟩ = some (.slice (some ⟨gi, 0, none⟩) (l[i]).2.length ci) ∧ RowU w (some ⟨gi, 0, none⟩) (l[i]).2 ∧ (∃ hv : i < vs.length, vs[i] = .slice (some ⟨gi, 0, none⟩) (l[i]).2.length ci) ∧ (∀ k, w.frozen? ⟨gi, k, none⟩ = false) ∧ gi < w.heap.size := by
  have hv : i < vs.length := by rw [h.len]; exact hi
  have hfit := h.fit _ (List.getElem_mem hi)
  rcases h.own.2 with ⟨_, hn⟩ | ⟨g, cap, cur, rfl, hb, hh, hnc, hcm, hcs, htk⟩
  · omega
  · have hr := h.rows i hi hv
    rcases hr.2 with ⟨_, hn⟩ | ⟨gi, ci, curi, hvi, _, hhi, _⟩
    · omega
    · have hc : ∀ j, j < 4 → w.cell? ⟨g, i * 4 + j, none⟩ = (ktCell l[i] vs[i])[j]? := fun j hj => by
        rw [← ktCells_get l vs i hi hv j hj, ← htk, (block_cells hh).1]
        rw [List.getElem?_take_of_lt (by omega)]
        simp
      rw [hvi] at hr
      refine ⟨g, cap, gi, ci, rfl, lt_of_block hh, (hc 0 (by omega)).trans rfl, (hc 1 (by omega)).trans rfl, (hc 2 (by omega)).trans rfl, (hc 3 (by omega)).trans ?_, rowU_own hr, ⟨hv, hvi⟩, (block_cells hhi).2, lt_of_block hhi⟩
      rw [hvi]
      rfl
end ThAt

theorem ksame_any (a b : Option Addr) (cap cap' : Nat) (zs ys : List Int) (w : World) (hm : zs.length ≤ maxLen) (ha : RowU w a zs) (hb : RowU w b ys) :
    Calls Tryz.prog 28 #[.slice a zs.length cap, .slice b ys.length cap'] w fun e w' => e = .returned (.bool (decide (zs = ys))) ∧ ∃ n, w' = w.drewN n := by
  unfold maxLen at hm
  by_cases hl : zs.length = ys.length
  · have hdl : ((zs.length : Int) != (ys.length : Int)) = false := by simp; omega
    go_enter Tryz.func28, Tryz.ntmps28
    go_wp2
    go_loopg [5] zs.length (fun gh i wr => ∃ k n : Nat, k ≤ zs.length ∧ gh = zs.length - k ∧ i = .int .i64 k ∧ wr = w.drewN n ∧ ∀ j, j < k → wd zs j = wd ys j)
    case atStart => exact ⟨0, 0, Nat.zero_le _, rfl, rfl, rfl, fun j hj => by omega⟩
    case round =>
      obtain ⟨k, n, hk, rfl, rfl, rfl, hsame⟩ := hrel
      have HS : Hid (∀ j, j < k → wd zs j = wd ys j) := hsame
      clear hsame
      by_cases hlt : k < zs.length
      · obtain ⟨x, rfl, hcx⟩ := ha k hlt
        obtain ⟨y, rfl, hcy⟩ := hb k (by omega)
        by_cases he : wd zs k = wd ys k
        · have hk2 : k < ys.length := by omega
          have he' : (zs[k] != ys[k]) = false := by simpa [wd, List.getD, hlt, hk2] using he
          go_wp2
          go_quiet (fail)
          go_wp2
          go_roundg (zs.length - (k + 1))
          case rel => exact ⟨k + 1, n + nq, by omega, rfl, by go_num, rfl, fun j hj => by
            rcases (show j < k ∨ j = k by omega) with h | rfl
            · exact HS.out j h
            · exact he⟩
          case measure => omega
        · have hk2 : k < ys.length := by omega
          have he' : (zs[k] != ys[k]) = true := by simpa [wd, List.getD, hlt, hk2] using he
          go_wp2
          go_quiet (fail)
          go_wp2
          go_ret
          have hd : decide (zs = ys) = false := by simpa using fun h : zs = ys => absurd (by rw [h]) he
          rw [hd]
          exact ⟨rfl, n + nq, World.drewN_drewN ..⟩
      · go_wp2
        go_ret
        have hd : decide (zs = ys) = true := by
          rw [decide_eq_true_eq]
          refine wd_ext hl (fun q => ?_)
          by_cases hq : q < zs.length
          · exact HS.out q (by omega)
          · unfold wd
            simp [List.getD, show zs.length ≤ q by omega, show ys.length ≤ q by omega]
        rw [hd]
        exact ⟨rfl, n, rfl⟩
  · have hdl : ((zs.length : Int) != (ys.length : Int)) = true := by simp; omega
    go_enter Tryz.func28, Tryz.ntmps28
    go_wp2
    go_ret
    have hd : decide (zs = ys) = false := by simpa using fun h : zs = ys => absurd (by rw [h]) hl
    rw [hd]
    exact ⟨rfl, 0, rfl⟩
end Go.Proofs.YtbagcjlimdilpaaGreat
/- Walks of the program's Redo over a row that is told, and of carryOut. -/
namespace Go.Proofs.YtbagcjlimdilpaaGreat
open Go.RowKit Go.Maps

/-- records, as cells -/
def rsCells (rs : List (Int × Int)) : List Value := rs.flatMap (fun r => [.int .i64 r.1, .int .u64 r.2])
theorem rsCells_len (rs : List (Int × Int)) : (rsCells rs).length = rs.length * 2 := by
  induction rs with
  | nil => rfl
  | cons r rs ih => simp only [rsCells, List.flatMap_cons, List.length_append, List.length_cons, List.length_nil] at ih ⊢; omega
theorem rsCells_get (rs : List (Int × Int)) {i : Nat} (hi : i < rs.length) : (rsCells rs)[i * 2]? = some (.int .i64 (rs[i]).1) ∧ (rsCells rs)[i * 2 + 1]? = some (.int .u64 (rs[i]).2) := by
  induction rs generalizing i with
  | nil => simp at hi
  | cons r rs ih =>
    cases i with
    | zero => exact ⟨rfl, rfl⟩
    | succ i =>
      have := ih (i := i) (by simpa using hi)
      simp only [rsCells, List.flatMap_cons] at this ⊢
      rw [show (i + 1) * 2 = i * 2 + 1 + 1 by omega, show i * 2 + 1 + 1 + 1 = (i * 2 + 1) + 1 + 1 by omega]
      simpa using this
theorem rsCells_rec (ws : List Int) (n : Nat) : recCells ws n = rsCells ((List.range n).map (fun i => (wd ws (10 + 2 * i), wd ws (11 + 2 * i)))) := by
  simp [recCells, rsCells, List.flatMap_map]
abbrev OwnRs (base : Nat) (w : World) (v : Value) (rs : List (Int × Int)) : Prop := w.ownsRow base 199 2 v rs.length (rsCells rs)
/-- records that are put -/
def putsW (ws : List Int) (rs : List (Int × Int)) : List Int := rs.foldl (fun a r => a.set r.1.toNat r.2) ws
def putsSt (rs : List (Int × Int)) : List St := rs.map (fun r => ⟨1, r.1, r.2⟩)
theorem putsW_len (ws : List Int) (rs : List (Int × Int)) : (putsW ws rs).length = ws.length := by
  induction rs generalizing ws with
  | nil => rfl
  | cons r rs ih => simp only [putsW, List.foldl_cons] at ih ⊢; rw [ih]; simp
theorem putsW_snoc (ws : List Int) (rs : List (Int × Int)) (r : Int × Int) : putsW ws (rs ++ [r]) = (putsW ws rs).set r.1.toNat r.2 := by simp [putsW, List.foldl_append]
theorem putsSt_snoc (rs : List (Int × Int)) (r : Int × Int) : putsSt (rs ++ [r]) = putsSt rs ++ [⟨1, r.1, r.2⟩] := by simp [putsSt]
/-- where the stores lie: where they lay, or in a new block -/
def Moved (w : World) (vs vs' : Value) : Prop := vs'.ownBlock = vs.ownBlock ∨ ∀ k, vs'.ownBlock = some k → w.heap.size ≤ k
theorem Moved.refl (w : World) (vs : Value) : Moved w vs vs := .inl rfl
theorem Moved.trans {w w1 : World} {a b c : Value} (h : Moved w a b) (h1 : Moved w1 b c) (hs : w.heap.size ≤ w1.heap.size) : Moved w a c := by
  rcases h1 with h1 | h1
  · rcases h with h | h
    · exact .inl (h1.trans h)
    · exact .inr (fun k hk => h k (by rw [← h1]; exact hk))
  · exact .inr (fun k hk => Nat.le_trans hs (h1 k hk))
theorem turned_trans {tb g : Nat} {vs vs' : Value} {w w1 w2 : World} (h : Fr (TurnedT tb g vs) w w1) (hm : Moved w vs vs') (h1 : Fr (TurnedT tb g vs') w1 w2) : Fr (TurnedT tb g vs) w w2 :=
  h.trans h1 (fun j hj ht => by
    rcases ht with e | e | e
    · exact .inl e
    · exact .inr (.inl e)
    · rcases hm with hm | hm
      · exact .inr (.inr (hm ▸ e))
      · have := hm j e; omega)
/-- a row of records is not turned by stores -/
theorem recs_kept {tb g : Nat} {vs : Value} {ws : List Int} {st : List St} {w w' : World} {B : Nat} {v : Value} {rs : List (Int × Int)} (h : TG tb g vs ws st w) (hf : Fr (TurnedT tb g vs) w w') (ho : OwnRs B w v rs) : OwnRs B w' v rs :=
  hf.owns ho (fun k hk ht => by
    obtain ⟨_, c, hc⟩ := own_block ho hk
    rcases ht with e | e | e
    · exact type_ne hc h.t.td (by decide) e
    · exact type_ne hc h.t.wb (by decide) e
    · obtain ⟨_, c', hc'⟩ := own_block h.o e
      exact type_ne hc hc' (by decide) rfl)

set_option maxHeartbeats 1000000 in
set_option maxRecDepth 100000 in
theorem redo_told (tb g : Nat) (vs : Value) (ws : List Int) (st : List St) (B : Nat) (v : Value) (rs : List (Int × Int)) (w : World) (h : TG tb g vs ws st w) (hv : OwnRs B w v rs) (hin : ∀ r ∈ rs, 0 ≤ r.1 ∧ r.1 < ws.length) (hl : st.length + rs.length ≤ 1099511627776) :
    Calls Tryz.prog 109 #[.iface 97 (.pointer (some ⟨tb, 0, none⟩)), v] w fun e w' => e = .returned (.tuple #[]) ∧ ∃ vs', TG tb g vs' (putsW ws rs) (st ++ putsSt rs) w' ∧ Fr (TurnedT tb g vs) w w' ∧ Moved w vs vs' := by
  have hmp := meth_tput ⟨tb, 0, none⟩
  have HV : Hid (∀ w', Fr (TurnedT tb g vs) w w' → OwnRs B w' v rs) := fun w' hf => recs_kept h hf hv
  obtain ⟨a, c, rfl⟩ := own_slice hv
  have HIN : Hid (∀ r ∈ rs, 0 ≤ r.1 ∧ r.1 < ws.length) := hin
  have HLW : Hid (ws.length ≤ 1048576) := h.t.len
  clear hin hv
  go_enter Tryz.func109, Tryz.ntmps109
  go_wp2
  go_loopg [8] rs.length (fun gh t wr => ∃ (i : Nat) (vs' : Value), i ≤ rs.length ∧ gh = rs.length - i ∧ t = .int .i64 i ∧ TG tb g vs' (putsW ws (rs.take i)) (st ++ putsSt (rs.take i)) wr ∧ Fr (TurnedT tb g vs) w wr ∧ Moved w vs vs')
  case atStart => exact ⟨0, vs, by omega, rfl, rfl, by simpa [putsW, putsSt] using h, Fr.refl _ _, Moved.refl _ _⟩
  case round =>
    clear h
    obtain ⟨i, vs', hir, rfl, rfl, hT, hF, hMv⟩ := hrel
    by_cases hi : i < rs.length
    · have hd0 : decide ((i : Int) < (rs.length : Int)) = true := by simp; omega
      have ho := HV.out wr hF
      obtain ⟨gr, cr, hvv, _, hgr⟩ := ho.form (by omega)
      cases hvv
      obtain ⟨g1, g2⟩ := rsCells_get rs hi
      have hrl := rsCells_len rs
      have e0 : wr.cell? ⟨gr, i * 2, none⟩ = some (.int .i64 (rs[i]).1) := (ho.cellAt (i * 2) (by omega)).trans g1
      have e1 : wr.cell? ⟨gr, i * 2 + 1, none⟩ = some (.int .u64 (rs[i]).2) := (ho.cellAt (i * 2 + 1) (by omega)).trans g2
      have HTK : Hid (rs.take (i + 1) = rs.take i ++ [rs[i]]) := List.take_succ_eq_append_getElem hi
      obtain ⟨hp0, hp1⟩ := HIN.out rs[i] (List.getElem_mem _)
      obtain ⟨q, hq⟩ := Int.eq_ofNat_of_zero_le hp0
      obtain ⟨y, hy⟩ : ∃ y, y = (rs[i]).2 := ⟨_, rfl⟩
      have HRI : Hid (rs[i] = ((q : Int), y)) := by show _ = _; rw [← hq, hy]
      rw [hq] at e0 hp1
      rw [← hy] at e1
      have hql : q < (putsW ws (rs.take i)).length := by rw [putsW_len]; omega
      have hql2 : q ≤ 1048576 := by have := HLW.out; omega
      have hsl : (st ++ putsSt (rs.take i)).length ≤ 1099511627776 := by simp [putsSt]; omega
      have HPT : Hid (∀ w', Fr New wr w' → Calls Tryz.prog 139 #[.pointer (some ⟨tb, 0, none⟩), .int .i64 (q : Int), .int .u64 y] w' fun e w'' => e = .returned (.tuple #[]) ∧ ∃ vs2, TG tb g vs2 ((putsW ws (rs.take i)).set q y) ((st ++ putsSt (rs.take i)) ++ [⟨1, q, y⟩]) w'' ∧ Fr (TurnedT tb g vs') w' w'' ∧ Moved w' vs' vs2) := fun w' hf => tput_any tb g vs' _ _ q y w' (hT.new hf) hql hsl
      clear hq hy g1 g2 hrl hp0 hp1 ho hsl hql
      go_wp2_with (first
        | (go_at_call 139; refine (HPT.out _ ((Fr.refl _ _).alloc _)).mono ?_; rintro e w2 ⟨rfl, vs2, hT2, hf2, hm2⟩)
        | fail)
      have hfa : Fr (TurnedT tb g vs) w (wr.alloc (.cells #[.int .i64 (q : Int), .int .u64 y] 199)) := hF.alloc _
      go_roundg (rs.length - (i + 1))
      case measure => omega
      case rel =>
        refine ⟨i + 1, vs2, by omega, rfl, by go_num, ?_, turned_trans hfa hMv hf2, hMv.trans hm2 hfa.size⟩
        rw [HTK.out, HRI.out, putsW_snoc, putsSt_snoc, ← List.append_assoc]
        exact hT2
    · obtain rfl : i = rs.length := by omega
      rw [List.take_of_length_le (Nat.le_refl _)] at hT
      go_wp2
      go_end0
      exact ⟨rfl, vs', hT, hF, hMv⟩
/-- what carryOut makes of words and stores -/
def carryW (ws : List Int) (rs : List (Int × Int)) : List Int := (putsW ws rs).set 8 0
def carrySt (rs : List (Int × Int)) : List St := putsSt rs ++ [⟨2, 0, 0⟩, ⟨1, 8, 0⟩, ⟨2, 0, 0⟩]
set_option maxRecDepth 100000 in
theorem carry_told (tb g : Nat) (vs : Value) (ws : List Int) (st : List St) (B : Nat) (v : Value) (rs : List (Int × Int)) (w : World) (h : TG tb g vs ws st w) (hv : OwnRs B w v rs) (hin : ∀ r ∈ rs, 0 ≤ r.1 ∧ r.1 < ws.length) (h8 : 8 < ws.length) (hl : st.length + rs.length + 3 ≤ 1099511627776) :
    Calls Tryz.prog 97 #[.pointer (some ⟨tb, 0, none⟩), v] w fun e w' => e = .returned (.tuple #[]) ∧ ∃ vs', TG tb g vs' (carryW ws rs) (st ++ carrySt rs) w' ∧ Fr (TurnedT tb g vs) w w' ∧ Moved w vs vs' := by
  have HR : Hid (Calls Tryz.prog 109 #[.iface 97 (.pointer (some ⟨tb, 0, none⟩)), v] w fun e w' => e = .returned (.tuple #[]) ∧ ∃ vs', TG tb g vs' (putsW ws rs) (st ++ putsSt rs) w' ∧ Fr (TurnedT tb g vs) w w' ∧ Moved w vs vs') := redo_told tb g vs ws st B v rs w h hv hin (by omega)
  have HF1 : Hid (∀ vs1 w1, TG tb g vs1 (putsW ws rs) (st ++ putsSt rs) w1 → Calls Tryz.prog 138 #[.pointer (some ⟨tb, 0, none⟩)] w1 fun e w' => e = .returned (.tuple #[]) ∧ ∃ vs', TG tb g vs' (putsW ws rs) (st ++ putsSt rs ++ [⟨2, 0, 0⟩]) w' ∧ Fr (TurnedT tb g vs1) w1 w' ∧ Moved w1 vs1 vs') := fun vs1 w1 h1 => tflush_any tb g vs1 _ _ w1 h1 (by simp [putsSt]; omega)
  have HP : Hid (∀ vs1 w1, TG tb g vs1 (putsW ws rs) (st ++ putsSt rs ++ [⟨2, 0, 0⟩]) w1 → Calls Tryz.prog 139 #[.pointer (some ⟨tb, 0, none⟩), .int .i64 ((8 : Nat) : Int), .int .u64 0] w1 fun e w' => e = .returned (.tuple #[]) ∧ ∃ vs', TG tb g vs' (carryW ws rs) (st ++ putsSt rs ++ [⟨2, 0, 0⟩] ++ [⟨1, ((8 : Nat) : Int), 0⟩]) w' ∧ Fr (TurnedT tb g vs1) w1 w' ∧ Moved w1 vs1 vs') := fun vs1 w1 h1 => tput_any tb g vs1 _ _ 8 0 w1 h1 (by rw [putsW_len]; exact h8) (by simp [putsSt]; omega)
  have HF2 : Hid (∀ vs1 w1, TG tb g vs1 (carryW ws rs) (st ++ putsSt rs ++ [⟨2, 0, 0⟩] ++ [⟨1, ((8 : Nat) : Int), 0⟩]) w1 → Calls Tryz.prog 138 #[.pointer (some ⟨tb, 0, none⟩)] w1 fun e w' => e = .returned (.tuple #[]) ∧ ∃ vs', TG tb g vs' (carryW ws rs) (st ++ carrySt rs) w' ∧ Fr (TurnedT tb g vs1) w1 w' ∧ Moved w1 vs1 vs') := fun vs1 w1 h1 => by
    have := tflush_any tb g vs1 _ _ w1 h1 (by simp [putsSt]; omega)
    rw [show st ++ putsSt rs ++ [⟨2, 0, 0⟩] ++ [⟨1, ((8 : Nat) : Int), 0⟩] ++ [⟨2, 0, 0⟩] = st ++ carrySt rs by simp [carrySt]] at this
    exact this
  obtain ⟨a, c, rfl⟩ := own_slice hv
  clear h hv hin hl
  go_enter Tryz.func97, Tryz.ntmps97
  go_wp2_with (first
    | (go_at_call 109; refine HR.out.mono ?_; rintro e w1 ⟨rfl, vs1, hT1, hf1, hm1⟩)
    | (go_at_call 138; refine (HF1.out vs1 w1 hT1).mono ?_; rintro e w2 ⟨rfl, vs2, hT2, hf2, hm2⟩)
    | (go_at_call 139; refine (HP.out vs2 w2 hT2).mono ?_; rintro e w3 ⟨rfl, vs3, hT3, hf3, hm3⟩)
    | (go_at_call 138; refine (HF2.out vs3 w3 hT3).mono ?_; rintro e w4 ⟨rfl, vs4, hT4, hf4, hm4⟩))
  go_end0
  have f2 := turned_trans hf1 hm1 hf2
  have m2 := hm1.trans hm2 hf1.size
  have f3 := turned_trans f2 m2 hf3
  have m3 := m2.trans hm3 f2.size
  exact ⟨rfl, vs4, hT4, turned_trans f3 m3 hf4, m3.trans hm4 f3.size⟩
end Go.Proofs.YtbagcjlimdilpaaGreat
/- The document's Commit: its parts. -/
namespace Go.Proofs.YtbagcjlimdilpaaGreat
open Go.RowKit

/-- the words that a Commit makes -/
def countS (now : List Int) : List Int := now.set 2 (IntKind.u64.wrap (wd now 2 + 1))
def nextS (now : List Int) : List Int := (countS now).set 7 (sumL ((countS now).take 7))
theorem nextS_len (now : List Int) : (nextS now).length = now.length := by simp [nextS, countS]
/-- the places of its records -/
def diffAt (cur nx : List Int) (q : Nat) : Bool := decide (wd nx q ≠ wd cur q) && (decide (q < 8) || decide (106 ≤ q))
def diffS (cur nx : List Int) (k : Nat) : List Nat := (List.range k).filter (diffAt cur nx)
theorem diffS_succ (cur nx : List Int) (k : Nat) : diffS cur nx (k + 1) = diffS cur nx k ++ (if diffAt cur nx k then [k] else []) := by
  unfold diffS
  rw [List.range_succ, List.filter_append]
  congr 1
  cases h : diffAt cur nx k <;> simp [h]
theorem diffS_mem {cur nx : List Int} {k q : Nat} : q ∈ diffS cur nx k ↔ q < k ∧ wd nx q ≠ wd cur q ∧ (q < 8 ∨ 106 ≤ q) := by
  simp [diffS, diffAt]
theorem diffS_le (cur nx : List Int) (k : Nat) : (diffS cur nx k).length ≤ k := by
  have := List.length_filter_le (diffAt cur nx) (List.range k)
  simpa [diffS] using this
/-- the stores that lay the records into the log, and those that lay them over the words -/
def recSt (nx : List Int) (ps : List Nat) (i : Nat) : List St := (List.range i).flatMap (fun j => [⟨1, ((10 + 2 * j : Nat) : Int), ((ps.getD j 0 : Nat) : Int)⟩, ⟨1, ((11 + 2 * j : Nat) : Int), wd nx (ps.getD j 0)⟩])
def laySt (nx : List Int) (ps : List Nat) (i : Nat) : List St := (List.range i).map (fun j => ⟨1, ((ps.getD j 0 : Nat) : Int), wd nx (ps.getD j 0)⟩)
def recW (cur nx : List Int) (ps : List Nat) : Nat → List Int
  | 0 => cur
  | i + 1 => ((recW cur nx ps i).set (10 + 2 * i) ((ps.getD i 0 : Nat) : Int)).set (11 + 2 * i) (wd nx (ps.getD i 0))
def layW (cur nx : List Int) (ps : List Nat) : Nat → List Int
  | 0 => cur
  | i + 1 => (layW cur nx ps i).set (ps.getD i 0) (wd nx (ps.getD i 0))
theorem recSt_succ (nx : List Int) (ps : List Nat) (i : Nat) : recSt nx ps (i + 1) = recSt nx ps i ++ [⟨1, ((10 + 2 * i : Nat) : Int), ((ps.getD i 0 : Nat) : Int)⟩] ++ [⟨1, ((11 + 2 * i : Nat) : Int), wd nx (ps.getD i 0)⟩] := by simp [recSt, List.range_succ]
theorem laySt_succ (nx : List Int) (ps : List Nat) (i : Nat) : laySt nx ps (i + 1) = laySt nx ps i ++ [⟨1, ((ps.getD i 0 : Nat) : Int), wd nx (ps.getD i 0)⟩] := by simp [laySt, List.range_succ]
theorem recSt_len (nx : List Int) (ps : List Nat) (i : Nat) : (recSt nx ps i).length = 2 * i := by
  induction i with
  | zero => rfl
  | succ i ih => rw [recSt_succ]; simp [ih]; omega
theorem laySt_len (nx : List Int) (ps : List Nat) (i : Nat) : (laySt nx ps i).length = i := by simp [laySt]
theorem recW_len (cur nx : List Int) (ps : List Nat) (i : Nat) : (recW cur nx ps i).length = cur.length := by
  induction i with
  | zero => rfl
  | succ i ih => simp [recW, ih]
theorem layW_len (cur nx : List Int) (ps : List Nat) (i : Nat) : (layW cur nx ps i).length = cur.length := by
  induction i with
  | zero => rfl
  | succ i ih => simp [layW, ih]
/-- the log's sum, and all of a Commit: its words, its stores -/
def recSum (nx : List Int) (ps : List Nat) : Int := sumL ((ps.length : Int) :: (List.range ps.length).flatMap (fun j => [((ps.getD j 0 : Nat) : Int), wd nx (ps.getD j 0)]))
def commitW (cur now : List Int) : List Int :=
  let nx := nextS now
  let ps := diffS cur nx nx.length
  ((layW (((recW cur nx ps ps.length).set 9 (recSum nx ps)).set 8 (ps.length : Int)) nx ps ps.length)).set 8 0
def commitSt (cur now : List Int) : List St :=
  let nx := nextS now
  let ps := diffS cur nx nx.length
  recSt nx ps ps.length ++ [⟨1, 9, recSum nx ps⟩] ++ [⟨2, 0, 0⟩] ++ [⟨1, 8, (ps.length : Int)⟩] ++ [⟨2, 0, 0⟩] ++ laySt nx ps ps.length ++ [⟨2, 0, 0⟩] ++ [⟨1, 8, 0⟩] ++ [⟨2, 0, 0⟩]

/-- a heap with its words as they are now -/
structure RHN (hb gw cw gn cn L : Nat) (vs : Value) (ws now : List Int) (st : List St) (w : World) : Prop where
  g : RHG hb gw cw L (.slice (some ⟨gn, 0, none⟩) L cn) vs ws st w
  ownn : w.ownsRow 0 50 1 (.slice (some ⟨gn, 0, none⟩) L cn) L (now.map (Value.int .u64))
  len : now.length = L
  ne : gw ≠ gn
theorem RHN.cells {hb gw cw gn cn L : Nat} {vs : Value} {ws now : List Int} {st : List St} {w : World} (h : RHN hb gw cw gn cn L vs ws now st w) :
    w.cell? ⟨hb, 0, none⟩ = some (.slice (some ⟨gw, 0, none⟩) L cw) ∧ w.cell? ⟨hb, 1, none⟩ = some (.slice (some ⟨gn, 0, none⟩) L cn) ∧
    (∀ q, q < L → w.cell? ⟨gw, q, none⟩ = some (.int .u64 (wd ws q))) ∧ ∀ q, q < L → w.cell? ⟨gn, q, none⟩ = some (.int .u64 (wd now q)) := by
  refine ⟨((block_cells h.g.blk).1 0).trans rfl, ((block_cells h.g.blk).1 1).trans rfl, fun q hq => ?_, fun q hq => ?_⟩
  · have hq' : q < ws.length := by rw [h.g.lenw]; exact hq
    rw [h.g.ownw.cellAt q (by omega)]
    unfold wd
    simp [hq', List.getD]
  · have hq' : q < now.length := by rw [h.len]; exact hq
    rw [h.ownn.cellAt q (by omega)]
    unfold wd
    simp [hq', List.getD]
theorem RHN.fr {hb gw cw gn cn L : Nat} {vs : Value} {ws now : List Int} {st : List St} {w w' : World} (h : RHN hb gw cw gn cn L vs ws now st w) (hf : Fr New w w') : RHN hb gw cw gn cn L vs ws now st w' := ⟨h.g.fr hf, hf.owns h.ownn (fun _ _ h => h), h.len, h.ne⟩

set_option maxRecDepth 100000 in
/-- nothing was changed: nothing is done -/
theorem commit_none (hb gw cw gn cn L : Nat) (vs : Value) (ws : List Int) (st : List St) (w : World) (h : RHN hb gw cw gn cn L vs ws ws st w) :
    Calls Tryz.prog 84 #[.pointer (some ⟨hb, 0, none⟩)] w fun e w' => e = .returned (.int .i64 0) ∧ ∃ j, w' = w.drewN j := by
  have hL2 : L ≤ 362 := by have := (nblk_some h.g.n0).1; have := (nblk_some h.g.n0).2.2; omega
  obtain ⟨hc0, hc1, hcw, hcn⟩ := h.cells
  have HCW : Hid (∀ q, q < L → w.cell? ⟨gw, q, none⟩ = some (.int .u64 (wd ws q)) ∧ w.cell? ⟨gn, q, none⟩ = some (.int .u64 (wd ws q))) := fun q hq => ⟨hcw q hq, hcn q hq⟩
  have hbw : hb < w.heap.size := lt_of_block h.g.blk
  clear hcw hcn h
  go_enter Tryz.func84, Tryz.ntmps84
  go_wp2
  go_loopg [4, 5] L (fun gh s t wr => ∃ i j : Nat, i ≤ L ∧ gh = L - i ∧ s = .bool true ∧ t = .int .i64 i ∧ wr = w.drewN j)
  case atStart => exact ⟨0, 0, by omega, rfl, rfl, rfl, rfl⟩
  case round =>
    obtain ⟨i, j, hi, rfl, rfl, rfl, rfl⟩ := hrel
    by_cases hiL : i < L
    · have hd : decide ((i : Int) < (L : Int)) = true := by simpa using hiL
      obtain ⟨hca, hcb⟩ := HCW.out i hiL
      have hi0 : (0 : Int) ≤ (i : Int) := by omega
      have hi1 : (i : Int) < (L : Int) := by omega
      go_wp2
      go_quiet (fail)
      go_wp2
      go_roundg (L - (i + 1))
      case measure => omega
      case rel => exact ⟨i + 1, j + nq, by omega, rfl, by simp, by go_num, rfl⟩
    · obtain rfl : i = L := by omega
      go_wp2
      go_ret
      exact ⟨rfl, j, rfl⟩
end Go.Proofs.YtbagcjlimdilpaaGreat
/- The walk of the program's Holds: is a word held by a root or a pointer? -/
namespace Go.Proofs.YtbagcjlimdilpaaGreat
open Go.RowKit

/-- is x held by a root below r? -/
def RootHeld (now : List Int) (x : Int) (r : Nat) : Prop := ∃ q, q < r ∧ wd now (3 + q) = x
/-- .. by an object below i? -/
def ObjHeld (now : List Int) (l : List Ob) (x : Int) (i : Nat) : Prop := ∃ j, ∃ hj : j < l.length, j < i ∧ ∃ p, p < (l[j]).ptrs ∧ wd now (pl l[j] p) = x
theorem held_parts {now : List Int} {l : List Ob} {x : Int} (h1 : ¬ RootHeld now x 4) (h2 : ¬ ObjHeld now l x l.length) : ¬ HeldBy now l x := by
  rintro (⟨r, hr, e⟩ | ⟨i, hi, p, hp, e⟩)
  · exact h1 ⟨r, hr, e⟩
  · exact h2 ⟨i, hi, hi, p, hp, e⟩

set_option maxHeartbeats 4000000 in
set_option maxRecDepth 100000 in
theorem holds_row (rt : Nat) (rx : Value) (fL fR : Nat) (ry : Value) (ws : List Int) (v : Value) (x : Int) (w : World) (hn : nblk ws.length ≠ 0) (hrow : RowAt w rt rx fL fR ry ws) (hv : LiesT w v (objs ws)) :
    Calls Tryz.prog 71 #[v, .iface rt rx, .int .u64 x] w fun e w' => ∃ b, e = .returned (.bool b) ∧ (b = true ↔ HeldBy ws (objs ws) x) ∧ Fr New w w' := by
  obtain ⟨hlen, hn1, hn2⟩ := nblk_some hn
  obtain ⟨l, hl⟩ : ∃ l, l = objs ws := ⟨_, rfl⟩
  have HL : Hid (l = objs ws) := hl
  rw [← hl] at hv ⊢
  have HV : Hid (∀ wr, Fr New w wr → LiesT wr v l) := fun wr hf => hv.fr hf (fun _ _ h => h)
  have HW : Hid (∀ wr, Fr New w wr → ∀ i, i < ws.length → Calls Tryz.prog fR #[ry, .int .i64 (i : Nat)] wr fun e w'' => e = .returned (.int .u64 (wd ws i)) ∧ w'' = wr) := hrow.read
  have HM : Hid (∀ w', Fr New w w' → (method 356 rt rx "Read").run Tryz.prog w' = .ok (fR, ry) w') := hrow.mread
  have HBO : Hid (∀ o ∈ l, o.block < 32 ∧ 106 + 8 * (o.block + o.span) ≤ ws.length ∧ o.ptrs < 8 * o.span ∧ o.ptrs < 32) := fun o ho => by
    rw [hl] at ho
    have := objs_in ho
    exact ⟨by omega, by omega, by omega, by omega⟩
  obtain ⟨av, cv, rfl, _⟩ := hv
  have hcf := hrow.cread
  have har := hrow.aread
  have hmf : ∀ (fn : Fn) (first cap : Array Value) (w : World), (Instr.makeFunc fn first cap).run Tryz.prog w = .ok (.func fn first cap) w := fun _ _ _ _ => rfl
  have hl32 : l.length ≤ 32 := by rw [hl]; exact objs_len ws
  have hL1 : 114 ≤ ws.length := by omega
  clear hrow hl hn hlen hn1 hn2
  go_enter Tryz.func71, Tryz.ntmps71
  go_wp2
  go_loopg [11] 4 (fun gh t wr => ∃ r : Nat, r ≤ 4 ∧ gh = 4 - r ∧ t = .int .i64 r ∧ Fr New w wr ∧ ¬ RootHeld ws x r)
  case atStart => exact ⟨0, by omega, rfl, rfl, Fr.refl _ _, fun ⟨q, hq, _⟩ => by omega⟩
  case round =>
    obtain ⟨r, hr4, rfl, rfl, hf, hno⟩ := hrel
    by_cases hr : r < 4
    · have HR : Hid (Calls Tryz.prog fR #[ry, .int .i64 ((3 + r : Nat) : Int)] wr fun e w'' => e = .returned (.int .u64 (wd ws (3 + r))) ∧ w'' = wr) := HW.out wr hf (3 + r) (by omega)
      have hmr := HM.out wr hf
      obtain ⟨y, hy⟩ : ∃ y, y = wd ws (3 + r) := ⟨_, rfl⟩
      rw [← hy] at HR
      by_cases he : y = x
      · have HT : Hid (HeldBy ws l x) := .inl ⟨r, hr, hy.symm.trans he⟩
        have hb : (y == x) = true := by simpa using he
        clear hy he
        go_wp2_with (first
          | (refine calls_same HR.out ?_)
          | fail)
        go_ret
        exact ⟨true, rfl, ⟨fun _ => HT.out, fun _ => rfl⟩, hf⟩
      · have hb : (y == x) = false := by simpa using he
        have hnx : ¬ RootHeld ws x (r + 1) := by
          rintro ⟨q, hq, e⟩
          by_cases hqr : q = r
          · subst hqr; exact he (hy.trans e)
          · exact hno ⟨q, by omega, e⟩
        clear hy he
        go_wp2_with (first
          | (refine calls_same HR.out ?_)
          | fail)
        go_roundg (4 - (r + 1))
        case measure => omega
        case rel => exact ⟨r + 1, by omega, rfl, by go_num, hf, hnx⟩
    · obtain rfl : r = 4 := by omega
      have HRT : Hid (¬ RootHeld ws x 4) := hno
      clear hno hr hr4
      go_wp2
      go_loopg [23] l.length (fun gh t wr => ∃ i : Nat, i ≤ l.length ∧ gh = l.length - i ∧ t = .int .i64 i ∧ Fr New w wr ∧ ¬ ObjHeld ws l x i)
      case atStart => exact ⟨0, by omega, rfl, rfl, hf, fun ⟨_, _, hj, _⟩ => by omega⟩
      case round =>
        clear hf
        obtain ⟨i, hil, rfl, rfl, hf2, hno⟩ := hrel
        by_cases hi : i < l.length
        · have hd0 : decide ((i : Int) < (l.length : Int)) = true := by simp; omega
          obtain ⟨g, rfl, e0, e1, e2, e3⟩ := (HV.out wr hf2).at i hi
          obtain ⟨hb1, hb2, hb3, hb4⟩ := HBO.out l[i] (List.getElem_mem _)
          obtain ⟨o, ho⟩ : ∃ o, o = l[i] := ⟨_, rfl⟩
          have HO : Hid (o = l[i]) := ho
          rw [← ho] at e1 e2 e3 hb1 hb2 hb3 hb4
          obtain ⟨b, sp, pt⟩ := o
          simp only at e1 e2 e3 hb1 hb2 hb3 hb4
          obtain ⟨B, hB⟩ : ∃ B : Nat, B = b + 1 := ⟨_, rfl⟩
          rw [← hB] at e1
          have HBB : Hid (B = b + 1) := hB
          have hB33 : B ≤ 32 := by omega
          clear ho hB
          go_wp2
          have htq : (wr.alloc (.cells #[.int .i64 1, .int .i64 B, .int .i64 sp, .int .i64 pt] 115)).heap[wr.heap.size]? = some (.cells #[.int .i64 1, .int .i64 B, .int .i64 sp, .int .i64 pt] 115 (0, 0)) := Go.Deep.blk_alloc_new wr _
          have hf3 : Fr New w (wr.alloc (.cells #[.int .i64 1, .int .i64 B, .int .i64 sp, .int .i64 pt] 115)) := hf2.alloc _
          obtain ⟨gt, hgt⟩ : ∃ gt, gt = wr.heap.size := ⟨_, rfl⟩
          rw [← hgt] at htq
          rw [← hgt]
          clear hgt e0 e1 e2 e3
          go_loopg [29] pt (fun gh t wr => ∃ p : Nat, p ≤ pt ∧ gh = pt - p ∧ t = .int .i64 p ∧ Fr New w wr ∧ wr.heap[gt]? = some (.cells #[.int .i64 1, .int .i64 B, .int .i64 sp, .int .i64 pt] 115 (0, 0)) ∧ ∀ q, q < p → wd ws (pl ⟨b, sp, pt⟩ q) ≠ x)
          case atStart => exact ⟨0, by omega, rfl, rfl, hf3, htq, fun q hq => by omega⟩
          case round =>
            clear hf3 htq hf2
            obtain ⟨p, hpp, rfl, rfl, hf3, htq, hne⟩ := hrel
            by_cases hp : p < pt
            · obtain ⟨y, hy⟩ : ∃ y, y = wd ws (pl ⟨b, sp, pt⟩ p) := ⟨_, rfl⟩
              have HPL : Hid (∀ w2, Calls Tryz.prog 60 #[.agg #[.int .i64 1, .int .i64 B, .int .i64 sp, .int .i64 pt], .int .i64 p] w2 fun e w' => e = .returned (.int .i64 ((pl ⟨b, sp, pt⟩ p : Nat) : Int)) ∧ Fr New w2 w') := fun w2 => by rw [HBB.out]; exact twplace_any 1 sp pt b p w2 (by omega) (by omega)
              have HR : Hid (∀ w2, Fr New w w2 → Calls Tryz.prog fR #[ry, .int .i64 ((pl ⟨b, sp, pt⟩ p : Nat) : Int)] w2 fun e w'' => e = .returned (.int .u64 y) ∧ w'' = w2) := fun w2 hf => by
                rw [hy]
                exact HW.out w2 hf _ (by unfold pl; simp only; omega)
              obtain ⟨pq, hpq⟩ : ∃ pq : Nat, pq = pl ⟨b, sp, pt⟩ p := ⟨_, rfl⟩
              rw [← hpq] at HPL HR
              obtain ⟨ht, hz⟩ := block_cells htq
              have ht0 : wr.cell? ⟨gt, 0, none⟩ = some (.int .i64 1) := (ht 0).trans rfl
              have ht1 : wr.cell? ⟨gt, 1, none⟩ = some (.int .i64 B) := (ht 1).trans rfl
              have ht2 : wr.cell? ⟨gt, 2, none⟩ = some (.int .i64 sp) := (ht 2).trans rfl
              have ht3 : wr.cell? ⟨gt, 3, none⟩ = some (.int .i64 pt) := (ht 3).trans rfl
              by_cases he : y = x
              · have HT : Hid (HeldBy ws l x) := .inr ⟨i, hi, p, by rw [← HO.out]; exact hp, by rw [← HO.out]; exact hy.symm.trans he⟩
                have hb : (y == x) = true := by simpa using he
                clear hpq hy he ht hz hne
                go_upto_region 13 with fail
                go_region_held3 (fun w' => w'.cell? ⟨gt, 0, none⟩ = some (.int .i64 1) ∧ w'.cell? ⟨gt, 1, none⟩ = some (.int .i64 B) ∧ w'.cell? ⟨gt, 2, none⟩ = some (.int .i64 sp) ∧ w'.cell? ⟨gt, 3, none⟩ = some (.int .i64 pt)) (first | go_keep | exact hkeep2)
                  (first
                    | (go_at_call 60; refine (HPL.out _).mono ?_; rintro e w2 ⟨rfl, hf2⟩; have hf2' : Fr New wr w2 := ((Fr.refl New wr).drew.same hf2); have hkeep2 : w2.cell? ⟨gt, 0, none⟩ = some (.int .i64 1) ∧ w2.cell? ⟨gt, 1, none⟩ = some (.int .i64 B) ∧ w2.cell? ⟨gt, 2, none⟩ = some (.int .i64 sp) ∧ w2.cell? ⟨gt, 3, none⟩ = some (.int .i64 pt) := ⟨hf2'.cell ht0 id, hf2'.cell ht1 id, hf2'.cell ht2 id, hf2'.cell ht3 id⟩)
                    | (rw [HM.out _ (hf3.same hf2')])
                    | (refine calls_same (HR.out _ (hf3.same hf2')) ?_))
                all_goals
                  clear hkeep2
                  go_wp2_with fail
                  go_ret
                  exact ⟨true, rfl, ⟨fun _ => HT.out, fun _ => rfl⟩, hf3.same hf2'⟩
              · have hb : (y == x) = false := by simpa using he
                have hnx : ∀ q, q < p + 1 → wd ws (pl ⟨b, sp, pt⟩ q) ≠ x := fun q hq => by
                  by_cases hqp : q = p
                  · subst hqp; rw [← hy]; exact he
                  · exact hne q (by omega)
                have HNX : Hid (∀ q, q < p + 1 → wd ws (pl ⟨b, sp, pt⟩ q) ≠ x) := hnx
                clear hpq hy he ht hz hne hnx
                go_upto_region 13 with fail
                go_region_held3 (fun w' => w'.cell? ⟨gt, 0, none⟩ = some (.int .i64 1) ∧ w'.cell? ⟨gt, 1, none⟩ = some (.int .i64 B) ∧ w'.cell? ⟨gt, 2, none⟩ = some (.int .i64 sp) ∧ w'.cell? ⟨gt, 3, none⟩ = some (.int .i64 pt)) (first | go_keep | exact hkeep2)
                  (first
                    | (go_at_call 60; refine (HPL.out _).mono ?_; rintro e w2 ⟨rfl, hf2⟩; have hf2' : Fr New wr w2 := ((Fr.refl New wr).drew.same hf2); have hkeep2 : w2.cell? ⟨gt, 0, none⟩ = some (.int .i64 1) ∧ w2.cell? ⟨gt, 1, none⟩ = some (.int .i64 B) ∧ w2.cell? ⟨gt, 2, none⟩ = some (.int .i64 sp) ∧ w2.cell? ⟨gt, 3, none⟩ = some (.int .i64 pt) := ⟨hf2'.cell ht0 id, hf2'.cell ht1 id, hf2'.cell ht2 id, hf2'.cell ht3 id⟩)
                    | (rw [HM.out _ (hf3.same hf2')])
                    | (refine calls_same (HR.out _ (hf3.same hf2')) ?_))
                all_goals
                  clear hkeep2
                  go_wp2_with fail
                  go_roundg (pt - (p + 1))
                  case measure => omega
                  case rel => exact ⟨p + 1, by omega, rfl, by go_num, hf3.same hf2', hf2'.heap htq id, HNX.out⟩
            · obtain rfl : p = pt := by omega
              have hnx : ¬ ObjHeld ws l x (i + 1) := by
                rintro ⟨j, hj, hji, q, hq, e⟩
                by_cases hij : j = i
                · subst hij
                  rw [← HO.out] at hq e
                  exact hne q hq e
                · exact hno ⟨j, hj, by omega, q, hq, e⟩
              go_wp2
              go_roundg (l.length - (i + 1))
              case measure => omega
              case rel => exact ⟨i + 1, by omega, rfl, by go_num, hf3, hnx⟩
        · obtain rfl : i = l.length := by omega
          have hd0 : decide ((l.length : Int) < (l.length : Int)) = false := by simp
          have HT : Hid (¬ HeldBy ws l x) := held_parts HRT.out hno
          clear hno hi hil
          go_wp2
          go_ret
          exact ⟨false, rfl, ⟨(fun h => by cases h), fun h => absurd h HT.out⟩, hf2⟩
end Go.Proofs.YtbagcjlimdilpaaGreat
