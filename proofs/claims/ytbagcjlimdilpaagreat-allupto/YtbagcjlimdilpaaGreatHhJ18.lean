/- Texts that follow one another, joined. -/
import Derived.Test.YtbagcjlimdilpaaGreatHhJ12
import Derived.Test.YtbagcjlimdilpaaGreatHhPgH
import Derived.Deep.RegionHeld3
import Derived.Deep.AppendLies
/- The walk of the program's Objects. -/
namespace Go.Proofs.YtbagcjlimdilpaaGreat
open Go.RowKit Go.Maps

theorem Tryz.info96 : (Tryz.prog.info? 96).map (fun i => (i.zero, i.size, i.bytes)) = some (some (.agg #[.int .i64 0, .int .i64 0, .int .i64 0, .slice none 0 0]), 4, 48) := by kernel_rfl
/-- an object as it is told -/
def aoCell (o : Ob) (g : Nat) : List Value := [.int .i64 ((o.block + 1 : Nat) : Int), .int .i64 o.span, .int .i64 o.ptrs, .slice (some ⟨g, 0, none⟩) (8 * o.span - 1) (8 * o.span - 1)]
def aoCells (l : List Ob) (gs : List Nat) : List Value := (List.zipWith aoCell l gs).flatten
theorem aoCells_snoc {l : List Ob} {gs : List Nat} (h : l.length = gs.length) (o : Ob) (g : Nat) : aoCells (l ++ [o]) (gs ++ [g]) = aoCells l gs ++ aoCell o g := by
  unfold aoCells
  rw [List.zipWith_append (by exact h)]
  simp
/-- objects that were told: the list, and each one's words -/
structure ToldO (B : Nat) (w : World) (v : Value) (now : List Int) (l : List Ob) (gs : List Nat) : Prop where
  own : w.ownsRow B 96 4 v l.length (aoCells l gs)
  len : l.length = gs.length
  rows : ∀ i (hi : i < l.length) (hg : i < gs.length), Row w (gs[i]) (objW now l[i])
  base : ∀ g ∈ gs, B ≤ g
  nodup : gs.Nodup
  lt : ∀ g ∈ gs, g < w.heap.size
theorem ToldO.fr {B : Nat} {w w' : World} {v : Value} {now : List Int} {l : List Ob} {gs : List Nat} (h : ToldO B w v now l gs) (hf : Fr New w w') : ToldO B w' v now l gs :=
  ⟨hf.owns h.own (fun _ _ h => h), h.len, fun i hi hg => hf.heap (h.rows i hi hg) id, h.base, h.nodup, fun g hg => Nat.lt_of_lt_of_le (h.lt g hg) hf.size⟩
/-- behind one more -/
theorem ToldO.more {B : Nat} {w w1 w2 : World} {v v2 : Value} {now : List Int} {l : List Ob} {gs : List Nat} {o : Ob} {g : Nat} (h : ToldO B w v now l gs) (hf : Fr New w w1) (hg : w1.grownBy w2 v.ownBlock) (hr : Row w1 g (objW now o)) (hgw : w.heap.size ≤ g) (hB : B ≤ w.heap.size)
    (ho : w2.ownsRow B 96 4 v2 (l.length + 1) (aoCells l gs ++ aoCell o g)) : ToldO B w2 v2 now (l ++ [o]) (gs ++ [g]) ∧ Fr (fun k => B ≤ k) w w2 := by
  have h1 := h.fr hf
  have h2 : Fr (fun k => v.ownBlock = some k) w1 w2 := (Fr.refl _ _).grown hg (fun k _ hk => hk)
  have hne : ∀ g' cur, w1.heap[g']? = some (.cells cur 50 (0, 0)) → ¬ v.ownBlock = some g' := fun g' cur hg' hv => by
    obtain ⟨_, c, hc⟩ := own_block h1.own hv
    exact type_ne hg' hc (by decide) rfl
  have hltg : g < w1.heap.size := lt_of_block (show w1.heap[g]? = some _ from hr)
  refine ⟨⟨by rw [aoCells_snoc h.len, List.length_append]; exact ho, by simp [h.len], fun i hi hg' => ?_, fun g' hg' => ?_, ?_, fun g' hg' => ?_⟩, ?_⟩
  · by_cases hil : i < l.length
    · have hgl : i < gs.length := by rw [← h.len]; exact hil
      have e1 : (l ++ [o])[i] = l[i] := List.getElem_append_left hil
      have e2 : (gs ++ [g])[i] = gs[i] := List.getElem_append_left hgl
      rw [e1, e2]
      exact h2.heap (h1.rows i hil hgl) (hne _ _ (h1.rows i hil hgl))
    · have hie : i = l.length := by simp at hi; omega
      subst hie
      have e1 : (l ++ [o])[l.length] = o := by simp
      have e2 : (gs ++ [g])[l.length] = g := by simp [h.len]
      rw [e1, e2]
      exact h2.heap hr (hne _ _ hr)
  · rcases List.mem_append.1 hg' with hx | hx
    · exact h.base g' hx
    · simp at hx; omega
  · refine List.nodup_append.2 ⟨h.nodup, by simp, fun a ha b hb => ?_⟩
    simp at hb
    subst hb
    have := h.lt a ha
    omega
  · have := h2.size
    rcases List.mem_append.1 hg' with hx | hx
    · have := h1.lt g' hx; omega
    · simp at hx; omega
  · exact (((Fr.refl (fun k => B ≤ k) w).same hf)).trans h2 (fun j _ hv => (own_block h1.own hv).1)
theorem own_le {w : World} {B B' : Nat} {v : Value} {n : Nat} {xs : List Value} {e : TypeId} {sz : Nat} (h : w.ownsRow B e sz v n xs) (hb : B' ≤ B) : w.ownsRow B' e sz v n xs :=
  ⟨h.1, h.2.imp id (fun ⟨g, cap, cur, e, hbg, r⟩ => ⟨g, cap, cur, e, Nat.le_trans hb hbg, r⟩)⟩

set_option maxHeartbeats 2000000 in
set_option maxRecDepth 100000 in
theorem hobjs_any (hb tb cb mb g : Nat) (vs : Value) (ws now : List Int) (st : List St) (w : World) (h : PH hb tb cb mb g vs ws now st w) :
    Calls Tryz.prog 45 #[.pointer (some ⟨hb, 0, none⟩)] w fun e w' => ∃ v gs, e = .returned v ∧ ToldO w.heap.size w' v now (objs now) gs ∧ Fr New w w' := by
  have HO : Hid (Calls Tryz.prog 55 #[.pointer (some ⟨hb, 0, none⟩)] w fun e w' => ∃ vl, e = .returned vl ∧ OwnT w.heap.size w' vl (objs now) ∧ Fr New w w') := hobjects_any hb tb cb mb g vs ws now st w h
  have hlens := h.lens
  have HLN : Hid (now.length = ws.length) := h.len
  obtain ⟨i0, hi0, hz0, hz1, hz2⟩ := info_parts Tryz.info96
  have HIN : Hid (∀ o ∈ objs now, 106 + 8 * (o.block + o.span) ≤ now.length ∧ 1 ≤ o.span ∧ o.span ≤ 4 ∧ o.ptrs < 8 * o.span ∧ o.block < 32) := fun o ho => by
    have := objs_in ho
    have := nblk_le now.length
    exact ⟨by omega, by omega, by omega, by omega, by omega⟩
  have HWD : Hid (∀ o ∈ objs now, ∀ w1, Fr New w w1 → Calls Tryz.prog 94 #[.agg #[.int .i64 1, .int .i64 ((o.block + 1 : Nat) : Int), .int .i64 o.span, .int .i64 o.ptrs], .iface 101 (.pointer (some ⟨cb, 0, none⟩))] w1 fun e w' => ∃ g, w1.heap.size ≤ g ∧ e = .returned (.slice (some ⟨g, 0, none⟩) (8 * o.span - 1) (8 * o.span - 1)) ∧ Row w' g (objW now o) ∧ Fr New w1 w') := fun o ho w1 hf => twords_row _ _ _ _ _ now o w1 (h.new hf).row (HIN.out o ho).2.1 (HIN.out o ho).2.2.1 (HIN.out o ho).1 (by rw [h.len]; omega)
  have HC1 : Hid (∀ w1, Fr New w w1 → w1.cell? ⟨hb, 1, none⟩ = some (.pointer (some ⟨cb, 0, none⟩))) := fun w1 hf => (h.new hf).p1
  have HHB : Hid (∀ w1, Fr New w w1 → w1.heap[hb]? = some (.cells #[.pointer (some ⟨tb, 0, none⟩), .pointer (some ⟨cb, 0, none⟩)] 104 (0, 0))) := fun w1 hf => (h.new hf).hp
  have hl32 := objs_len now
  obtain ⟨l, hl⟩ : ∃ l, l = objs now := ⟨_, rfl⟩
  rw [← hl] at HO HIN HWD hl32 ⊢
  have HLO : Hid (∀ w1 vl, OwnT w.heap.size w1 vl l → LiesT w1 vl l) := fun w1 vl ho => by rw [hl] at ho ⊢; exact liesT_objs ho
  clear hl hlens h
  go_enter Tryz.func45, Tryz.ntmps45
  go_wp2_with (first
    | (go_at_call 55; refine HO.out.mono ?_; rintro e w1 ⟨vl, rfl, hol, hf1⟩; have hlo := HLO.out w1 vl hol; have HLV : Hid (∀ w', Fr (fun k => w1.heap.size ≤ k) w1 w' → LiesT w' vl l) := (fun w' hf => hlo.fr hf (fun g hg => by have := (own_block hol hg).2; obtain ⟨c, hc⟩ := this; have := lt_of_block hc; omega)); obtain ⟨av, cv, rfl, _⟩ := hlo)
    | fail)
  go_loopg [3, 9] l.length (fun gh v t wr => ∃ (i : Nat) (gs : List Nat), i ≤ l.length ∧ gh = l.length - i ∧ t = .int .i64 i ∧ ToldO w1.heap.size wr v now (l.take i) gs ∧ Fr (fun k => w1.heap.size ≤ k) w1 wr)
  case atStart => exact ⟨0, [], by omega, rfl, rfl, ⟨by simpa [aoCells] using World.ownsRow_nil _ _ _ _, rfl, (fun i hi => by simp at hi), (fun g hg => by cases hg), List.nodup_nil, (fun g hg => by cases hg)⟩, Fr.refl _ _⟩
  case round =>
    obtain ⟨i, gs, hil, rfl, rfl, hT, hF⟩ := hrel
    have HFW : Hid (Fr New w wr) := hf1.trans hF (fun j hj hk => by have := hf1.size; omega)
    by_cases hi : i < l.length
    · have hd0 : decide ((i : Int) < (l.length : Int)) = true := by simp; omega
      obtain ⟨gv, rfl, e0, e1, e2, e3⟩ := (HLV.out wr hF).at i hi
      have hin := HIN.out l[i] (List.getElem_mem _)
      have HWI : Hid (∀ w', Fr New w w' → Calls Tryz.prog 94 #[.agg #[.int .i64 1, .int .i64 ((l[i].block + 1 : Nat) : Int), .int .i64 l[i].span, .int .i64 l[i].ptrs], .iface 101 (.pointer (some ⟨cb, 0, none⟩))] w' fun e w'' => ∃ g, w'.heap.size ≤ g ∧ e = .returned (.slice (some ⟨g, 0, none⟩) (8 * l[i].span - 1) (8 * l[i].span - 1)) ∧ Row w'' g (objW now l[i]) ∧ Fr New w' w'') := HWD.out l[i] (List.getElem_mem _)
      have HTK : Hid (l.take (i + 1) = l.take i ++ [l[i]]) := List.take_succ_eq_append_getElem hi
      have htl : (l.take i).length = i := by simp; omega
      obtain ⟨o, ho⟩ : ∃ o, o = l[i] := ⟨_, rfl⟩
      rw [← ho] at e1 e2 e3 hin HWI HTK
      obtain ⟨b, sp, pt⟩ := o
      simp only at e1 e2 e3 hin HWI
      obtain ⟨B, hB⟩ : ∃ B : Nat, B = b + 1 := ⟨_, rfl⟩
      rw [← hB] at e1 HWI
      have HBB : Hid (B = b + 1) := hB
      have hB33 : B ≤ 32 := by omega
      have hT' := hT
      obtain ⟨a3, c3, rfl⟩ := own_slice hT.own
      rw [htl]
      clear ho hB hin
      go_upto_region 5 with fail
      have htq : (wr.alloc (.cells #[.int .i64 1, .int .i64 B, .int .i64 sp, .int .i64 pt] 115)).heap[wr.heap.size]? = some (.cells #[.int .i64 1, .int .i64 B, .int .i64 sp, .int .i64 pt] 115 (0, 0)) := Go.Deep.blk_alloc_new wr _
      have hfq : Fr New wr (wr.alloc (.cells #[.int .i64 1, .int .i64 B, .int .i64 sp, .int .i64 pt] 115)) := (Fr.refl _ _).alloc _
      obtain ⟨W2, hW2⟩ : ∃ W2, W2 = wr.alloc (.cells #[.int .i64 1, .int .i64 B, .int .i64 sp, .int .i64 pt] 115) := ⟨_, rfl⟩
      obtain ⟨gt, hgt⟩ : ∃ gt, gt = wr.heap.size := ⟨_, rfl⟩
      rw [← hW2] at htq hfq ⊢
      rw [← hgt] at htq
      rw [← hgt]
      have HSZ : Hid (wr.heap.size ≤ W2.heap.size) := hfq.size
      obtain ⟨ht, hz⟩ := block_cells htq
      have ht0 : W2.cell? ⟨gt, 0, none⟩ = some (.int .i64 1) := (ht 0).trans rfl
      have ht1 : W2.cell? ⟨gt, 1, none⟩ = some (.int .i64 B) := (ht 1).trans rfl
      have ht2 : W2.cell? ⟨gt, 2, none⟩ = some (.int .i64 sp) := (ht 2).trans rfl
      have ht3 : W2.cell? ⟨gt, 3, none⟩ = some (.int .i64 pt) := (ht 3).trans rfl
      have hc1 := HC1.out W2 (HFW.out.same hfq)
      clear ht hz hW2 hgt e0 e1 e2 e3
      have hown := hT.own
      rw [htl] at hown
      have HMO : Hid (∀ w4 g4 w7 v7, Fr New W2 w4 → W2.heap.size ≤ g4 → Row w4 g4 (objW now ⟨b, sp, pt⟩) → (w4.alloc (.cells ((aoCell ⟨b, sp, pt⟩ g4).toArray) 96)).grownBy w7 (Value.slice a3 i c3).ownBlock → w7.ownsRow w1.heap.size 96 4 v7 (i + 1) (aoCells (l.take i) gs ++ aoCell ⟨b, sp, pt⟩ g4) → ToldO w1.heap.size w7 v7 now (l.take (i + 1)) (gs ++ [g4]) ∧ Fr (fun k => w1.heap.size ≤ k) w1 w7) := fun w4 g4 w7 v7 h1 h2 h3 h4 h5 => by
        have := hT.more (o := ⟨b, sp, pt⟩) (g := g4) (hfq.same (h1.alloc (.cells ((aoCell ⟨b, sp, pt⟩ g4).toArray) 96))) (by rw [htl]; exact h4) (((Fr.refl New w4).alloc _).heap h3 id) (Nat.le_trans HSZ.out h2) hF.size (by rw [htl]; exact h5)
        rw [HTK.out]
        exact ⟨this.1, hF.trans this.2 (fun j _ h => h)⟩
      have HBS : Hid (w1.heap.size ≤ W2.heap.size) := Nat.le_trans hF.size HSZ.out
      have HOW : Hid (∀ w4, Fr New W2 w4 → w4.ownsRow w1.heap.size 96 4 (.slice a3 i c3) i (aoCells (l.take i) gs)) := fun w4 hf => (hfq.same hf).owns hown (fun _ _ h => h)
      have HFQ : Hid (Fr New w W2) := HFW.out.same hfq
      have hi32 : i < 32 := by omega
      have HKP : Hid (∀ w4 w7, Fr New W2 w4 → Fr (fun k => (Value.slice a3 i c3).ownBlock = some k) w4 w7 → w7.cell? ⟨gt, 0, none⟩ = some (.int .i64 1) ∧ w7.cell? ⟨gt, 1, none⟩ = some (.int .i64 B) ∧ w7.cell? ⟨gt, 2, none⟩ = some (.int .i64 sp) ∧ w7.cell? ⟨gt, 3, none⟩ = some (.int .i64 pt) ∧ w7.cell? ⟨hb, 1, none⟩ = some (.pointer (some ⟨cb, 0, none⟩))) := fun w4 w7 h4 h7 => by
        have hne : ∀ k t cs, t ≠ 96 → w4.heap[k]? = some (.cells cs t (0, 0)) → ¬ (Value.slice a3 i c3).ownBlock = some k := fun k t cs ht hk hv => by
          obtain ⟨_, c, hc⟩ := own_block (HOW.out w4 h4) hv
          exact type_ne hk hc ht rfl
        have t4 := h4.heap htq id
        have b4 := HHB.out w4 (HFQ.out.same h4)
        obtain ⟨k7, _⟩ := block_cells (h7.heap t4 (hne _ _ _ (by decide) t4))
        obtain ⟨l7, _⟩ := block_cells (h7.heap b4 (hne _ _ _ (by decide) b4))
        exact ⟨(k7 0).trans rfl, (k7 1).trans rfl, (k7 2).trans rfl, (k7 3).trans rfl, (l7 1).trans rfl⟩
      have HAC : Hid (∀ g4 : Nat, (#[Value.int .i64 (B : Int), .int .i64 (sp : Int), .int .i64 (pt : Int), .slice (some ⟨g4, 0, none⟩) (8 * sp - 1) (8 * sp - 1)] : Array Value) = (aoCell ⟨b, sp, pt⟩ g4).toArray) := fun g4 => by rw [HBB.out]; rfl
      clear hT hT' hown htl
      go_region_held3 (fun w' => w'.cell? ⟨gt, 0, none⟩ = some (.int .i64 1) ∧ w'.cell? ⟨gt, 1, none⟩ = some (.int .i64 B) ∧ w'.cell? ⟨gt, 2, none⟩ = some (.int .i64 sp) ∧ w'.cell? ⟨gt, 3, none⟩ = some (.int .i64 pt) ∧ w'.cell? ⟨hb, 1, none⟩ = some (.pointer (some ⟨cb, 0, none⟩))) (first | go_keep | exact hkeep2 | exact hkeep3)
        (first
          | (go_at_call 94; refine (HWI.out _ (by first | exact HFQ.out | exact HFQ.out.drew)).mono ?_; rintro e w4 ⟨g4, hg4, rfl, hR4, hf4⟩; have hf4' : Fr New W2 w4 := ((Fr.refl New W2).drew.same hf4); have hkeep2 : w4.cell? ⟨gt, 0, none⟩ = some (.int .i64 1) ∧ w4.cell? ⟨gt, 1, none⟩ = some (.int .i64 B) ∧ w4.cell? ⟨gt, 2, none⟩ = some (.int .i64 sp) ∧ w4.cell? ⟨gt, 3, none⟩ = some (.int .i64 pt) ∧ w4.cell? ⟨hb, 1, none⟩ = some (.pointer (some ⟨cb, 0, none⟩)) := ⟨hf4'.cell ht0 id, hf4'.cell ht1 id, hf4'.cell ht2 id, hf4'.cell ht3 id, hf4'.cell hc1 id⟩)
          | (refine step_append_lies _ (by rfl) (.tmp 13) (.tmp 28) 93 (by rfl) w1.heap.size 96 i0 _ 4 48 Tryz.underlying93 hi0 hz0 hz1 hz2 rfl (by decide) (.slice a3 i c3) i (aoCells (l.take i) gs) (by rfl) ((HOW.out w4 hf4').alloc _) ⟨w4.heap.size, 0, none⟩ 1 1 [.int .i64 (B : Int), .int .i64 (sp : Int), .int .i64 (pt : Int), .slice (some ⟨g4, 0, none⟩) (8 * sp - 1) (8 * sp - 1)] (by rfl) rfl (World.news_of_block (Go.Deep.blk_alloc_new w4 _)) (by intro u hu; simp at hu; rcases hu with rfl | rfl | rfl | rfl <;> rfl) (by decide) (by unfold maxLen; omega) (by omega) (by have := HBS.out; have := hf4'.size; simp; omega) _ rfl ?_; intro g7 c7 w7 ho7 hg7 _ _; have hkeep3 : w7.cell? ⟨gt, 0, none⟩ = some (.int .i64 1) ∧ w7.cell? ⟨gt, 1, none⟩ = some (.int .i64 B) ∧ w7.cell? ⟨gt, 2, none⟩ = some (.int .i64 sp) ∧ w7.cell? ⟨gt, 3, none⟩ = some (.int .i64 pt) ∧ w7.cell? ⟨hb, 1, none⟩ = some (.pointer (some ⟨cb, 0, none⟩)) := HKP.out w4 w7 hf4' (((Fr.refl _ _).alloc _).grown hg7 (fun k _ h => h))))
      all_goals
        rw [HAC.out] at hg7
        have hfin := HMO.out w4 g4 w7 _ hf4' (by simpa using hg4) hR4 hg7 (by rw [HBB.out] at ho7; exact ho7)
        clear hkeep2 hkeep3 ho7 hg7
        go_wp2_with fail
        go_roundg (l.length - (i + 1))
        case measure => omega
        case rel => exact ⟨i + 1, _, by omega, rfl, by go_num, hfin.1, hfin.2⟩
    · obtain rfl : i = l.length := by omega
      have hd0 : decide ((l.length : Int) < (l.length : Int)) = false := by simp
      rw [List.take_of_length_le (Nat.le_refl _)] at hT
      obtain ⟨a3, c3, rfl⟩ := own_slice hT.own
      clear hi hil
      go_wp2
      go_ret
      exact ⟨_, gs, rfl, ⟨own_le hT.own hf1.size, hT.len, hT.rows, fun g hg => Nat.le_trans hf1.size (hT.base g hg), hT.nodup, hT.lt⟩, HFW.out⟩
end Go.Proofs.YtbagcjlimdilpaaGreat
/- Shapes in memory: things with their words. Walks of sameWords and is. -/
namespace Go.Proofs.YtbagcjlimdilpaaGreat
open Go.RowKit Go.Maps

/-- a thing: an object and its words -/
abbrev Th := Ob × List Int
def ktCell (x : Th) (v : Value) : List Value := [.int .i64 ((x.1.block + 1 : Nat) : Int), .int .i64 x.1.span, .int .i64 x.1.ptrs, v]
def ktCells : List Th → List Value → List Value
  | x :: l, v :: vs => ktCell x v ++ ktCells l vs
  | _, _ => []
theorem ktCells_app : ∀ (l : List Th) (vs : List Value) (m : List Th) (us : List Value), vs.length = l.length → ktCells (l ++ m) (vs ++ us) = ktCells l vs ++ ktCells m us
  | [], [], _, _, _ => rfl
  | x :: l, v :: vs, m, us, h => by
    simp only [List.cons_append, ktCells, ktCells_app l vs m us (by simpa using h), List.append_assoc]
theorem ktCells_get : ∀ (l : List Th) (vs : List Value) (i : Nat) (hi : i < l.length) (hv : i < vs.length) (j : Nat), j < 4 → (ktCells l vs)[i * 4 + j]? = (ktCell l[i] vs[i])[j]?
  | x :: l, v :: vs, 0, _, _, j, hj => by
    simp only [ktCells, Nat.zero_mul, Nat.zero_add, List.getElem_cons_zero]
    rw [List.getElem?_append_left (by simpa [ktCell] using hj)]
  | x :: l, v :: vs, i + 1, hi, hv, j, hj => by
    simp only [ktCells, List.getElem_cons_succ]
    rw [List.getElem?_append_right (by simp [ktCell]; omega)]
    rw [← ktCells_get l vs i (by simpa using hi) (by simpa using hv) j hj]
    congr 1
    simp [ktCell]
    omega
/-- things that lie in memory, with their words -/
structure ThAt (w : World) (v : Value) (l : List Th) (vs : List Value) : Prop where
  own : w.ownsRow 0 54 4 v l.length (ktCells l vs)
  len : vs.length = l.length
  rows : ∀ i (hi : i < l.length) (hv : i < vs.length), Own 0 w vs[i] (l[i]).2
  fit : ∀ x ∈ l, x.2.length = 8 * x.1.span - 1 ∧ 1 ≤ x.1.span ∧ x.1.span ≤ 4 ∧ x.1.ptrs < 8 * x.1.span ∧ x.1.block < 32
  apart : vs.Pairwise (fun a b => a.ownBlock ≠ b.ownBlock)
  n : l.length ≤ 32
/-- the blocks of things -/
def ThB (v : Value) (vs : List Value) (k : Nat) : Prop := v.ownBlock = some k ∨ ∃ u ∈ vs, u.ownBlock = some k
namespace ThAt
variable {w : World} {v : Value} {l : List Th} {vs : List Value}
end ThAt

end Go.Proofs.YtbagcjlimdilpaaGreat
/- The walk of is: has a heap just this shape? -/
namespace Go.Proofs.YtbagcjlimdilpaaGreat
open Go.RowKit Go.Maps

theorem aoCells_get : ∀ (l : List Ob) (gs : List Nat) (i : Nat) (hi : i < l.length) (hg : i < gs.length) (j : Nat), j < 4 → (aoCells l gs)[i * 4 + j]? = (aoCell l[i] gs[i])[j]?
  | x :: l, g :: gs, 0, _, _, j, hj => by
    simp only [aoCells, List.zipWith_cons_cons, List.flatten_cons, Nat.zero_mul, Nat.zero_add, List.getElem_cons_zero]
    rw [List.getElem?_append_left (by simpa [aoCell] using hj)]
  | x :: l, g :: gs, i + 1, hi, hg, j, hj => by
    have ih := aoCells_get l gs i (by simpa using hi) (by simpa using hg) j hj
    simp only [aoCells, List.zipWith_cons_cons, List.flatten_cons, List.getElem_cons_succ] at ih ⊢
    rw [List.getElem?_append_right (by simp [aoCell]; omega), ← ih]
    congr 1
    simp [aoCell]
    omega
/-- the shape of some words -/
def things (now : List Int) : List Th := (objs now).map (fun o => (o, objW now o))
theorem things_len (now : List Int) : (things now).length = (objs now).length := by simp [things]
/-- a shape as a value -/
abbrev shV (v : Value) (r0 r1 r2 r3 : Int) : Value := .agg #[v, .int .i64 r0, .int .i64 r1, .int .i64 r2, .int .i64 r3]
/-- four roots -/
def root4 (r0 r1 r2 r3 : Int) (k : Nat) : Int := if k = 0 then r0 else if k = 1 then r1 else if k = 2 then r2 else r3
/-- the shape is the heap's -/
def IsIt (now : List Int) (l : List Th) (r0 r1 r2 r3 : Int) : Prop := l = things now ∧ ∀ k, k < 4 → wrap64 (wd now (3 + k)) = root4 r0 r1 r2 r3 k
end Go.Proofs.YtbagcjlimdilpaaGreat
