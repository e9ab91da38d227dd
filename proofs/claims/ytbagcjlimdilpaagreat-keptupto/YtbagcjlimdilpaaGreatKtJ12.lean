/- Texts that follow one another, joined. -/
import Derived.Test.YtbagcjlimdilpaaGreatKtJ11
/- What a story's alloc leaves behind. -/
namespace Go.Proofs.YtbagcjlimdilpaaGreat
open Go.RowKit Go.Maps

theorem add_plain (g o j : Nat) : (⟨g, o, none⟩ : Addr).add j = ⟨g, o + j, none⟩ := by
  unfold Addr.add
  split
  · subst_vars; rfl
  · rfl
theorem kt_split (l : List Th) (us : List Value) (K : Nat) (h : us.length = l.length) : ktCells l us = ktCells (l.take K) (us.take K) ++ ktCells (l.drop K) (us.drop K) := by
  rw [← ktCells_app _ _ _ _ (by simp; omega), List.take_append_drop, List.take_append_drop]
/-- the cells of the first K things, and of the others, as they are read -/
theorem ThAt.cells {w : World} {g c : Nat} {l : List Th} {us : List Value} (h : ThAt w (.slice (some ⟨g, 0, none⟩) l.length c) l us) (K : Nat) (hK : K ≤ l.length) :
    ((ktCells (l.take K) (us.take K)).length = K * 4 ∧ ∀ j u, (ktCells (l.take K) (us.take K))[j]? = some u → w.cell? ((⟨g, 0, none⟩ : Addr).add j) = some u) ∧
    ((ktCells (l.drop K) (us.drop K)).length = (l.length - K) * 4 ∧ ∀ j u, (ktCells (l.drop K) (us.drop K))[j]? = some u → w.cell? ((⟨g, K * 4, none⟩ : Addr).add j) = some u) ∧ l.length ≤ c ∧ g < w.heap.size := by
  have hl1 : (ktCells (l.take K) (us.take K)).length = K * 4 := by rw [ktCells_len _ _ (by simp; have := h.len; omega)]; simp; omega
  have hl2 : (ktCells (l.drop K) (us.drop K)).length = (l.length - K) * 4 := by rw [ktCells_len _ _ (by simp; have := h.len; omega)]; simp
  have hall := h.own.cells rfl
  rw [kt_split l us K h.len] at hall
  refine ⟨⟨hl1, fun j u hj => ?_⟩, ⟨hl2, fun j u hj => ?_⟩, ?_, ?_⟩
  · refine hall j u ?_
    rw [List.getElem?_append_left (by
      rcases Nat.lt_or_ge j (ktCells (l.take K) (us.take K)).length with h' | h'
      · exact h'
      · rw [List.getElem?_eq_none h'] at hj; cases hj)]
    exact hj
  · have := hall (K * 4 + j) u (by rw [List.getElem?_append_right (by omega), hl1, Nat.add_sub_cancel_left]; exact hj)
    rw [add_plain] at this ⊢
    simpa using this
  · rcases h.own.2 with ⟨e, _⟩ | ⟨g', cap, cur, e, hb, hh, hnc, _⟩
    · cases e
    · cases e; exact hnc
  · exact h.lt (.inl rfl)
theorem kt_mid (l : List Th) (us : List Value) (K : Nat) (h : us.length = l.length) (x : Th) (v : Value) : ktCells (l.take K ++ x :: l.drop K) (us.take K ++ v :: us.drop K) = ktCells (l.take K) (us.take K) ++ ktCell x v ++ ktCells (l.drop K) (us.drop K) := by
  rw [ktCells_app _ _ _ _ (by simp; omega), List.append_assoc]
  rfl
theorem ThAt.one {w : World} {v : Value} {l : List Th} {us : List Value} (h : ThAt w v l us) : ∀ u ∈ us, u.oneCell' = true := fun u hu => by
  obtain ⟨i, hi, rfl⟩ := List.getElem_of_mem hu
  obtain ⟨a, c, e⟩ := own_slice (h.rows i (by rw [← h.len]; exact hi) hi)
  rw [e]
  rfl
theorem Sty.next {sb n hb tb cb mb g : Nat} {vs vn vk : Value} {un uk : List Value} {ws now now' : List Int} {sts : List St} {w w1 : World} (h : Sty sb n hb tb cb mb g vs vn vk un uk ws now sts w) (hf : Fr (fun k => k = mb) w w1) (hp : PH hb tb cb mb g vs ws now' sts w1) :
    w1.heap[sb]? = some (.cells (stArr hb n vn vk now ws) 39 (0, 0)) ∧ ThAt w1 vn (things now) un ∧ ThAt w1 vk (things ws) uk := by
  have hm : ∀ v us l, ThAt w v l us → ∀ k, ThB v us k → ¬ k = mb := fun v us l ht k hk e => by
    subst e
    obtain ⟨D, ⟨es, clock, hm, _⟩, _⟩ := h.ph.cg.mp
    exact ht.noMap hm hk
  exact ⟨hf.heap h.blk (h.ph.mapNe h.blk), h.tn.fr hf (hm _ _ _ h.tn), h.tk.fr hf (hm _ _ _ h.tk)⟩
/-- a heap is not touched by what turns a story's own block -/
theorem PH.story {hb tb cb mb g sb : Nat} {vs : Value} {ws now : List Int} {sts : List St} {w w' : World} {c : Array Value} (h : PH hb tb cb mb g vs ws now sts w) (hb' : w.heap[sb]? = some (.cells c 39 (0, 0))) (hf : Fr (fun k => k = sb) w w') : PH hb tb cb mb g vs ws now sts w' := by
  refine h.fr hf (fun e => type_ne h.hp hb' (by decide) e) (fun e => type_ne h.tg.t.td hb' (by decide) e) (fun e => type_ne h.cg.cg hb' (by decide) e) (fun e => h.mapNe hb' e.symm) (fun e => type_ne h.tg.t.wb hb' (by decide) e) (fun k hk e => ?_)
  obtain ⟨_, c', hc⟩ := own_block h.tg.o hk
  exact type_ne hc hb' (by decide) e
theorem ThAt.story {w w' : World} {v : Value} {l : List Th} {us : List Value} {sb : Nat} {c : Array Value} (h : ThAt w v l us) (hb' : w.heap[sb]? = some (.cells c 39 (0, 0))) (hf : Fr (fun k => k = sb) w w') : ThAt w' v l us :=
  h.fr hf (fun k hk e => by subst e; exact h.no hb' (by decide) (by decide) hk)
/-- one thing more, in its place -/
theorem ThAt.insert {w w' : World} {v v' : Value} {l : List Th} {us : List Value} {K : Nat} {x : Th} {gm : Nat} (h : ThAt w v l us) (hf : Fr New w w') (hgm : w.heap.size ≤ gm) (hr : Row w' gm x.2) (hx : x.2.length = 8 * x.1.span - 1 ∧ 1 ≤ x.1.span ∧ x.1.span ≤ 4 ∧ x.1.ptrs < 8 * x.1.span ∧ x.1.block < 32) (hK : K ≤ l.length) (hn : l.length + 1 ≤ 32)
    (ho : w'.ownsRow 0 54 4 v' (l.length + 1) (ktCells (l.take K ++ x :: l.drop K) (us.take K ++ .slice (some ⟨gm, 0, none⟩) x.2.length x.2.length :: us.drop K))) :
    ThAt w' v' (l.take K ++ x :: l.drop K) (us.take K ++ .slice (some ⟨gm, 0, none⟩) x.2.length x.2.length :: us.drop K) := by
  have hul := h.len
  have hlen : (l.take K ++ x :: l.drop K).length = l.length + 1 := by simp; omega
  have hlt : ∀ u ∈ us, ∀ k, u.ownBlock = some k → k < gm := fun u hu k hk => by
    have := h.lt (k := k) (.inr ⟨u, hu, hk⟩)
    omega
  refine ⟨by rw [hlen]; exact ho, by simp; omega, fun i hi hv => ?_, fun y hy => ?_, ?_, by omega⟩
  · rcases Nat.lt_trichotomy i K with hiK | hiK | hiK
    · have e1 : (l.take K ++ x :: l.drop K)[i] = l[i]'(by omega) := by rw [List.getElem_append_left (by simp; omega), List.getElem_take]
      have e2 : (us.take K ++ .slice (some ⟨gm, 0, none⟩) x.2.length x.2.length :: us.drop K)[i] = us[i]'(by omega) := by rw [List.getElem_append_left (by simp; omega), List.getElem_take]
      rw [e1, e2]
      exact hf.owns (h.rows i (by omega) (by omega)) (fun _ _ h => h)
    · subst hiK
      have e1 : (l.take i ++ x :: l.drop i)[i] = x := by rw [List.getElem_append_right (by simp; omega)]; simp [show min i l.length = i by omega]
      have e2 : (us.take i ++ .slice (some ⟨gm, 0, none⟩) x.2.length x.2.length :: us.drop i)[i] = .slice (some ⟨gm, 0, none⟩) x.2.length x.2.length := by rw [List.getElem_append_right (by simp; omega)]; simp [show min i us.length = i by omega]
      rw [e1, e2]
      exact Row.own hr (Nat.zero_le _) (by unfold maxLen; omega)
    · obtain ⟨j, rfl⟩ : ∃ j, i = K + 1 + j := ⟨i - (K + 1), by omega⟩
      have e1 : (l.take K ++ x :: l.drop K)[K + 1 + j] = l[K + j]'(by rw [hlen] at hi; omega) := by
        rw [List.getElem_append_right (by simp; omega)]
        simp only [List.length_take, show min K l.length = K by omega, show K + 1 + j - K = j + 1 by omega, List.getElem_cons_succ, List.getElem_drop]
      have e2 : (us.take K ++ .slice (some ⟨gm, 0, none⟩) x.2.length x.2.length :: us.drop K)[K + 1 + j] = us[K + j]'(by rw [hlen] at hi; omega) := by
        rw [List.getElem_append_right (by simp; omega)]
        simp only [List.length_take, show min K us.length = K by omega, show K + 1 + j - K = j + 1 by omega, List.getElem_cons_succ, List.getElem_drop]
      rw [e1, e2]
      exact hf.owns (h.rows _ (by rw [hlen] at hi; omega) (by rw [hlen] at hi; omega)) (fun _ _ h => h)
  · rcases List.mem_append.1 hy with hy | hy
    · exact h.fit y (List.mem_of_mem_take hy)
    · rcases List.mem_cons.1 hy with rfl | hy
      · exact hx
      · exact h.fit y (List.mem_of_mem_drop hy)
  · have hap := h.apart
    rw [← List.take_append_drop K us, List.pairwise_append] at hap
    rw [List.pairwise_append]
    refine ⟨hap.1, List.pairwise_cons.2 ⟨fun u hu e => ?_, hap.2.1⟩, fun u hu u' hu' => ?_⟩
    · have := hlt u (List.mem_of_mem_drop hu) gm (by rw [← e]; rfl)
      omega
    · rcases List.mem_cons.1 hu' with rfl | hu'
      · intro e
        have := hlt u (List.mem_of_mem_take hu) gm (by rw [e]; rfl)
        omega
      · exact hap.2.2 u hu u' hu'
theorem alloced_things {now r : List Int} {o : Ob} {l1 l2 : List Ob} (h : Alloced now r o l1 l2) : things r = (things now).take l1.length ++ (o, List.replicate (8 * o.span - 1) 0) :: (things now).drop l1.length := by
  have e1 : things now = l1.map (fun x => (x, objW now x)) ++ l2.map (fun x => (x, objW now x)) := by unfold things; rw [h.was, List.map_append]
  rw [e1]
  have e2 : l1.length = (l1.map (fun x => (x, objW now x))).length := by simp
  rw [e2, List.take_left, List.drop_left]
  unfold things
  rw [h.objs, List.map_append, List.map_cons, h.new]
  congr 1
  · exact List.map_congr_left (fun x hx => by rw [h.words x (List.mem_append_left _ hx)])
  · congr 1
    exact List.map_congr_left (fun x hx => by rw [h.words x (List.mem_append_right _ hx)])
/-- what a story is behind its alloc -/
theorem alloc_end {F : Nat → Prop} {sb n hb tb cb mb g : Nat} {vs vn vk : Value} {un uk : List Value} {ws now r : List Int} {sts : List St} {w wr w1 w6 : World} {c s p gm : Nat} {l1 l2 : List Ob} {v6 : Value}
    (S : Sty sb n hb tb cb mb g vs vn vk un uk ws now sts w) (hF : ∀ k, Foot sb hb tb cb mb g vs vn vk un uk k → F k) (hf : Fr New w wr) (hA : Alloced now r ⟨c, s, p⟩ l1 l2) (hs1 : 1 ≤ s) (hs4 : s ≤ 4) (hp8 : p < 8 * s) (hfr : Fr (fun k => k = mb) wr w1) (hph : PH hb tb cb mb g vs ws r sts w1)
    (hf6 : Fr New w1 w6) (hgm : w1.heap.size ≤ gm) (hrow : Row w6 gm (List.replicate (8 * s - 1) 0))
    (ho : w6.ownsRow w1.heap.size 54 4 v6 ((things now).length + 1) (ktCells ((things now).take l1.length ++ ((⟨c, s, p⟩ : Ob), List.replicate (8 * s - 1) (0 : Int)) :: (things now).drop l1.length) (un.take l1.length ++ .slice (some ⟨gm, 0, none⟩) (8 * s - 1) (8 * s - 1) :: un.drop l1.length))) :
    ∃ F', Story F' sb n ws r sts (w6.setCell ⟨sb, 2, none⟩ v6) ∧ Fr F w (w6.setCell ⟨sb, 2, none⟩ v6) ∧ ∀ k, F' k → F k ∨ w.heap.size ≤ k := by
  obtain ⟨n1, n2, n3⟩ := (S.new hf).next hfr hph
  have hb6 := hf6.heap n1 id
  have hst : Fr (fun k => k = sb) w6 (w6.setCell ⟨sb, 2, none⟩ v6) := (Fr.refl (fun k => k = sb) w6).setCell (p := ⟨sb, 2, none⟩) (fun _ => rfl) _
  have hsz : w.heap.size ≤ w1.heap.size := Nat.le_trans hf.size hfr.size
  have hob : (⟨c, s, p⟩ : Ob) ∈ objs r := by rw [hA.objs]; simp
  have hoi := objs_in hob
  have hnl := nblk_le r.length
  have hth := alloced_things hA
  have hlen32 : (things now).length + 1 ≤ 32 := by
    have h1 : (things r).length = (things now).length + 1 := by rw [hth]; simp; have : l1.length ≤ (things now).length := by rw [things_len, hA.was]; simp
                                                                omega
    have := objs_len r
    rw [← things_len] at this
    omega
  have hK : l1.length ≤ (things now).length := by rw [things_len, hA.was]; simp
  have hT6 : ThAt w6 v6 (things r) (un.take l1.length ++ .slice (some ⟨gm, 0, none⟩) (8 * s - 1) (8 * s - 1) :: un.drop l1.length) := by
    rw [hth]
    have := n2.insert (v' := v6) (K := l1.length) (x := ((⟨c, s, p⟩ : Ob), List.replicate (8 * s - 1) (0 : Int))) hf6 hgm hrow ⟨by simp, hs1, hs4, hp8, by have := hoi.2.2.2.2; simp only at this ⊢; omega⟩ hK hlen32 (by simp only [List.length_replicate]; exact own_le ho (Nat.zero_le _))
    simpa using this
  have hmem : ∀ u ∈ un.take l1.length ++ Value.slice (some ⟨gm, 0, none⟩) (8 * s - 1) (8 * s - 1) :: un.drop l1.length, u ∈ un ∨ u.ownBlock = some gm := fun u hu => by
    rcases List.mem_append.1 hu with hu | hu
    · exact .inl (List.mem_of_mem_take hu)
    · rcases List.mem_cons.1 hu with rfl | hu
      · exact .inr rfl
      · exact .inl (List.mem_of_mem_drop hu)
  have hgs : g < w1.heap.size := lt_of_block hph.tg.t.wb
  refine ⟨Foot sb hb tb cb mb g vs v6 vk (un.take l1.length ++ .slice (some ⟨gm, 0, none⟩) (8 * s - 1) (8 * s - 1) :: un.drop l1.length) uk, ⟨hb, tb, cb, mb, g, vs, v6, vk, _, uk, ⟨?_, (hph.new hf6).story hb6 hst, ?_, hT6.story hb6 hst, (n3.new hf6).story hb6 hst, S.n, fun u hu e => ?_, S.gk, fun u hu u' hu' e => ?_⟩, fun k hk => hk⟩, ?_, fun k hk => ?_⟩
  · rw [heap_setCell_same _ _ 2 _ _ _ hb6]
    unfold stArr
    rw [hA.head 3 (by omega), hA.head 4 (by omega), hA.head 5 (by omega), hA.head 6 (by omega)]
    rfl
  · exact S.hw.to hA.good hA.len (fun q _ h2 => hA.head q h2)
  · rcases hmem u hu with hu | hu
    · exact S.gn u hu e
    · rw [hu] at e
      simp at e
      omega
  · rcases hmem u hu with hu | hu
    · exact S.nk u hu u' hu' e
    · have hlt := n3.lt (k := gm) (.inr ⟨u', hu', by rw [← e]; exact hu⟩)
      omega
  · have h1 : Fr F w w1 := (hf.mono (fun _ _ h => h.elim)).trans hfr (fun j _ e => by subst e; exact hF _ (.inr (.inr (.inr (.inr (.inl rfl))))))
    exact (h1.same hf6).trans hst (fun j _ e => by subst e; exact hF _ (.inl rfl))
  · rcases hk with hk | hk | hk | hk | hk | hk | hk | hk | hk
    · exact .inl (hF k (.inl hk))
    · exact .inl (hF k (.inr (.inl hk)))
    · exact .inl (hF k (.inr (.inr (.inl hk))))
    · exact .inl (hF k (.inr (.inr (.inr (.inl hk)))))
    · exact .inl (hF k (.inr (.inr (.inr (.inr (.inl hk))))))
    · exact .inl (hF k (.inr (.inr (.inr (.inr (.inr (.inl hk)))))))
    · exact .inl (hF k (.inr (.inr (.inr (.inr (.inr (.inr (.inl hk))))))))
    · rcases hk with hk | ⟨u, hu, hk⟩
      · have := (own_block ho hk).1
        exact .inr (by omega)
      · rcases hmem u hu with hu | hu
        · exact .inl (hF k (.inr (.inr (.inr (.inr (.inr (.inr (.inr (.inl (.inr ⟨u, hu, hk⟩))))))))))
        · rw [hu] at hk
          simp at hk
          exact .inr (by omega)
    · exact .inl (hF k (.inr (.inr (.inr (.inr (.inr (.inr (.inr (.inr hk)))))))))
end Go.Proofs.YtbagcjlimdilpaaGreat
/- The walk of held: does anything hold it? -/
namespace Go.Proofs.YtbagcjlimdilpaaGreat
open Go.RowKit Go.Maps

/-- one of the first i things holds x -/
def ThHeld (l : List Th) (x : Int) (i : Nat) : Prop := ∃ j, ∃ hj : j < l.length, j < i ∧ ∃ p, p < (l[j]).1.ptrs ∧ wd (l[j]).2 p = x
set_option maxHeartbeats 1000000 in
set_option maxRecDepth 100000 in
theorem kheld_any (v : Value) (l : List Th) (us : List Value) (r0 r1 r2 r3 : Int) (x : Nat) (hx : x ≤ 64) (w : World) (ht : ThAt w v l us) :
    Calls Tryz.prog 44 #[shV v r0 r1 r2 r3, .int .i64 (x : Int)] w fun e w' => ∃ b, e = .returned (.bool b) ∧ (b = true ↔ (∃ k, k < 4 ∧ root4 r0 r1 r2 r3 k = x) ∨ ThHeld l x l.length) ∧ Fr New w w' := by
  have HT : Hid (∀ wr, Fr New w wr → ThAt wr v l us) := fun wr hf => ht.new hf
  have hl32 := ht.n
  have HFIT : Hid (∀ y ∈ l, y.2.length = 8 * y.1.span - 1 ∧ 1 ≤ y.1.span ∧ y.1.span ≤ 4 ∧ y.1.ptrs < 8 * y.1.span ∧ y.1.block < 32) := ht.fit
  obtain ⟨av, cv, rfl⟩ := ht.slice
  clear ht
  have hwx : IntKind.u64.wrap (x : Int) = (x : Int) := by rw [IntKind.wrap_u64]; omega
  go_enter Tryz.func44, Tryz.ntmps44
  go_wp2
  have hsb : (w.alloc (.cells #[.slice av l.length cv, .int .i64 r0, .int .i64 r1, .int .i64 r2, .int .i64 r3] 37)).heap[w.heap.size]? = some (.cells #[.slice av l.length cv, .int .i64 r0, .int .i64 r1, .int .i64 r2, .int .i64 r3] 37 (0, 0)) := Go.Deep.blk_alloc_new w _
  have hf1 : Fr New w (w.alloc (.cells #[.slice av l.length cv, .int .i64 r0, .int .i64 r1, .int .i64 r2, .int .i64 r3] 37)) := (Fr.refl New w).alloc _
  obtain ⟨w1, hw1⟩ : ∃ w1, w1 = w.alloc (.cells #[.slice av l.length cv, .int .i64 r0, .int .i64 r1, .int .i64 r2, .int .i64 r3] 37) := ⟨_, rfl⟩
  obtain ⟨sb, hsbe⟩ : ∃ sb, sb = w.heap.size := ⟨_, rfl⟩
  rw [← hw1, ← hsbe] at hsb
  rw [← hw1] at hf1
  rw [← hw1, ← hsbe]
  have HSB : Hid (w1.heap[sb]? = some (.cells #[.slice av l.length cv, .int .i64 r0, .int .i64 r1, .int .i64 r2, .int .i64 r3] 37 (0, 0))) := hsb
  have HF1 : Hid (Fr New w w1) := hf1
  have hc0 : w1.cell? ⟨sb, 0, none⟩ = some (.slice av l.length cv) := ((block_cells hsb).1 0).trans rfl
  have HT1 : Hid (ThAt w1 (.slice av l.length cv) l us) := HT.out w1 hf1
  clear hw1 hsbe hsb hf1 HT
  go_loopg [5] 4 (fun gh t wr => ∃ k : Nat, k ≤ 4 ∧ gh = 4 - k ∧ t = .int .i64 k ∧ wr = w1 ∧ ∀ j, j < k → root4 r0 r1 r2 r3 j ≠ x)
  case atStart => exact ⟨0, by omega, rfl, rfl, rfl, fun j hj => by omega⟩
  case round =>
    obtain ⟨k, hk4, rfl, rfl, hwr, hno⟩ := hrel
    subst hwr
    have HNO : Hid (∀ j, j < k → root4 r0 r1 r2 r3 j ≠ x) := hno
    clear hno
    by_cases hk : k < 4
    · have hrc := root_cells HSB.out k hk
      obtain ⟨y, hy⟩ : ∃ y, y = root4 r0 r1 r2 r3 k := ⟨_, rfl⟩
      rw [← hy] at hrc
      have HY : Hid (y = root4 r0 r1 r2 r3 k) := hy
      clear hy
      by_cases c : y = x
      · have hxy : (y == (x : Int)) = true := by simpa using c
        have C : Hid (y = x) := c
        clear c
        go_wp2
        go_ret
        exact ⟨true, rfl, ⟨fun _ => .inl ⟨k, hk, by rw [← HY.out]; exact C.out⟩, fun _ => rfl⟩, HF1.out⟩
      · have hxy : (y == (x : Int)) = false := by simpa using c
        go_wp2
        go_roundg (4 - (k + 1))
        case measure => omega
        case rel => exact ⟨k + 1, by omega, rfl, by go_num, rfl, fun j hj => by
          rcases (show j < k ∨ j = k by omega) with h' | rfl
          · exact HNO.out j h'
          · rw [← HY.out]; exact c⟩
    · obtain rfl : k = 4 := by omega
      clear hk hk4
      go_wp2
      go_loopg [6] l.length (fun gh t wq => ∃ i : Nat, i ≤ l.length ∧ gh = l.length - i ∧ t = .int .i64 i ∧ wq = wr ∧ ¬ ThHeld l x i)
      case atStart => exact ⟨0, by omega, rfl, rfl, rfl, fun ⟨_, _, hj, _⟩ => by omega⟩
      case round =>
        rename_i wr0 _ _
        obtain ⟨i, hil, rfl, rfl, hwr, hni⟩ := hrel
        subst hwr
        have HNI : Hid (¬ ThHeld l x i) := hni
        clear hni
        by_cases hi : i < l.length
        · have hd0 : decide ((i : Int) < (l.length : Int)) = true := by simp; omega
          obtain ⟨g2, cg2, gi2, ci2, hv2, hg2, d0, d1, d2, d3, hr2, _, _, hgi2⟩ := HT1.out.at' i hi
          cases hv2
          have hfi := HFIT.out l[i] (List.getElem_mem _)
          obtain ⟨xs, hxs⟩ : ∃ xs, xs = l[i] := ⟨_, rfl⟩
          have HX : Hid (xs = l[i]) := hxs
          rw [← hxs] at d0 d1 d2 d3 hr2 hfi
          clear hxs
          obtain ⟨⟨ob, os, op⟩, ow⟩ := xs
          simp only at d0 d1 d2 d3 hr2 hfi
          obtain ⟨hl1, hl2, hl3, hl4, _⟩ := hfi
          have hopw : op ≤ ow.length := by omega
          obtain ⟨m, hm⟩ : ∃ m : Nat, m = ow.length := ⟨_, rfl⟩
          rw [← hm] at d3 hopw
          have HM : Hid (m = ow.length) := hm
          have HR2 : Hid (RowU _ (some ⟨gi2, 0, none⟩) ow) := hr2
          clear hm hl1 hr2
          go_wp2
          go_loopg [7] op (fun gh t wq => ∃ p : Nat, p ≤ op ∧ gh = op - p ∧ t = .int .i64 p ∧ wq = wr ∧ ∀ q, q < p → wd ow q ≠ x)
          case atStart => exact ⟨0, by omega, rfl, rfl, rfl, fun q hq => by omega⟩
          case round =>
            obtain ⟨p, hpp, rfl, rfl, hwr, hne⟩ := hrel
            subst hwr
            have HNE : Hid (∀ q, q < p → wd ow q ≠ x) := hne
            clear hne
            by_cases hp : p < op
            · obtain ⟨ad, hade, hcp⟩ := HR2.out p (by have := HM.out; omega)
              cases hade
              rw [add_plain, Nat.zero_add] at hcp
              obtain ⟨y, hy⟩ : ∃ y, y = wd ow p := ⟨_, rfl⟩
              have hcp' : wr.cell? ⟨gi2, p, none⟩ = some (.int .u64 y) := by rw [hy]; exact hcp
              have HY : Hid (y = wd ow p) := hy
              have hpm : p < m := by omega
              clear hcp hy
              by_cases c : y = x
              · have hxy : (y == (x : Int)) = true := by simpa using c
                have C : Hid (y = x) := c
                clear c
                go_wp2
                go_ret
                exact ⟨true, rfl, ⟨fun _ => .inr ⟨i, hi, hi, p, by rw [← HX.out]; exact hp, by rw [← HX.out, ← HY.out]; exact C.out⟩, fun _ => rfl⟩, HF1.out⟩
              · have hxy : (y == (x : Int)) = false := by simpa using c
                go_wp2
                go_roundg (op - (p + 1))
                case measure => omega
                case rel => exact ⟨p + 1, by omega, rfl, by go_num, rfl, fun q hq => by
                  rcases (show q < p ∨ q = p by omega) with h' | rfl
                  · exact HNE.out q h'
                  · rw [← HY.out]; exact c⟩
            · obtain rfl : p = op := by omega
              have HNN : Hid (¬ ThHeld l x (i + 1)) := by
                rintro ⟨j, hj, hji, q, hq, e⟩
                by_cases hij : j = i
                · subst hij
                  rw [← HX.out] at hq e
                  exact HNE.out q hq e
                · exact HNI.out ⟨j, hj, by omega, q, hq, e⟩
              clear hp hpp
              go_wp2
              go_roundg (l.length - (i + 1))
              case measure => omega
              case rel => exact ⟨i + 1, by omega, rfl, by go_num, rfl, HNN.out⟩
        · obtain rfl : i = l.length := by omega
          have hd0 : decide ((l.length : Int) < (l.length : Int)) = false := by simp
          clear hi hil
          go_wp2
          go_ret
          refine ⟨false, rfl, ⟨(fun h => by cases h), fun h => ?_⟩, HF1.out⟩
          rcases h with ⟨k, hk, e⟩ | h
          · exact absurd e (HNO.out k hk)
          · exact absurd h HNI.out
end Go.Proofs.YtbagcjlimdilpaaGreat
