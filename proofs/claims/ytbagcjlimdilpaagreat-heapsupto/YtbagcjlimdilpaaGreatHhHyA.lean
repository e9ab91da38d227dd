/- A pair of heaps that is opened: what the law keeps of it. -/
import Derived.Test.YtbagcjlimdilpaaGreatHhJ20
namespace Go.Proofs.YtbagcjlimdilpaaGreat
open Go.RowKit Go.Maps
attribute [local go_sem ↓] Go.wp_at_zero Go.wp_at_succ

theorem Tryz.info133 : (Tryz.prog.info? 133).map (fun i => (i.zero, i.size, i.bytes)) = some (some (.pointer none), 1, 8) := by kernel_rfl
theorem open_err_one {ws : List Int} {c c' : Int} (h : OpenErr ws c) (h' : OpenErr ws c') : c = c' ∧ c ≠ 0 := by
  rcases h with ⟨g1, rfl⟩ | ⟨g1, h⟩
  · rcases h' with ⟨_, rfl⟩ | ⟨k1, _⟩
    · exact ⟨rfl, by decide⟩
    · exact absurd g1 k1
  · rcases h' with ⟨k1, _⟩ | ⟨_, h'⟩
    · exact absurd k1 g1
    · rcases h with ⟨g2, rfl⟩ | ⟨g2, g3, g4, p, g5⟩
      · rcases h' with ⟨_, rfl⟩ | ⟨k2, _⟩
        · exact ⟨rfl, by decide⟩
        · rw [g2] at k2; cases k2
      · rcases h' with ⟨k2, _⟩ | ⟨_, _, _, p', k5⟩
        · rw [g2] at k2; cases k2
        · exact ⟨(told_one g5 k5).1, g3⟩
/-- one more heap, at a step of a region that draws its order -/
theorem step_heaps {W : World} {b n : Nat} {vws vhs vb vss vos : Value} {B nh : Nat} {ys : List Value} (hbk : Wb W b vws vhs n vb vss vos) (hhs : W.ownsRow B 133 1 vhs nh ys) (hB : B ≤ W.heap.size) (hnh : nh < 4)
    {w5 : World} (hf : Fr New W w5) (N pb : Nat) (hb : w5.heap[N]? = some (.cells #[.pointer (some ⟨pb, 0, none⟩)] 133 (0, 0)))
    {ops : Array Oper} {o : Oper} {a : Act} {K : Act → World → Prop} {Q : Exit → Act → World → Prop} {E : Prop} (s x : Operand) (hgd : o.guard = none)
    (ho : o.op = .call { callee := .builtin .append, args := #[s, x], argTypes := #[81, 81] }) (hs : a.eval s = vhs) (hx : a.eval x = .slice (some ⟨N, 0, none⟩) 1 1)
    (h : ∀ g c w', w'.ownsRow B 133 1 (.slice (some ⟨g, 0, none⟩) (nh + 1) c) (nh + 1) (ys ++ [.pointer (some ⟨pb, 0, none⟩)]) → Wb w' b vws vhs n vb vss vos → Fr (fun k => vhs.ownBlock = some k) w5 w' → K (a.put o.dst (.slice (some ⟨g, 0, none⟩) (nh + 1) c)) w') :
    if Region.wanted o (yielded ops a.tmps) = true then Oper.wp Tryz.prog o a w5 K Q else E := by
  obtain ⟨i0, hi, hz0, hz1, hz2⟩ := info_parts Tryz.info133
  have hown := hf.owns hhs (fun _ _ h => h)
  refine step_append_lies w5 hgd s x 81 ho B 133 i0 _ 1 8 Tryz.underlying81 hi hz0 hz1 hz2 rfl (by decide) vhs nh ys hs hown ⟨N, 0, none⟩ 1 1 [.pointer (some ⟨pb, 0, none⟩)] hx rfl (World.news_of_block hb) (by intro u hu; simp at hu; subst hu; rfl) (by decide) (by unfold maxLen; omega) (by omega) (by have := hf.size; omega) _ rfl ?_
  intro g c w6 ho6 hg6 _ _
  have hf6 : Fr (fun k => vhs.ownBlock = some k) w5 w6 := (Fr.refl _ _).grown hg6 (fun k _ hk => hk)
  have hb5 := hf.heap hbk id
  exact h g c w6 ho6 (hf6.heap hb5 (fun e => by obtain ⟨_, cc, hh⟩ := own_block hown e; exact type_ne hb5 hh (by decide) rfl)) hf6
section
variable {col : Nat → Nat} {X : Rest} {B b c N : Nat} {vws : Value} {nw : Nat} {xs : List Value} {vb : Value} {es : List Entry} {ps : List Nat} {ss os : List EntE} {w : World}
/-- the blocks of the program's heap -/
def PHB (hb tb cb mb g : Nat) (vs : Value) (k : Nat) : Prop := k = hb ∨ k = tb ∨ k = cb ∨ k = mb ∨ k = g ∨ vs.ownBlock = some k
/-- the end of Open -/
theorem open_end (S : StaX col X B b c N vws nw xs vb es ps ss os w) (hps : ps.length < 4) {zs : List Int} (hok : OpenOk zs) (hU : ∀ z ∈ zs, U z)
    {w2 w4 w5 w7 w8 : World} (f2 : Fr New w w2) {hb tb cb mb g : Nat} {vs : Value} (hp : PH hb tb cb mb g vs (openW zs) (openW zs) (openSt zs) w2) (hlo : w.heap.size ≤ hb ∧ w.heap.size ≤ tb ∧ w.heap.size ≤ cb ∧ w.heap.size ≤ mb ∧ w.heap.size ≤ g ∧ ∀ k, vs.ownBlock = some k → w.heap.size ≤ k)
    {rb gw cw gn cn : Nat} {vr : Value} {w3 : World} (f3 : Fr New w2 w3) (hr : RHG rb gw cw zs.length (.slice (some ⟨gn, 0, none⟩) zs.length cn) vr (openW zs) (openSt zs) w3) (hr2 : w3.ownsRow 0 50 1 (.slice (some ⟨gn, 0, none⟩) zs.length cn) zs.length ((openW zs).map (Value.int .u64))) (hgg : gw ≠ gn) (hlr : w2.heap.size ≤ rb ∧ w2.heap.size ≤ gw ∧ w2.heap.size ≤ gn ∧ ∀ k, vr.ownBlock = some k → w2.heap.size ≤ k)
    {gl : Nat} (f4 : Fr (fun k => k = gl) w3 w4) (hgl : w.heap.size ≤ gl) (hgl2 : ∀ k, PHB hb tb cb mb g vs k → k ≠ gl) (hgl3 : gl < w2.heap.size) (f5 : Fr New w4 w5) {g7 c7 : Nat} (hg7 : w4.heap.size ≤ g7) (o5 : Own 0 w5 (.slice (some ⟨g7, 0, none⟩) zs.length c7) zs)
    (f7 : Fr New w5 w7) {pb : Nat} (hpb : w5.heap.size ≤ pb) (hpb7 : w7.heap[pb]? = some (.cells #[.pointer (some ⟨hb, 0, none⟩), .pointer (some ⟨rb, 0, none⟩), .slice none 0 0, .slice none 0 0, .slice (some ⟨g7, 0, none⟩) zs.length c7] 136 (0, 0)))
    (f8 : Fr (fun k => X.h.ownBlock = some k) w7 w8) {vhs' : Value} (o8 : w8.ownsRow B 133 1 vhs' (ps.length + 1) (ptrs ps ++ [.pointer (some ⟨pb, 0, none⟩)])) (b8 : Wb w8 b vws X.h c vb X.s X.o) :
    Below B w (w8.setCell ⟨b, 1, none⟩ vhs') ∧ Sta B b (N + 200) (w8.setCell ⟨b, 1, none⟩ vhs') := by
  obtain ⟨hin, hst, hlen⟩ := open_inW hok hU
  have hs2 := f2.size
  have hs3 := f3.size
  have hs4 := f4.size
  have hs5 := f5.size
  have hs7 := f7.size
  have hs8 := f8.size
  have hnb : ¬ gl = hb ∧ ¬ gl = tb ∧ ¬ gl = cb ∧ ¬ gl = mb ∧ ¬ gl = g := ⟨fun e => hgl2 _ (.inl rfl) e.symm, fun e => hgl2 _ (.inr (.inl rfl)) e.symm, fun e => hgl2 _ (.inr (.inr (.inl rfl))) e.symm, fun e => hgl2 _ (.inr (.inr (.inr (.inl rfl)))) e.symm, fun e => hgl2 _ (.inr (.inr (.inr (.inr (.inl rfl))))) e.symm⟩
  have hp4 := (hp.new f3).fr f4 (fun e => hnb.1 e.symm) (fun e => hnb.2.1 e.symm) (fun e => hnb.2.2.1 e.symm) (fun e => hnb.2.2.2.1 e.symm) (fun e => hnb.2.2.2.2 e.symm) (fun k hk e => hgl2 k (.inr (.inr (.inr (.inr (.inr hk))))) e)
  have R3 : RHN rb gw cw gn cn zs.length vr (openW zs) (openW zs) (openSt zs) w3 := ⟨hr, hr2, hlen, hgg⟩
  have R4 := R3.frT f4 (by omega) (by omega) (by omega) (fun k hk e => by have := hlr.2.2.2 k hk; omega)
  have hXb : ∀ k, X.h.ownBlock = some k → k < w.heap.size := fun k hk => (S.s.hs.lt k hk).2
  obtain ⟨w9, hw9⟩ : ∃ w9, w9 = w8.setCell ⟨b, 1, none⟩ vhs' := ⟨_, rfl⟩
  rw [← hw9]
  have f9 : Fr (fun k => k = b) w8 w9 := by rw [hw9]; exact (Fr.refl (fun k => k = b) w8).setCell (p := ⟨b, 1, none⟩) (fun _ => rfl) _
  have hbw := S.p.lt
  have F0 : Fr New w w4 := (f2.same f3).trans f4 (fun j hj e => by omega)
  have F7 : Fr New w w7 := (F0.same f5).same f7
  have F79 : Fr (fun k => X.h.ownBlock = some k ∨ k = b) w7 w9 := (f8.mono (fun _ _ e => .inl e)).trans f9 (fun _ _ e => .inr e)
  have F : Fr (fun k => X.h.ownBlock = some k ∨ k = b) w w9 := (F7.mono (fun _ _ h => h.elim)).trans F79 (fun _ _ h => h)
  have old79 : ∀ k, (X.h.ownBlock = some k ∨ k = b) → k < w.heap.size := by
    rintro k (e | e)
    · exact hXb k e
    · omega
  -- the new pair
  have f59 : Fr (fun k => X.h.ownBlock = some k ∨ k = b) w5 w9 := (f7.mono (fun _ _ h => h.elim)).trans F79 (fun _ _ h => h)
  have f49 : Fr (fun k => X.h.ownBlock = some k ∨ k = b) w4 w9 := (f5.mono (fun _ _ h => h.elim)).trans f59 (fun _ _ h => h)
  have hP9 := hp4.fr f49 (fun e => by have := old79 _ e; omega) (fun e => by have := old79 _ e; omega) (fun e => by have := old79 _ e; omega) (fun e => by have := old79 _ e; omega) (fun e => by have := old79 _ e; omega) (fun k hk e => by have := old79 _ e; have := hlo.2.2.2.2.2 k hk; omega)
  have hR9 := R4.frT f49 (fun e => by have := old79 _ e; omega) (fun e => by have := old79 _ e; omega) (fun e => by have := old79 _ e; omega) (fun k hk e => by have := old79 _ e; have := hlr.2.2.2 k hk; omega)
  have hB9 : Own 0 w9 (.slice (some ⟨g7, 0, none⟩) zs.length c7) zs := f59.owns o5 (fun k hk e => by simp [Value.ownBlock] at hk; have := old79 _ e; omega)
  have hpb9 := F79.heap hpb7 (fun e => by have := old79 _ e; omega)
  have hg2 : g < w2.heap.size := lt_of_block hp.tg.t.wb
  have hvs2 : ∀ k, vs.ownBlock = some k → k < w2.heap.size := fun k hk => by obtain ⟨_, cc, hh⟩ := own_block hp.tg.o hk; exact lt_of_block hh
  have D : Duo ⟨hb, tb, cb, mb, g, vs, rb, gw, cw, gn, cn, zs.length, vr, .slice none 0 0, .slice none 0 0, .slice (some ⟨g7, 0, none⟩) zs.length c7, openW zs, openW zs, openSt zs, [], zs, []⟩ (N + 200) pb w9 :=
    ⟨hpb9, hP9, hR9, open_hw hok, World.ownsRow_nil _ _ _ _, World.ownsRow_nil _ _ _ _, hB9, fun h => absurd rfl h, hlen.symm, fun z hz => (by cases hz), hU, fun s hs => (by cases hs), fun s hs => (by show InW (openW zs).length s; rw [hlen]; exact hin s hs), ⟨by simp only; omega, by simp⟩, by simp only; omega, by simp only; omega, fun k hk hk2 => by have := hvs2 k hk; have := hlr.2.2.2 k hk2; omega⟩
  have hg79 : g7 < w9.heap.size := by obtain ⟨_, cc, hh⟩ := own_block hB9 (g := g7) rfl; exact lt_of_block hh
  -- colours
  obtain ⟨col2, hcol2⟩ : ∃ col2 : Nat → Nat, col2 = fun k => if k = g7 then 0 else recol col w.heap.size w9.heap.size (ps.length + 1) k := ⟨_, rfl⟩
  have hold : ∀ k, k < w.heap.size → col2 k = col k := fun k hk => by rw [hcol2]; show (if k = g7 then 0 else _) = _; rw [if_neg (by omega), recol_old hk]
  have hnew : ∀ k, w.heap.size ≤ k → k < w9.heap.size → k ≠ g7 → col2 k = ps.length + 1 := fun k h1 h2 h3 => by rw [hcol2]; show (if k = g7 then 0 else _) = _; rw [if_neg h3, recol_new h1 h2]
  have hfar : ∀ k, w9.heap.size ≤ k → col2 k = 0 := fun k hk => by
    rw [hcol2]
    show (if k = g7 then 0 else _) = _
    rw [if_neg (by omega)]
    exact recol_far hk (S.p.fresh k (by have := F.size; omega))
  have hd : DuoAt col2 (ps.length + 1) (N + 200) pb w9 := by
    refine ⟨_, D, fun k hk => ?_, fun k hk => ?_⟩
    · have hlt := D.lt (.inl hk)
      refine hnew k ?_ hlt ?_
      · rcases hk with e | e | e | e | e | e | e | e | e | e | e
        · omega
        · simp only at e; omega
        · simp only at e; omega
        · simp only at e; omega
        · simp only at e; omega
        · simp only at e; omega
        · exact hlo.2.2.2.2.2 k e
        · simp only at e; omega
        · simp only at e; omega
        · simp only at e; omega
        · have := hlr.2.2.2 k e; omega
      · have hw4 : ∀ k, k < w4.heap.size → k ≠ g7 := fun k hk => by omega
        have hr4 : rb < w4.heap.size ∧ gw < w4.heap.size ∧ gn < w4.heap.size := by
          obtain ⟨_, c1, h1⟩ := own_block R4.g.ownw (g := gw) rfl
          obtain ⟨_, c2, h2⟩ := own_block R4.ownn (g := gn) rfl
          exact ⟨lt_of_block R4.g.blk, lt_of_block h1, lt_of_block h2⟩
        have hh4 : hb < w4.heap.size ∧ tb < w4.heap.size ∧ cb < w4.heap.size ∧ mb < w4.heap.size ∧ g < w4.heap.size := ⟨lt_of_block hp4.hp, lt_of_block hp4.tg.t.td, lt_of_block hp4.cg.cg, hp4.cg.lt, lt_of_block hp4.tg.t.wb⟩
        rcases hk with e | e | e | e | e | e | e | e | e | e | e
        · have e' : k = pb := e
          have : g7 < w5.heap.size := by obtain ⟨_, cc, hh⟩ := own_block o5 (g := g7) rfl; exact lt_of_block hh
          omega
        · simp only at e; omega
        · simp only at e; omega
        · simp only at e; omega
        · simp only at e; omega
        · simp only at e; omega
        · obtain ⟨_, cc, hh⟩ := own_block hp4.tg.o e; exact hw4 k (lt_of_block hh)
        · simp only at e; omega
        · simp only at e; omega
        · simp only at e; omega
        · obtain ⟨_, cc, hh⟩ := own_block R4.g.owns e; exact hw4 k (lt_of_block hh)
    · rcases hk with e | e | e
      · cases e
      · cases e
      · simp [Value.ownBlock] at e
        rw [hcol2]
        show (if k = g7 then 0 else _) = _
        rw [if_pos e.symm]
  -- the state
  have hLT : ∀ k cur t, t ≠ 133 → t ≠ 88 → w.heap[k]? = some (.cells cur t (0, 0)) → ¬ (X.h.ownBlock = some k ∨ k = b) := by
    rintro k cur t h1 h2 hk (e | e)
    · obtain ⟨_, cc, hh⟩ := own_block S.s.hs e; exact type_ne hk hh h1 rfl
    · exact type_ne hk S.p.bk h2 e
  have h0 : ∀ k, k < w.heap.size → col k = 0 → col2 k = 0 := fun k hk h => by rw [hold k hk]; exact h
  have bk9 : Wb w9 b vws vhs' c vb X.s X.o := by rw [hw9]; exact (heap_setCell_same w8 b 1 _ _ _ b8).trans (by simp)
  have hs9 : w9.ownsRow B 133 1 vhs' (ps.length + 1) (ptrs ps ++ [.pointer (some ⟨pb, 0, none⟩)]) := f9.owns o8 (fun k hk e => by obtain ⟨_, cc, hh⟩ := own_block o8 hk; exact type_ne hh b8 (by decide) e)
  refine ⟨F.below S.p.size (fun k hk ht => ?_), col2, ⟨vhs', X.s, X.o⟩, c, vws, nw, xs, vb, es, ps ++ [pb], ss, os, ⟨⟨bk9, F.owns S.p.ws (fun k hk => ?_), F.owns S.p.own (fun k hk => ?_), fun e he => Entry.good_fr (S.p.good e he) F (fun k cur hk => hLT k cur _ (by decide) (by decide) hk), fun e he v hv k hk => ?_, S.p.few, S.p.les, S.p.base, hfar⟩, fun v hv => ?_, ⟨?_, by simp; omega, fun j hj => ?_, F.owns S.s.rs (fun k hk => ?_), fun e he => EntE.good_fr (S.s.gs e he) F (fun k cur hk _ => hLT k cur _ (by decide) (by decide) hk) (fun k hk h => h0 k hk h), F.owns S.s.ro (fun k hk => ?_), fun e he => EntE.good_fr (S.s.go e he) F (fun k cur hk _ => hLT k cur _ (by decide) (by decide) hk) (fun k hk h => h0 k hk h), S.s.ls, S.s.lo⟩, by have := S.cN; omega, fun k hk => h0 k (Nat.lt_of_lt_of_le hk S.p.size) (S.old k hk)⟩⟩
  · rcases ht with e | e
    · have := (own_block S.s.hs e).1; omega
    · have := S.p.base; omega
  · obtain ⟨_, cc, hh⟩ := own_block S.p.ws hk; exact hLT k cc _ (by decide) (by decide) hh
  · obtain ⟨_, cc, hh⟩ := own_block S.p.own hk; exact hLT k cc _ (by decide) (by decide) hh
  · refine h0 k ?_ (S.p.kept e he v hv k hk)
    obtain ⟨⟨k0, q0⟩, ⟨k1, q1⟩, ⟨k2, q2⟩, ⟨k3, q3⟩⟩ := S.p.good e he
    simp only [List.mem_cons, List.not_mem_nil, or_false] at hv
    rcases hv with rfl | rfl | rfl | rfl
    · obtain ⟨_, cur, hh⟩ := own_block q0 hk; exact lt_of_block hh
    · obtain ⟨_, cur, hh⟩ := own_block q1 hk; exact lt_of_block hh
    · obtain ⟨_, cur, hh⟩ := own_block q2 hk; exact lt_of_block hh
    · obtain ⟨_, cur, hh⟩ := own_block q3 hk; exact lt_of_block hh
  · obtain ⟨zs', ho, h1, h2, h3⟩ := S.i v hv
    refine ⟨zs', F.owns ho (fun k hk => ?_), h1, h2, fun k hk => h0 k ?_ (h3 k hk)⟩
    · obtain ⟨_, cc, hh⟩ := own_block ho hk; exact hLT k cc _ (by decide) (by decide) hh
    · obtain ⟨_, cc, hh⟩ := own_block ho hk; exact lt_of_block hh
  · rw [List.length_append]
    simpa [ptrs] using hs9
  · by_cases hj' : j < ps.length
    · rw [List.getElem_append_left hj']
      refine (S.s.du j hj').fr F (fun k hk hn => absurd ?_ hn) (fun k hk _ => hold k hk) (by omega)
      rcases hk with e | e
      · obtain ⟨_, cc, hh⟩ := own_block S.s.hs e; exact ⟨_, _, hh, .inr (.inr (.inr (.inr (.inr rfl))))⟩
      · subst e; exact ⟨_, _, S.p.bk, .inl rfl⟩
    · have hje : j = ps.length := by simp at hj; omega
      subst hje
      rw [List.getElem_append_right (Nat.le_refl _)]
      simpa using hd
  · obtain ⟨_, cc, hh⟩ := own_block S.s.rs hk; exact hLT k cc _ (by decide) (by decide) hh
  · obtain ⟨_, cc, hh⟩ := own_block S.s.ro hk; exact hLT k cc _ (by decide) (by decide) hh
end
end Go.Proofs.YtbagcjlimdilpaaGreat
