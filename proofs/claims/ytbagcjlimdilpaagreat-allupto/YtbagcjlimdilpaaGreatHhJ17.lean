/- Texts that follow one another, joined. -/
import Derived.Test.YtbagcjlimdilpaaGreatHhJ16
import Derived.Test.YtbagcjlimdilpaaGreatHhHxI
import Derived.Test.YtbagcjlimdilpaaGreatHhRfA
import Derived.Test.YtbagcjlimdilpaaGreatHhJ15
/- A pair of heaps, the program's and the document's, with the same words and stores; the state of the law's play with its heaps. -/
namespace Go.Proofs.YtbagcjlimdilpaaGreat
open Go.RowKit Go.Maps

theorem RHN.frT {T : Nat → Prop} {hb gw cw gn cn L : Nat} {vs : Value} {ws now : List Int} {st : List St} {w w' : World} (h : RHN hb gw cw gn cn L vs ws now st w) (hf : Fr T w w') (h0 : ¬ T hb) (h1 : ¬ T gw) (h2 : ¬ T gn) (h3 : ∀ k, vs.ownBlock = some k → ¬ T k) : RHN hb gw cw gn cn L vs ws now st w' :=
  ⟨⟨hf.heap h.g.blk h0, hf.owns h.g.ownw (fun k hk => by simp [Value.ownBlock] at hk; subst hk; exact h1), hf.owns h.g.owns h3, h.g.lenw, h.g.n0⟩, hf.owns h.ownn (fun k hk => by simp [Value.ownBlock] at hk; subst hk; exact h2), h.len, h.ne⟩
/-- the heap as calls that keep its words see it -/
theorem RHN.rh {hb gw cw gn cn L : Nat} {vs : Value} {ws now : List Int} {st : List St} {w : World} (h : RHN hb gw cw gn cn L vs ws now st w) : RH hb gn cn L (.slice (some ⟨gw, 0, none⟩) L cw) vs now w := ⟨h.g.blk, h.ownn, h.len, h.g.n0⟩
theorem RHN.back {hb gw cw gn cn L : Nat} {vs : Value} {ws now now' : List Int} {st : List St} {w w' : World} (h : RHN hb gw cw gn cn L vs ws now st w) (r : RH hb gn cn L (.slice (some ⟨gw, 0, none⟩) L cw) vs now' w') (hf : Fr (fun k => k = gn) w w') : RHN hb gw cw gn cn L vs ws now' st w' :=
  ⟨⟨r.blk, hf.owns h.g.ownw (fun k hk he => by simp [Value.ownBlock] at hk; exact h.ne (hk.trans he)), hf.owns h.g.owns (fun k hk he => by
    obtain ⟨_, c, hc⟩ := own_block h.g.owns hk
    obtain ⟨_, c', hc'⟩ := own_block h.ownn (g := gn) rfl
    exact type_ne hc hc' (by decide) he), h.g.lenw, h.g.n0⟩, r.own, r.len, h.ne⟩

/-- the blocks that a pair's calls may turn -/
def FootD (pb hb tb cb mb g : Nat) (vs : Value) (rb gw gn : Nat) (vr : Value) (k : Nat) : Prop := k = pb ∨ k = hb ∨ k = tb ∨ k = cb ∨ k = mb ∨ k = g ∨ vs.ownBlock = some k ∨ k = rb ∨ k = gw ∨ k = gn ∨ vr.ownBlock = some k
/-- the numbers and values of a pair -/
structure DV where
  hb : Nat
  tb : Nat
  cb : Nat
  mb : Nat
  g : Nat
  vs : Value
  rb : Nat
  gw : Nat
  cw : Nat
  gn : Nat
  cn : Nat
  L : Nat
  vr : Value
  va : Value
  vl : Value
  vn : Value
  ws : List Int
  now : List Int
  st : List St
  za : List Int
  zn : List Int
  sl : List St
def DV.foot (d : DV) (pb : Nat) : Nat → Prop := FootD pb d.hb d.tb d.cb d.mb d.g d.vs d.rb d.gw d.gn d.vr
/-- the blocks of what was told, and of what comes ahead of what will be -/
def DV.kept (d : DV) (k : Nat) : Prop := d.va.ownBlock = some k ∨ d.vl.ownBlock = some k ∨ d.vn.ownBlock = some k
structure Duo (d : DV) (N pb : Nat) (w : World) : Prop where
  blk : w.heap[pb]? = some (.cells #[.pointer (some ⟨d.hb, 0, none⟩), .pointer (some ⟨d.rb, 0, none⟩), d.va, d.vl, d.vn] 136 (0, 0))
  ph : PH d.hb d.tb d.cb d.mb d.g d.vs d.ws d.now d.st w
  rh : RHN d.rb d.gw d.cw d.gn d.cn d.L d.vr d.ws d.now d.st w
  hw : HW d.ws d.now
  a : Own 0 w d.va d.za
  l : w.ownsRow 0 122 3 d.vl d.sl.length (stsCells d.sl)
  n : Own 0 w d.vn d.zn
  la : d.sl ≠ [] → d.za.length = d.ws.length
  ln : d.zn.length = d.ws.length
  ua : ∀ z ∈ d.za, U z
  un : ∀ z ∈ d.zn, U z
  us : ∀ s ∈ d.sl, InW d.ws.length s
  ut : ∀ s ∈ d.st, InW d.ws.length s
  big : d.st.length ≤ N ∧ d.sl.length ≤ N
  ne1 : d.g ≠ d.gw
  ne2 : d.g ≠ d.gn
  ne3 : ∀ k, d.vs.ownBlock = some k → d.vr.ownBlock ≠ some k
namespace Duo
variable {d : DV} {N pb : Nat} {w : World}
theorem fr {T : Nat → Prop} {w' : World} (h : Duo d N pb w) (hf : Fr T w w') (h1 : ∀ k, d.foot pb k → ¬ T k) (h2 : ∀ k, d.kept k → ¬ T k) : Duo d N pb w' :=
  ⟨hf.heap h.blk (h1 _ (.inl rfl)),
   h.ph.fr hf (h1 _ (.inr (.inl rfl))) (h1 _ (.inr (.inr (.inl rfl)))) (h1 _ (.inr (.inr (.inr (.inl rfl))))) (h1 _ (.inr (.inr (.inr (.inr (.inl rfl)))))) (h1 _ (.inr (.inr (.inr (.inr (.inr (.inl rfl))))))) (fun k hk => h1 k (.inr (.inr (.inr (.inr (.inr (.inr (.inl hk)))))))),
   h.rh.frT hf (h1 _ (.inr (.inr (.inr (.inr (.inr (.inr (.inr (.inl rfl))))))))) (h1 _ (.inr (.inr (.inr (.inr (.inr (.inr (.inr (.inr (.inl rfl)))))))))) (h1 _ (.inr (.inr (.inr (.inr (.inr (.inr (.inr (.inr (.inr (.inl rfl))))))))))) (fun k hk => h1 k (.inr (.inr (.inr (.inr (.inr (.inr (.inr (.inr (.inr (.inr hk))))))))))),
   h.hw, hf.owns h.a (fun k hk => h2 k (.inl hk)), hf.owns h.l (fun k hk => h2 k (.inr (.inl hk))), hf.owns h.n (fun k hk => h2 k (.inr (.inr hk))), h.la, h.ln, h.ua, h.un, h.us, h.ut, h.big, h.ne1, h.ne2, h.ne3⟩
theorem new {w' : World} (h : Duo d N pb w) (hf : Fr New w w') : Duo d N pb w' := h.fr hf (fun _ _ h => h) (fun _ _ h => h)
theorem more {N' : Nat} (h : Duo d N pb w) (hN : N ≤ N') : Duo d N' pb w := { h with big := ⟨Nat.le_trans h.big.1 hN, Nat.le_trans h.big.2 hN⟩ }
theorem notL (h : Duo d N pb w) {k : Nat} (hk : d.foot pb k ∨ d.kept k) : ¬ LT w k := by
  have hU : ¬ LTy 50 := by unfold LTy; decide
  have hS : ¬ LTy 122 := by unfold LTy; decide
  rcases hk with (rfl | rfl | rfl | rfl | rfl | rfl | hk | rfl | rfl | rfl | hk) | (hk | hk | hk)
  · exact LT.not h.blk (by unfold LTy; decide)
  · exact LT.not h.ph.hp (by unfold LTy; decide)
  · exact LT.not h.ph.tg.t.td (by unfold LTy; decide)
  · exact LT.not h.ph.cg.cg (by unfold LTy; decide)
  · rintro ⟨c, t, hc, _⟩
    exact h.ph.mapNe hc rfl
  · exact LT.not h.ph.tg.t.wb hU
  · obtain ⟨_, c, hc⟩ := own_block h.ph.tg.o hk; exact LT.not hc hS
  · exact LT.not h.rh.g.blk (by unfold LTy; decide)
  · obtain ⟨_, c, hc⟩ := own_block h.rh.g.ownw (g := d.gw) rfl; exact LT.not hc hU
  · obtain ⟨_, c, hc⟩ := own_block h.rh.ownn (g := d.gn) rfl; exact LT.not hc hU
  · obtain ⟨_, c, hc⟩ := own_block h.rh.g.owns hk; exact LT.not hc hS
  · obtain ⟨_, c, hc⟩ := own_block h.a hk; exact LT.not hc hU
  · obtain ⟨_, c, hc⟩ := own_block h.l hk; exact LT.not hc hS
  · obtain ⟨_, c, hc⟩ := own_block h.n hk; exact LT.not hc hU
theorem lt (h : Duo d N pb w) {k : Nat} (hk : d.foot pb k ∨ d.kept k) : k < w.heap.size := by
  rcases hk with (rfl | rfl | rfl | rfl | rfl | rfl | hk | rfl | rfl | rfl | hk) | (hk | hk | hk)
  · exact lt_of_block h.blk
  · exact lt_of_block h.ph.hp
  · exact lt_of_block h.ph.tg.t.td
  · exact lt_of_block h.ph.cg.cg
  · exact h.ph.cg.lt
  · exact lt_of_block h.ph.tg.t.wb
  · obtain ⟨_, c, hc⟩ := own_block h.ph.tg.o hk; exact lt_of_block hc
  · exact lt_of_block h.rh.g.blk
  · obtain ⟨_, c, hc⟩ := own_block h.rh.g.ownw (g := d.gw) rfl; exact lt_of_block hc
  · obtain ⟨_, c, hc⟩ := own_block h.rh.ownn (g := d.gn) rfl; exact lt_of_block hc
  · obtain ⟨_, c, hc⟩ := own_block h.rh.g.owns hk; exact lt_of_block hc
  · obtain ⟨_, c, hc⟩ := own_block h.a hk; exact lt_of_block hc
  · obtain ⟨_, c, hc⟩ := own_block h.l hk; exact lt_of_block hc
  · obtain ⟨_, c, hc⟩ := own_block h.n hk; exact lt_of_block hc
theorem c0 (h : Duo d N pb w) : w.cell? ⟨pb, 0, none⟩ = some (.pointer (some ⟨d.hb, 0, none⟩)) := ((block_cells h.blk).1 0).trans rfl
theorem c1 (h : Duo d N pb w) : w.cell? ⟨pb, 1, none⟩ = some (.pointer (some ⟨d.rb, 0, none⟩)) := ((block_cells h.blk).1 1).trans rfl
theorem c2 (h : Duo d N pb w) : w.cell? ⟨pb, 2, none⟩ = some d.va := ((block_cells h.blk).1 2).trans rfl
theorem c3 (h : Duo d N pb w) : w.cell? ⟨pb, 3, none⟩ = some d.vl := ((block_cells h.blk).1 3).trans rfl
theorem lens (h : Duo d N pb w) : 114 ≤ d.ws.length ∧ d.ws.length ≤ 362 ∧ d.L = d.ws.length := ⟨h.ph.lens.1, h.ph.lens.2, h.rh.g.lenw.symm⟩
end Duo
/-- a pair at its place, its blocks of the colour i, what it keeps of the colour 0 -/
def DuoAt (col : Nat → Nat) (i N pb : Nat) (w : World) : Prop := ∃ d, Duo d N pb w ∧ (∀ k, d.foot pb k → col k = i) ∧ ∀ k, d.kept k → col k = 0
theorem DuoAt.fr {T : Nat → Prop} {col col' : Nat → Nat} {i N N' pb : Nat} {w w' : World} (h : DuoAt col (i + 1) N pb w) (hf : Fr T w w') (hT : ∀ k, T k → ¬ LT w k → col k ≠ i + 1 ∧ col k ≠ 0) (hc : ∀ k, k < w.heap.size → (col k = i + 1 ∨ col k = 0) → col' k = col k) (hN : N ≤ N') : DuoAt col' (i + 1) N' pb w' := by
  obtain ⟨d, D, h1, h2⟩ := h
  refine ⟨d, (D.fr hf (fun k hk ht => ?_) (fun k hk ht => ?_)).more hN, fun k hk => ?_, fun k hk => ?_⟩
  · exact (hT k ht (D.notL (.inl hk))).1 (h1 k hk)
  · exact (hT k ht (D.notL (.inr hk))).2 (h2 k hk)
  · rw [hc k (D.lt (.inl hk)) (.inl (h1 k hk))]; exact h1 k hk
  · rw [hc k (D.lt (.inr hk)) (.inr (h2 k hk))]; exact h2 k hk

/-- an entry of the book's stores or objects -/
structure EntE where
  l : Value
  a : Value
  b : Value
  c : Value
  m : Int
def EntE.cells (e : EntE) : List Value := [e.l, e.a, e.b, e.c, .int .i64 e.m]
def entCells (es : List EntE) : List Value := es.flatMap EntE.cells
theorem entCells_snoc (es : List EntE) (e : EntE) : entCells (es ++ [e]) = entCells es ++ e.cells := by simp [entCells]
theorem entCells_get (es : List EntE) (i j : Nat) (hi : i < es.length) (hj : j < 5) : (entCells es)[i * 5 + j]? = (es[i]).cells[j]? := by
  induction es generalizing i with
  | nil => simp at hi
  | cons e r ih =>
    simp only [entCells, List.flatMap_cons]
    cases i with
    | zero => rw [List.getElem?_append_left (by simp [EntE.cells]; omega)]; simp
    | succ i =>
      rw [List.getElem?_append_right (by simp [EntE.cells]; omega)]
      have := ih i (by simpa using hi)
      rw [show (i + 1) * 5 + j - e.cells.length = i * 5 + j by simp [EntE.cells]; omega]
      exact this
/-- its lists are full of its mark, in blocks of the colour 0 -/
def EntE.good (t : TypeId) (size : Nat) (mk : Int → List Value) (K : Nat → Prop) (w : World) (e : EntE) : Prop := ∀ u ∈ [e.l, e.a, e.b, e.c], (∃ k, k ≤ 1099511627776 ∧ FullE t size (mk e.m) w u k) ∧ ∀ g, u.ownBlock = some g → K g
theorem EntE.good_fr {t : TypeId} {size : Nat} {mk : Int → List Value} {K K' T : Nat → Prop} {w w' : World} {e : EntE} (h : e.good t size mk K w) (hf : Fr T w w') (hT : ∀ g cur, w.heap[g]? = some (.cells cur t (0, 0)) → K g → ¬ T g) (hK : ∀ k, k < w.heap.size → K k → K' k) : e.good t size mk K' w' := fun u hu => by
  obtain ⟨⟨k, h1, h2⟩, h3⟩ := h u hu
  refine ⟨⟨k, h1, hf.owns h2 (fun g hg => ?_)⟩, fun g hg => hK g ?_ (h3 g hg)⟩
  · obtain ⟨_, cur, hc⟩ := own_block h2 hg
    exact hT g cur hc (h3 g hg)
  · obtain ⟨_, cur, hc⟩ := own_block h2 hg
    exact lt_of_block hc

def ptrs (ps : List Nat) : List Value := ps.map (fun pb => .pointer (some ⟨pb, 0, none⟩))
/-- what stands beside images and words: the heaps, the book's stores and objects -/
structure Side (col : Nat → Nat) (X : Rest) (B c N : Nat) (ps : List Nat) (ss os : List EntE) (w : World) : Prop where
  hs : w.ownsRow B 133 1 X.h ps.length (ptrs ps)
  few : ps.length ≤ 4
  du : ∀ i (hi : i < ps.length), DuoAt col (i + 1) N ps[i] w
  rs : w.ownsRow B 149 5 X.s ss.length (entCells ss)
  gs : ∀ e ∈ ss, e.good 122 3 mkS (fun k => col k = 0) w
  ro : w.ownsRow B 152 5 X.o os.length (entCells os)
  go : ∀ e ∈ os, e.good 96 4 mkO (fun k => col k = 0) w
  ls : ss.length ≤ c
  lo : os.length ≤ c
/-- the state -/
structure StaX (col : Nat → Nat) (X : Rest) (B b c N : Nat) (vws : Value) (nw : Nat) (xs : List Value) (vb : Value) (es : List Entry) (ps : List Nat) (ss os : List EntE) (w : World) : Prop where
  p : PartsX (fun k => col k = 0) X B b c vws nw xs vb es w
  i : ImgsX (fun k => col k = 0) w xs
  s : Side col X B c N ps ss os w
  cN : c ≤ N
  old : ∀ k, k < B → col k = 0
def Sta (B b N : Nat) (w : World) : Prop := ∃ col X c vws nw xs vb es ps ss os, StaX col X B b c N vws nw xs vb es ps ss os w
section
variable {col col' : Nat → Nat} {X : Rest} {B b c N : Nat} {vws : Value} {nw : Nat} {xs : List Value} {vb : Value} {es : List Entry} {ps : List Nat} {ss os : List EntE} {w w' : World}
/-- what stands beside stays where only images and words are turned -/
theorem Side.stay {c' N' : Nat} (S : Side col X B c N ps ss os w) (hf : Fr (L3 w) w w') (hc : c ≤ c') (hN : N ≤ N') : Side col X B c' N' ps ss os w' := by
  have h3 : ∀ k, L3 w k → LT w k := fun k ⟨cur, t, h, ht⟩ => ⟨cur, t, h, by unfold LTy; rcases ht with h | h | h; exact .inl h; exact .inr (.inl h); exact .inr (.inr (.inl h))⟩
  refine ⟨hf.owns S.hs (fun g hg => ?_), S.few, fun i hi => (S.du i hi).fr hf (fun k hk hn => absurd (h3 k hk) hn) (fun _ _ _ => rfl) hN, hf.owns S.rs (fun g hg => ?_), fun e he => EntE.good_fr (S.gs e he) hf (fun g cur hg _ => ?_) (fun _ _ h => h), hf.owns S.ro (fun g hg => ?_), fun e he => EntE.good_fr (S.go e he) hf (fun g cur hg _ => ?_) (fun _ _ h => h), Nat.le_trans S.ls hc, Nat.le_trans S.lo hc⟩
  · obtain ⟨_, cur, hh⟩ := own_block S.hs hg; exact L3.not hh (by unfold L3y; decide)
  · obtain ⟨_, cur, hh⟩ := own_block S.rs hg; exact L3.not hh (by unfold L3y; decide)
  · exact L3.not hg (by unfold L3y; decide)
  · obtain ⟨_, cur, hh⟩ := own_block S.ro hg; exact L3.not hh (by unfold L3y; decide)
  · exact L3.not hg (by unfold L3y; decide)
theorem Side.new (S : Side col X B c N ps ss os w) (hf : Fr New w w') : Side col X B c N ps ss os w' := S.stay (hf.mono (fun _ _ h => h.elim)) (Nat.le_refl _) (Nat.le_refl _)
theorem StaX.new (S : StaX col X B b c N vws nw xs vb es ps ss os w) (hf : Fr New w w') : StaX col X B b c N vws nw xs vb es ps ss os w' := ⟨S.p.fr hf, S.i.new hf, S.s.new hf, S.cN, S.old⟩
/-- behind a step of images and words -/
theorem StaX.five {c' : Nat} (S : StaX col X B b c N vws nw xs vb es ps ss os w) (hS : Stay B w w') (hI : Inv2X (fun k => col k = 0) X B b c' w') (h1 : c ≤ c') (h2 : c' ≤ N + 200) : Sta B b (N + 200) w' := by
  obtain ⟨vws', nw', xs', vb', es', P, I⟩ := hI
  exact ⟨col, X, c', vws', nw', xs', vb', es', ps, ss, os, P, I, S.s.stay hS.f h1 (by omega), h2, S.old⟩
/-- behind calls of one pair -/
theorem StaX.turn {T : Nat → Prop} {N' : Nat} (S : StaX col X B b c N vws nw xs vb es ps ss os w) (i : Nat) (hi : i < ps.length) (hf : Fr T w w') (hT : ∀ k, k < w.heap.size → T k → col k = i + 1 ∧ ¬ LT w k) (hc : ∀ k, k < w.heap.size → col k ≠ i + 1 → col' k = col k) (hfr : ∀ k, w'.heap.size ≤ k → col' k = 0)
    (hd : DuoAt col' (i + 1) N' ps[i] w') (hN : N ≤ N') : StaX col' X B b c N' vws nw xs vb es ps ss os w' ∧ Below B w w' := by
  have hf' : Fr (fun k => col k = i + 1 ∧ ¬ LT w k) w w' := hf.mono (fun k hk ht => hT k hk ht)
  have h0 : ∀ k, k < w.heap.size → col k = 0 → col' k = 0 := fun k hk h => by rw [hc k hk (by omega)]; exact h
  have hL : ∀ {B' : Nat} {e : TypeId} {size : Nat} {v : Value} {n : Nat} {ys : List Value}, LTy e → w.ownsRow B' e size v n ys → w'.ownsRow B' e size v n ys := fun he ho => hf'.owns ho (fun g hg ht => by
    obtain ⟨_, cur, hh⟩ := own_block ho hg
    exact ht.2 ⟨_, _, hh, he⟩)
  refine ⟨⟨⟨hf'.heap S.p.bk (fun ht => ht.2 ⟨_, _, S.p.bk, .inl rfl⟩), hL (.inr (.inl rfl)) S.p.ws, hL (.inr (.inr (.inl rfl))) S.p.own, fun e he => ?_, fun e he v hv g hg => ?_, S.p.few, S.p.les, S.p.base, hfr⟩, fun v hv => ?_, ⟨hL (.inr (.inr (.inr (.inr (.inr rfl))))) S.s.hs, S.s.few, fun j hj => ?_, hL (.inr (.inr (.inr (.inl rfl)))) S.s.rs, fun e he => ?_, hL (.inr (.inr (.inr (.inr (.inl rfl))))) S.s.ro, fun e he => ?_, S.s.ls, S.s.lo⟩, Nat.le_trans S.cN hN, fun k hk => h0 k (Nat.lt_of_lt_of_le hk S.p.size) (S.old k hk)⟩, hf'.below S.p.size (fun k hk ht => by have := S.old k hk; omega)⟩
  · have hk := S.p.kept e he
    obtain ⟨⟨k0, q0⟩, ⟨k1, q1⟩, ⟨k2, q2⟩, ⟨k3, q3⟩⟩ := S.p.good e he
    have key : ∀ v ∈ [e.l, e.a, e.b, e.c], ∀ {k : Nat}, Own 0 w v (List.replicate k e.m) → Own 0 w' v (List.replicate k e.m) := fun v hv k ho => hf'.owns ho (fun g hg ht => by
      have : col g = 0 := hk v hv g hg
      omega)
    exact ⟨⟨k0, key _ (by simp) q0⟩, ⟨k1, key _ (by simp) q1⟩, ⟨k2, key _ (by simp) q2⟩, ⟨k3, key _ (by simp) q3⟩⟩
  · have hg0 := S.p.kept e he v hv g hg
    refine h0 g ?_ hg0
    obtain ⟨⟨k0, q0⟩, ⟨k1, q1⟩, ⟨k2, q2⟩, ⟨k3, q3⟩⟩ := S.p.good e he
    simp only [List.mem_cons, List.not_mem_nil, or_false] at hv
    rcases hv with rfl | rfl | rfl | rfl
    · obtain ⟨_, cur, hh⟩ := own_block q0 hg; exact lt_of_block hh
    · obtain ⟨_, cur, hh⟩ := own_block q1 hg; exact lt_of_block hh
    · obtain ⟨_, cur, hh⟩ := own_block q2 hg; exact lt_of_block hh
    · obtain ⟨_, cur, hh⟩ := own_block q3 hg; exact lt_of_block hh
  · obtain ⟨zs, ho, h1, h2, h3⟩ := S.i v hv
    refine ⟨zs, hf'.owns ho (fun g hg ht => ?_), h1, h2, fun g hg => h0 g ?_ (h3 g hg)⟩
    · have : col g = 0 := h3 g hg; omega
    · obtain ⟨_, cur, hh⟩ := own_block ho hg; exact lt_of_block hh
  · by_cases hj' : j = i
    · subst hj'; exact hd
    · exact (S.s.du j hj).fr hf' (fun k hk hn => ⟨by omega, by omega⟩) (fun k hk h => hc k hk (by omega)) hN
  · exact EntE.good_fr (S.s.gs e he) hf' (fun g cur _ (h : col g = 0) ht => by omega) (fun k hk h => h0 k hk h)
  · exact EntE.good_fr (S.s.go e he) hf' (fun g cur _ (h : col g = 0) ht => by omega) (fun k hk h => h0 k hk h)
end
end Go.Proofs.YtbagcjlimdilpaaGreat
/- Walks of 'fullStores', 'fullThings', and of 'looks' over all three lists of the book. -/
namespace Go.Proofs.YtbagcjlimdilpaaGreat
open Go.RowKit

/-- what lies at one element of a full list -/
theorem fullE_at {e : TypeId} {size : Nat} {mk : List Value} {w : World} {a : Option Addr} {n c : Nat} (h : FullE e size mk w (.slice a n c) n) (hmk : mk.length = size) (i : Nat) (hi : i < n) : ∃ g, a = some ⟨g, 0, none⟩ ∧ ∀ j, j < size → w.cell? ⟨g, i * size + j, none⟩ = mk[j]? := by
  rcases h.2 with ⟨h', h0⟩ | ⟨g, cap, cur, h', _⟩
  · omega
  · simp only [Value.slice.injEq] at h'
    obtain ⟨rfl, _, rfl⟩ := h'
    refine ⟨g, rfl, fun j hj => ?_⟩
    have hlt : i * size + j < n * size := by
      have : (i + 1) * size ≤ n * size := Nat.mul_le_mul_right _ hi
      rw [Nat.add_mul, Nat.one_mul] at this
      omega
    have hlen : i * size + j < (reps mk n).length := by rw [reps_len, hmk]; exact hlt
    rw [h.cellAt (i * size + j) hlt, ← hmk, reps_get mk n i j hi (by omega)]

theorem fullS_true (a : Option Addr) (n c : Nat) (m : Int) (w : World) (hm : n ≤ 1099511627776) (h : FullE 122 3 (mkS m) w (.slice a n c) n) :
    Calls Tryz.prog 92 #[.slice a n c, .int .i64 m] w fun e w' => e = .returned (.bool true) ∧ w' = w := by
  go_enter Tryz.func92, Tryz.ntmps92
  go_wp2
  go_loop [5] (fun i => ∃ k : Nat, k ≤ n ∧ i = .int .i64 k) (fun i => n - (intOf i).toNat)
  case atStart => exact ⟨0, Nat.zero_le _, rfl⟩
  case round =>
    obtain ⟨k, hk, rfl⟩ := hrel
    by_cases hlt : k < n
    · obtain ⟨g, rfl, hc⟩ := fullE_at h rfl k hlt
      have h0 := hc 0 (by omega)
      have h1 := hc 1 (by omega)
      have h2 := hc 2 (by omega)
      simp only [mkS, List.getElem?_cons_zero, List.getElem?_cons_succ, Nat.add_zero] at h0 h1 h2
      clear hc
      go_wp2
      go_round
      case rel => exact ⟨k + 1, by omega, by go_num⟩
      case measure => simp [intOf]; omega
    · go_wp2
      go_ret
      exact ⟨rfl, rfl⟩
theorem fullO_true (a : Option Addr) (n c : Nat) (m : Int) (w : World) (hm : n ≤ 1099511627776) (h : FullE 96 4 (mkO m) w (.slice a n c) n) :
    Calls Tryz.prog 93 #[.slice a n c, .int .i64 m] w fun e w' => e = .returned (.bool true) ∧ w' = w := by
  go_enter Tryz.func93, Tryz.ntmps93
  go_wp2
  go_loop [5] (fun i => ∃ k : Nat, k ≤ n ∧ i = .int .i64 k) (fun i => n - (intOf i).toNat)
  case atStart => exact ⟨0, Nat.zero_le _, rfl⟩
  case round =>
    obtain ⟨k, hk, rfl⟩ := hrel
    by_cases hlt : k < n
    · obtain ⟨g, rfl, hc⟩ := fullE_at h rfl k hlt
      have h0 := hc 0 (by omega)
      have h1 := hc 1 (by omega)
      have h2 := hc 2 (by omega)
      have h3 := hc 3 (by omega)
      simp only [mkO, List.getElem?_cons_zero, List.getElem?_cons_succ, Nat.add_zero] at h0 h1 h2 h3
      clear hc
      go_wp2
      go_round
      case rel => exact ⟨k + 1, by omega, by go_num⟩
      case measure => simp [intOf]; omega
    · go_wp2
      go_ret
      exact ⟨rfl, rfl⟩
/-- a list of an entry, as it is handed on -/
def FE (t : TypeId) (size : Nat) (mk : List Value) (w : World) (v : Value) : Prop := ∃ k, k ≤ 1099511627776 ∧ FullE t size mk w v k
theorem FE.slice {t : TypeId} {size : Nat} {mk : List Value} {w : World} {v : Value} (h : FE t size mk w v) : ∃ a n c, v = .slice a n c := by
  obtain ⟨k, _, h⟩ := h
  obtain ⟨a, c, h⟩ := own_slice h
  exact ⟨a, _, c, h⟩
theorem FE.new {t : TypeId} {size : Nat} {mk : List Value} {w w' : World} {v : Value} (h : FE t size mk w v) (hf : Fr New w w') : FE t size mk w' v := by
  obtain ⟨k, h1, h2⟩ := h
  exact ⟨k, h1, hf.owns h2 (fun _ _ h => h)⟩
theorem fullS_call {w : World} {v : Value} {m : Int} (h : FE 122 3 (mkS m) w v) : Calls Tryz.prog 92 #[v, .int .i64 m] w fun e w' => e = .returned (.bool true) ∧ w' = w := by
  obtain ⟨k, h1, h2⟩ := h
  obtain ⟨a, c, rfl⟩ := own_slice h2
  exact fullS_true a k c m w h1 h2
theorem fullO_call {w : World} {v : Value} {m : Int} (h : FE 96 4 (mkO m) w v) : Calls Tryz.prog 93 #[v, .int .i64 m] w fun e w' => e = .returned (.bool true) ∧ w' = w := by
  obtain ⟨k, h1, h2⟩ := h
  obtain ⟨a, c, rfl⟩ := own_slice h2
  exact fullO_true a k c m w h1 h2

set_option maxHeartbeats 4000000 in
set_option maxRecDepth 1000000 in
theorem looks_all (b n : Nat) (vws vhs vb vss vos : Value) (es : List Entry) (ss os : List EntE) (B : Nat) (K : Nat → Prop) (w : World) (hbk : Wb w b vws vhs n vb vss vos)
    (hown : w.ownsRow B 146 5 vb es.length (cellsOf es)) (hn : es.length ≤ 1073741824) (hg : ∀ e ∈ es, e.good w)
    (howns : w.ownsRow B 149 5 vss ss.length (entCells ss)) (hns : ss.length ≤ 1073741824) (hgs : ∀ e ∈ ss, e.good 122 3 mkS K w)
    (howno : w.ownsRow B 152 5 vos os.length (entCells os)) (hno : os.length ≤ 1073741824) (hgo : ∀ e ∈ os, e.good 96 4 mkO K w) :
    Calls Tryz.prog 43 #[.pointer (some ⟨b, 2, none⟩)] w fun e w' => e = .returned (.bool true) ∧ Fr New w w' := by
  obtain ⟨av, cv, hvb⟩ := own_slice hown
  obtain ⟨sa, sc, hvs⟩ := own_slice howns
  obtain ⟨ao, co, hvo⟩ := own_slice howno
  subst hvb
  subst hvs
  subst hvo
  go_enter Tryz.func43, Tryz.ntmps43
  go_wp2
  go_loopw [3, 4] (fun t i wr => ∃ k : Nat, k ≤ es.length ∧ t = .bool true ∧ i = .int .i64 k ∧ Fr New w wr) (fun _ i _ => es.length - (intOf i).toNat)
  case atStart => exact ⟨0, Nat.zero_le _, rfl, rfl, Fr.refl _ _⟩
  case round =>
    obtain ⟨k, hk, rfl, rfl, hf⟩ := hrel
    obtain ⟨hcb, hzb⟩ := block_cells (hf.heap hbk id)
    by_cases hlt : k < es.length
    · have hr := hf.owns hown (fun _ _ h => h)
      obtain ⟨g, c, hv, _, hgl⟩ := hr.form (by omega)
      cases hv
      have hE : ∀ j, j < 5 → wr.cell? ⟨g, k * 5 + j, none⟩ = (es[k]).cells[j]? := fun j hj => (hr.cellAt (k * 5 + j) (by omega)).trans (cellsOf_get es k j hlt hj)
      have hgd := Entry.good_fr (hg es[k] (List.getElem_mem _)) hf (fun _ _ _ h => h)
      obtain ⟨e, he⟩ : ∃ e, e = es[k] := ⟨_, rfl⟩
      rw [← he] at hE hgd
      clear he
      have e0 := hE 0 (by omega)
      have e1 := hE 1 (by omega)
      have e2 := hE 2 (by omega)
      have e3 := hE 3 (by omega)
      have e4 := hE 4 (by omega)
      clear hE hr
      simp only [Entry.cells, List.getElem?_cons_zero, List.getElem?_cons_succ, Nat.add_zero] at e0 e1 e2 e3 e4
      obtain ⟨el, ea, eb, ec, em⟩ := e
      obtain ⟨h0, h1, h2, h3⟩ := hgd
      simp only at e0 e1 e2 e3 e4 h0 h1 h2 h3
      obtain ⟨a0, n0, c0, rfl⟩ := full_slice h0
      obtain ⟨a1, n1, c1, rfl⟩ := full_slice h1
      obtain ⟨a2, n2, c2, rfl⟩ := full_slice h2
      obtain ⟨a3, n3, c3, rfl⟩ := full_slice h3
      go_wp2_with (first
        | (go_at_call 91; refine calls_same (full_call (full_alloc h0 _)) ?_)
        | (go_at_call 91; refine calls_same (full_call (full_alloc h1 _)) ?_)
        | (go_at_call 91; refine calls_same (full_call (full_alloc h2 _)) ?_)
        | (go_at_call 91; refine calls_same (full_call (full_alloc h3 _)) ?_)
        | fail)
      go_roundw
      case rel => exact ⟨k + 1, by omega, rfl, by go_num, hf.alloc _⟩
      case measure => simp [intOf]; omega
    · go_wp2
      go_loopw [3, 10] (fun t i wr => ∃ k : Nat, k ≤ ss.length ∧ t = .bool true ∧ i = .int .i64 k ∧ Fr New w wr) (fun _ i _ => ss.length - (intOf i).toNat)
      case atStart => exact ⟨0, Nat.zero_le _, rfl, rfl, hf⟩
      case round =>
        clear hf hcb hzb hlt hk
        obtain ⟨k, hk, rfl, rfl, hf⟩ := hrel
        obtain ⟨hcb, hzb⟩ := block_cells (hf.heap hbk id)
        by_cases hlt : k < ss.length
        · have hr := hf.owns howns (fun _ _ h => h)
          obtain ⟨g, c, hv, _, hgl⟩ := hr.form (by omega)
          cases hv
          have hE : ∀ j, j < 5 → wr.cell? ⟨g, k * 5 + j, none⟩ = (ss[k]).cells[j]? := fun j hj => (hr.cellAt (k * 5 + j) (by omega)).trans (entCells_get ss k j hlt hj)
          have hgd := EntE.good_fr (K' := K) (hgs ss[k] (List.getElem_mem _)) hf (fun _ _ _ _ h => h) (fun _ _ h => h)
          obtain ⟨e, he⟩ : ∃ e, e = ss[k] := ⟨_, rfl⟩
          rw [← he] at hE hgd
          clear he
          have e0 := hE 0 (by omega)
          have e1 := hE 1 (by omega)
          have e2 := hE 2 (by omega)
          have e3 := hE 3 (by omega)
          have e4 := hE 4 (by omega)
          clear hE hr
          simp only [EntE.cells, List.getElem?_cons_zero, List.getElem?_cons_succ, Nat.add_zero] at e0 e1 e2 e3 e4
          obtain ⟨el, ea, eb, ec, em⟩ := e
          simp only at e0 e1 e2 e3 e4
          have h0 : FE 122 3 (mkS em) wr el := (hgd el (by simp)).1
          have h1 : FE 122 3 (mkS em) wr ea := (hgd ea (by simp)).1
          have h2 : FE 122 3 (mkS em) wr eb := (hgd eb (by simp)).1
          have h3 : FE 122 3 (mkS em) wr ec := (hgd ec (by simp)).1
          clear hgd
          obtain ⟨a0, n0, c0, rfl⟩ := h0.slice
          obtain ⟨a1, n1, c1, rfl⟩ := h1.slice
          obtain ⟨a2, n2, c2, rfl⟩ := h2.slice
          obtain ⟨a3, n3, c3, rfl⟩ := h3.slice
          go_wp2_with (first
            | (go_at_call 92; refine calls_same (fullS_call (h0.new ((Fr.refl New _).alloc _))) ?_)
            | (go_at_call 92; refine calls_same (fullS_call (h1.new ((Fr.refl New _).alloc _))) ?_)
            | (go_at_call 92; refine calls_same (fullS_call (h2.new ((Fr.refl New _).alloc _))) ?_)
            | (go_at_call 92; refine calls_same (fullS_call (h3.new ((Fr.refl New _).alloc _))) ?_)
            | fail)
          go_roundw
          case rel => exact ⟨k + 1, by omega, rfl, by go_num, hf.alloc _⟩
          case measure => simp [intOf]; omega
        · go_wp2
          go_loopw [3, 16] (fun t i wr => ∃ k : Nat, k ≤ os.length ∧ t = .bool true ∧ i = .int .i64 k ∧ Fr New w wr) (fun _ i _ => os.length - (intOf i).toNat)
          case atStart => exact ⟨0, Nat.zero_le _, rfl, rfl, hf⟩
          case round =>
            clear hf hcb hzb hlt hk
            obtain ⟨k, hk, rfl, rfl, hf⟩ := hrel
            obtain ⟨hcb, hzb⟩ := block_cells (hf.heap hbk id)
            by_cases hlt : k < os.length
            · have hr := hf.owns howno (fun _ _ h => h)
              obtain ⟨g, c, hv, _, hgl⟩ := hr.form (by omega)
              cases hv
              have hE : ∀ j, j < 5 → wr.cell? ⟨g, k * 5 + j, none⟩ = (os[k]).cells[j]? := fun j hj => (hr.cellAt (k * 5 + j) (by omega)).trans (entCells_get os k j hlt hj)
              have hgd := EntE.good_fr (K' := K) (hgo os[k] (List.getElem_mem _)) hf (fun _ _ _ _ h => h) (fun _ _ h => h)
              obtain ⟨e, he⟩ : ∃ e, e = os[k] := ⟨_, rfl⟩
              rw [← he] at hE hgd
              clear he
              have e0 := hE 0 (by omega)
              have e1 := hE 1 (by omega)
              have e2 := hE 2 (by omega)
              have e3 := hE 3 (by omega)
              have e4 := hE 4 (by omega)
              clear hE hr
              simp only [EntE.cells, List.getElem?_cons_zero, List.getElem?_cons_succ, Nat.add_zero] at e0 e1 e2 e3 e4
              obtain ⟨el, ea, eb, ec, em⟩ := e
              simp only at e0 e1 e2 e3 e4
              have h0 : FE 96 4 (mkO em) wr el := (hgd el (by simp)).1
              have h1 : FE 96 4 (mkO em) wr ea := (hgd ea (by simp)).1
              have h2 : FE 96 4 (mkO em) wr eb := (hgd eb (by simp)).1
              have h3 : FE 96 4 (mkO em) wr ec := (hgd ec (by simp)).1
              clear hgd
              obtain ⟨a0, n0, c0, rfl⟩ := h0.slice
              obtain ⟨a1, n1, c1, rfl⟩ := h1.slice
              obtain ⟨a2, n2, c2, rfl⟩ := h2.slice
              obtain ⟨a3, n3, c3, rfl⟩ := h3.slice
              go_wp2_with (first
                | (go_at_call 93; refine calls_same (fullO_call (h0.new ((Fr.refl New _).alloc _))) ?_)
                | (go_at_call 93; refine calls_same (fullO_call (h1.new ((Fr.refl New _).alloc _))) ?_)
                | (go_at_call 93; refine calls_same (fullO_call (h2.new ((Fr.refl New _).alloc _))) ?_)
                | (go_at_call 93; refine calls_same (fullO_call (h3.new ((Fr.refl New _).alloc _))) ?_)
                | fail)
              go_roundw
              case rel => exact ⟨k + 1, by omega, rfl, by go_num, hf.alloc _⟩
              case measure => simp [intOf]; omega
            · go_wp2
              go_ret
              exact ⟨rfl, hf⟩
end Go.Proofs.YtbagcjlimdilpaaGreat
/- Mathematics of a pair of heaps: what calls make of its words is good; the pair behind a call. -/
namespace Go.Proofs.YtbagcjlimdilpaaGreat
open Go.RowKit Go.Maps

theorem alloc_hw {ws now r : List Int} {s p h c : Int} (hw : HW ws now) (ha : AllocIs now s p r h c) : HW ws r := by
  rcases ha with ⟨_, rfl, _⟩ | ⟨_, _, rfl, _⟩ | ⟨hok, b, z, hf, _, hz, hr, _⟩
  · exact hw
  · exact hw
  · obtain ⟨h1, h2, h3, h4⟩ := hok
    obtain ⟨s', rfl⟩ := Int.eq_ofNat_of_zero_le (show 0 ≤ s by omega)
    obtain ⟨p', rfl⟩ := Int.eq_ofNat_of_zero_le h3
    simp only [Int.toNat_natCast] at hf hz
    obtain ⟨l1, l2, hA⟩ := alloc_good hw.gn (by omega) (by omega) (by omega) hf hz hr
    exact hw.to hA.good hA.len (fun q _ h2 => hA.head q h2)
theorem free_hw {ws now r : List Int} {n c : Int} (hw : HW ws now) (hf : FreeIs now n r c) : HW ws r := by
  rcases hf with ⟨_, rfl, _⟩ | ⟨_, _, rfl, _⟩ | ⟨k, hk, hx, hh, hz, _⟩
  · exact hw
  · exact hw
  · obtain ⟨_, he⟩ := idx_mem hx
    rw [← he] at hh
    have hA := free_good hw.gn hk hh hz
    exact hw.to hA.good hA.len (fun q _ h2 => hA.head q h2)
theorem write_hw {ws now : List Int} (n i v : Int) (hw : HW ws now) : HW ws (writeS now n i v).1 := by
  unfold writeS
  rcases hx : idx (objs now) n with _ | k
  · exact hw
  · simp only
    have hk := idx_lt hx
    split
    · exact hw
    · rename_i h1
      split
      · exact hw
      · rename_i h2
        obtain ⟨j, rfl⟩ := Int.eq_ofNat_of_zero_le (show 0 ≤ i by omega)
        simp only [List.getD, List.getElem?_eq_getElem hk, Option.getD_some, Int.toNat_natCast] at h1 h2 ⊢
        obtain ⟨g1, g2, g3, g4, g5⟩ := write_good (v := v) (i := j) hw.gn (List.getElem_mem hk) (by omega) (fun hj => by
          by_cases h0 : v = 0
          · exact .inl h0
          · refine .inr (idx_hnd.1 (fun hn => h2 ⟨by omega, h0, hn⟩)))
        exact hw.to g1 (by simp) (fun q _ h2 => g5 q h2)
theorem setRoot_hw {ws now : List Int} (i n : Int) (hw : HW ws now) : HW ws (setRootS now i n).1 := by
  unfold setRootS
  split
  · exact hw
  · rename_i h1
    split
    · exact hw
    · rename_i h2
      obtain ⟨j, rfl⟩ := Int.eq_ofNat_of_zero_le (show 0 ≤ i by omega)
      simp only [Int.toNat_natCast]
      obtain ⟨g1, g2, g3, g4⟩ := root_good (n := n) (i := j) hw.gn (by omega) (by
        by_cases h0 : n = 0
        · exact .inl h0
        · exact .inr (idx_hnd.1 (fun hn => h2 ⟨h0, hn⟩)))
      exact hw.to g1 (by simp) (fun q h1 h2 => g4 q (by omega))
namespace Duo
variable {d : DV} {N pb : Nat} {w : World}
theorem gt1 (h : Duo d N pb w) : ∃ c, w.heap[d.gn]? = some (.cells c 50 (0, 0)) := by
  obtain ⟨_, c, hc⟩ := own_block h.rh.ownn (g := d.gn) rfl
  exact ⟨c, hc⟩
/-- the document's heap stays while the program's map is turned -/
theorem rhMap (h : Duo d N pb w) {w1 : World} (f : Fr (fun k => k = d.mb) w w1) : RHN d.rb d.gw d.cw d.gn d.cn d.L d.vr d.ws d.now d.st w1 := by
  obtain ⟨_, c, hc⟩ := own_block h.rh.ownn (g := d.gn) rfl
  obtain ⟨_, c', hc'⟩ := own_block h.rh.g.ownw (g := d.gw) rfl
  refine h.rh.frT f (h.ph.mapNe h.rh.g.blk) (h.ph.mapNe hc') (h.ph.mapNe hc) (fun k hk => ?_)
  obtain ⟨_, c2, hc2⟩ := own_block h.rh.g.owns hk
  exact h.ph.mapNe hc2
/-- behind a call that turns the words now -/
theorem turn (h : Duo d N pb w) (hsep : ∀ k, d.kept k → ¬ d.foot pb k) {now' : List Int} {w1 w2 : World} (h1 : PH d.hb d.tb d.cb d.mb d.g d.vs d.ws now' d.st w1) (f1 : Fr (fun k => k = d.mb) w w1) (h2 : RH d.rb d.gn d.cn d.L (.slice (some ⟨d.gw, 0, none⟩) d.L d.cw) d.vr now' w2) (f2 : Fr (fun k => k = d.gn) w1 w2) (hw : HW d.ws now') :
    Duo { d with now := now' } N pb w2 ∧ Fr (fun k => d.foot pb k) w w2 := by
  obtain ⟨_, cn, hcn⟩ := own_block h.rh.ownn (g := d.gn) rfl
  obtain ⟨_, cn1, hcn1⟩ := own_block (h.rhMap f1).ownn (g := d.gn) rfl
  have hmb : d.foot pb d.mb := .inr (.inr (.inr (.inr (.inl rfl))))
  have hgn : d.foot pb d.gn := .inr (.inr (.inr (.inr (.inr (.inr (.inr (.inr (.inr (.inl rfl)))))))))
  have hf : Fr (fun k => k = d.mb ∨ k = d.gn) w w2 := (f1.mono (fun _ _ e => .inl e)).trans f2 (fun _ _ e => .inr e)
  have hK : ∀ k, d.kept k → ¬ (k = d.mb ∨ k = d.gn) := fun k hk ht => by
    rcases ht with rfl | rfl
    · exact hsep _ hk hmb
    · exact hsep _ hk hgn
  refine ⟨⟨hf.heap h.blk (fun ht => ?_), h1.fr f2 (fun e => type_ne h1.hp hcn1 (by decide) e) (fun e => type_ne h1.tg.t.td hcn1 (by decide) e) (fun e => type_ne h1.cg.cg hcn1 (by decide) e) (fun e => h1.mapNe hcn1 e.symm) h.ne2 (fun k hk e => ?_), (h.rhMap f1).back h2 f2, hw, hf.owns h.a (fun k hk => hK k (.inl hk)), hf.owns h.l (fun k hk => hK k (.inr (.inl hk))), hf.owns h.n (fun k hk => hK k (.inr (.inr hk))), h.la, h.ln, h.ua, h.un, h.us, h.ut, h.big, h.ne1, h.ne2, h.ne3⟩, hf.mono (fun k _ ht => ?_)⟩
  · rcases ht with e | e
    · exact h.ph.mapNe h.blk e
    · exact type_ne h.blk hcn (by decide) e
  · obtain ⟨_, c, hc⟩ := own_block h1.tg.o hk
    exact type_ne hc hcn1 (by decide) e
  · rcases ht with rfl | rfl
    · exact hmb
    · exact hgn
end Duo
theorem DuoAt.more {col : Nat → Nat} {i N N' pb : Nat} {w : World} (h : DuoAt col i N pb w) (hN : N ≤ N') : DuoAt col i N' pb w := by
  obtain ⟨d, D, h1, h2⟩ := h
  exact ⟨d, D.more hN, h1, h2⟩
theorem Sta.more {B b N N' : Nat} {w : World} (h : Sta B b N w) (hN : N ≤ N') : Sta B b N' w := by
  obtain ⟨col, X, c, vws, nw, xs, vb, es, ps, ss, os, S⟩ := h
  exact ⟨col, X, c, vws, nw, xs, vb, es, ps, ss, os, S.p, S.i, ⟨S.s.hs, S.s.few, fun i hi => (S.s.du i hi).more hN, S.s.rs, S.s.gs, S.s.ro, S.s.go, S.s.ls, S.s.lo⟩, Nat.le_trans S.cN hN, S.old⟩
/-- behind a call of a pair that turns the words now, in the state -/
theorem StaX.calls {col : Nat → Nat} {X : Rest} {B b c N : Nat} {vws : Value} {nw : Nat} {xs : List Value} {vb : Value} {es : List Entry} {ps : List Nat} {ss os : List EntE} {w : World} (S : StaX col X B b c N vws nw xs vb es ps ss os w) (i : Nat) (hi : i < ps.length)
    {d : DV} (D : Duo d N ps[i] w) (hc1 : ∀ k, d.foot ps[i] k → col k = i + 1) (hc0 : ∀ k, d.kept k → col k = 0) {now' : List Int} {w1 w2 : World} (h1 : PH d.hb d.tb d.cb d.mb d.g d.vs d.ws now' d.st w1) (f1 : Fr (fun k => k = d.mb) w w1) (h2 : RH d.rb d.gn d.cn d.L (.slice (some ⟨d.gw, 0, none⟩) d.L d.cw) d.vr now' w2) (f2 : Fr (fun k => k = d.gn) w1 w2) (hw : HW d.ws now') :
    Sta B b (N + 200) w2 ∧ Below B w w2 := by
  obtain ⟨D', F⟩ := D.turn (fun k hk hf => by have := hc1 k hf; have := hc0 k hk; omega) h1 f1 h2 f2 hw
  obtain ⟨q1, q2⟩ := S.turn (col' := col) i hi F (fun k _ hk => ⟨hc1 k hk, D.notL (.inl hk)⟩) (fun _ _ _ => rfl) (fun k hk => S.p.fresh k (Nat.le_trans F.size hk)) ⟨_, D', hc1, hc0⟩ (Nat.le_refl _)
  exact ⟨Sta.more ⟨_, _, _, _, _, _, _, _, _, _, _, q1⟩ (by omega), q2⟩
end Go.Proofs.YtbagcjlimdilpaaGreat
/- A pair of heaps behind Commit and Rollback. -/
namespace Go.Proofs.YtbagcjlimdilpaaGreat
open Go.RowKit Go.Maps

/-- colours, with what is new between two worlds of one colour -/
def recol (col : Nat → Nat) (n m i : Nat) (k : Nat) : Nat := if n ≤ k ∧ k < m then i else col k
theorem recol_old {col : Nat → Nat} {n m i k : Nat} (h : k < n) : recol col n m i k = col k := by unfold recol; rw [if_neg (by omega)]
theorem recol_new {col : Nat → Nat} {n m i k : Nat} (h : n ≤ k) (h2 : k < m) : recol col n m i k = i := by unfold recol; rw [if_pos ⟨h, h2⟩]
theorem recol_far {col : Nat → Nat} {n m i k : Nat} (h : m ≤ k) (h0 : col k = 0) : recol col n m i k = 0 := by unfold recol; rw [if_neg (by omega)]; exact h0

section
variable {col : Nat → Nat} {X : Rest} {B b c N : Nat} {vws : Value} {nw : Nat} {xs : List Value} {vb : Value} {es : List Entry} {ps : List Nat} {ss os : List EntE} {w : World}
/-- the state behind a call of a pair whose new blocks may lie anew -/
theorem StaX.again {w' : World} {d d' : DV} {N' : Nat} (S : StaX col X B b c N vws nw xs vb es ps ss os w) (i : Nat) (hi : i < ps.length) (D : Duo d N ps[i] w) (hc1 : ∀ k, d.foot ps[i] k → col k = i + 1) (hc0 : ∀ k, d.kept k → col k = 0)
    (F : Fr (d.foot ps[i]) w w') (D' : Duo d' N' ps[i] w') (hft : ∀ k, d'.foot ps[i] k → d.foot ps[i] k ∨ w.heap.size ≤ k) (hkp : ∀ k, d'.kept k → d.kept k) (hN : N ≤ N') (hN2 : N' ≤ N + 200) : Below B w w' ∧ Sta B b (N + 200) w' := by
  have hd : DuoAt (recol col w.heap.size w'.heap.size (i + 1)) (i + 1) N' ps[i] w' := by
    refine ⟨d', D', fun k hk => ?_, fun k hk => ?_⟩
    · rcases hft k hk with h | h
      · rw [recol_old (D.lt (.inl h))]; exact hc1 k h
      · exact recol_new h (D'.lt (.inl hk))
    · rw [recol_old (D.lt (.inr (hkp k hk)))]; exact hc0 k (hkp k hk)
  obtain ⟨q1, q2⟩ := S.turn i hi F (fun k _ hk => ⟨hc1 k hk, D.notL (.inl hk)⟩) (fun k hk _ => recol_old hk) (fun k hk => recol_far hk (S.p.fresh k (Nat.le_trans F.size hk))) hd hN
  exact ⟨q2, Sta.more ⟨_, _, _, _, _, _, _, _, _, _, _, q1⟩ hN2⟩
end
namespace Duo
variable {d : DV} {N pb : Nat} {w : World}
/-- the document's heap stays while the program's is turned -/
theorem rhP (h : Duo d N pb w) {w1 : World} (f : Fr (TurnedP d.tb d.mb d.g d.vs) w w1) : RHN d.rb d.gw d.cw d.gn d.cn d.L d.vr d.ws d.now d.st w1 := by
  obtain ⟨_, c, hc⟩ := own_block h.rh.ownn (g := d.gn) rfl
  obtain ⟨_, c', hc'⟩ := own_block h.rh.g.ownw (g := d.gw) rfl
  have key : ∀ k cur t, t ≠ 108 → w.heap[k]? = some (.cells cur t (0, 0)) → k ≠ d.g → d.vs.ownBlock ≠ some k → ¬ TurnedP d.tb d.mb d.g d.vs k := by
    rintro k cur t h1 hk h2 h3 (e | e | e | e)
    · exact type_ne hk h.ph.tg.t.td h1 e
    · exact h.ph.mapNe hk e
    · exact h2 e
    · exact h3 e
  have hvs : ∀ k cur t, t ≠ 122 → w.heap[k]? = some (.cells cur t (0, 0)) → d.vs.ownBlock ≠ some k := fun k cur t ht hk e => by
    obtain ⟨_, c2, hc2⟩ := own_block h.ph.tg.o e
    exact type_ne hk hc2 ht rfl
  refine h.rh.frT f (key _ _ _ (by decide) h.rh.g.blk (fun e => type_ne h.rh.g.blk h.ph.tg.t.wb (by decide) e) (hvs _ _ _ (by decide) h.rh.g.blk)) (key _ _ _ (by decide) hc' h.ne1.symm (hvs _ _ _ (by decide) hc')) (key _ _ _ (by decide) hc h.ne2.symm (hvs _ _ _ (by decide) hc)) (fun k hk => ?_)
  obtain ⟨_, c2, hc2⟩ := own_block h.rh.g.owns hk
  exact key _ _ _ (by decide) hc2 (fun e => type_ne hc2 h.ph.tg.t.wb (by decide) e) (fun e => h.ne3 k e hk)
/-- behind Commit of both -/
theorem commit (h : Duo d N pb w) (hsep : ∀ k, d.kept k → ¬ d.foot pb k) (h48 : (recsOf d.ws (nextS d.now)).length ≤ 48) {w1 w2 : World} {vs' : Value} (h1 : PH d.hb d.tb d.cb d.mb d.g vs' (pcommitW d.ws d.now) (pcommitW d.ws d.now) (d.st ++ pcommitSt d.ws d.now) w1) (f1 : Fr (TurnedP d.tb d.mb d.g d.vs) w w1) (m1 : Moved w d.vs vs')
    {vr' : Value} {gn' cn' : Nat} (hg : w1.heap.size ≤ gn') (h2 : RHN d.rb d.gw d.cw gn' cn' d.L vr' (pcommitW d.ws d.now) (pcommitW d.ws d.now) (d.st ++ pcommitSt d.ws d.now) w2) (f2 : Fr (TurnedH d.rb d.gw d.vr) w1 w2) (m2 : vr'.ownBlock = d.vr.ownBlock ∨ ∀ k, vr'.ownBlock = some k → w1.heap.size ≤ k) :
    Duo { d with vs := vs', gn := gn', cn := cn', vr := vr', ws := pcommitW d.ws d.now, now := pcommitW d.ws d.now, st := d.st ++ pcommitSt d.ws d.now } (N + 200) pb w2 ∧ Fr (d.foot pb) w w2 ∧
      ∀ k, DV.foot { d with vs := vs', gn := gn', cn := cn', vr := vr', ws := pcommitW d.ws d.now, now := pcommitW d.ws d.now, st := d.st ++ pcommitSt d.ws d.now } pb k → d.foot pb k ∨ w.heap.size ≤ k := by
  have hs1 := f1.size
  have ftP : ∀ k, TurnedP d.tb d.mb d.g d.vs k → d.foot pb k := by
    rintro k (e | e | e | e)
    · exact .inr (.inr (.inl e))
    · exact .inr (.inr (.inr (.inr (.inl e))))
    · exact .inr (.inr (.inr (.inr (.inr (.inl e)))))
    · exact .inr (.inr (.inr (.inr (.inr (.inr (.inl e))))))
  have ftH : ∀ k, TurnedH d.rb d.gw d.vr k → d.foot pb k := by
    rintro k (e | e | e)
    · exact .inr (.inr (.inr (.inr (.inr (.inr (.inr (.inl e)))))))
    · exact .inr (.inr (.inr (.inr (.inr (.inr (.inr (.inr (.inl e))))))))
    · exact .inr (.inr (.inr (.inr (.inr (.inr (.inr (.inr (.inr (.inr e)))))))))
  have hF : Fr (d.foot pb) w w2 := (f1.mono (fun k _ hk => ftP k hk)).trans f2 (fun k _ hk => ftH k hk)
  have R1 := h.rhP f1
  obtain ⟨_, cg, hcg⟩ := own_block R1.g.ownw (g := d.gw) rfl
  have hpbT : ¬ (TurnedP d.tb d.mb d.g d.vs pb) := by
    rintro (e | e | e | e)
    · exact type_ne h.blk h.ph.tg.t.td (by decide) e
    · exact h.ph.mapNe h.blk e
    · exact type_ne h.blk h.ph.tg.t.wb (by decide) e
    · obtain ⟨_, c2, hc2⟩ := own_block h.ph.tg.o e; exact type_ne h.blk hc2 (by decide) rfl
  have hblk1 := f1.heap h.blk hpbT
  have keyH : ∀ k cur t, t ≠ 141 → t ≠ 122 → w1.heap[k]? = some (.cells cur t (0, 0)) → k ≠ d.gw → ¬ TurnedH d.rb d.gw d.vr k := by
    rintro k cur t h1 h3 hk h2 (e | e | e)
    · exact type_ne hk R1.g.blk h1 e
    · exact h2 e
    · obtain ⟨_, c2, hc2⟩ := own_block R1.g.owns e; exact type_ne hk hc2 h3 rfl
  have hvs1 : ∀ k, vs'.ownBlock = some k → d.vr.ownBlock ≠ some k := fun k hk hr => by
    rcases m1 with m | m
    · exact h.ne3 k (m ▸ hk) hr
    · have := m k hk
      obtain ⟨_, c2, hc2⟩ := own_block h.rh.g.owns hr
      have := lt_of_block hc2
      omega
  have hP2 := h1.fr f2 (keyH _ _ _ (by decide) (by decide) h1.hp (fun e => type_ne h1.hp hcg (by decide) e)) (keyH _ _ _ (by decide) (by decide) h1.tg.t.td (fun e => type_ne h1.tg.t.td hcg (by decide) e)) (keyH _ _ _ (by decide) (by decide) h1.cg.cg (fun e => type_ne h1.cg.cg hcg (by decide) e))
    (by
      rintro (e | e | e)
      · exact h1.mapNe R1.g.blk e.symm
      · exact h1.mapNe hcg e.symm
      · obtain ⟨_, c2, hc2⟩ := own_block R1.g.owns e; exact h1.mapNe hc2 rfl)
    (keyH _ _ _ (by decide) (by decide) h1.tg.t.wb h.ne1)
    (fun k hk => by
      obtain ⟨_, c2, hc2⟩ := own_block h1.tg.o hk
      rintro (e | e | e)
      · exact type_ne hc2 R1.g.blk (by decide) e
      · exact type_ne hc2 hcg (by decide) e
      · exact hvs1 k hk e)
  have hKf : ∀ k, d.kept k → ¬ d.foot pb k := hsep
  have hlen : (pcommitW d.ws d.now).length = d.ws.length := pcommitW_len _ _
  have hgw1 : d.g < w1.heap.size := lt_of_block h1.tg.t.wb
  refine ⟨⟨f2.heap hblk1 (keyH _ _ _ (by decide) (by decide) hblk1 (fun e => type_ne hblk1 hcg (by decide) e)), hP2, h2, (commit_good h.hw h48).1, hF.owns h.a (fun k hk => hKf k (.inl hk)), hF.owns h.l (fun k hk => hKf k (.inr (.inl hk))), hF.owns h.n (fun k hk => hKf k (.inr (.inr hk))), fun hs => (h.la hs).trans hlen.symm, h.ln.trans hlen.symm, h.ua, h.un, fun s hs => by rw [show (pcommitW d.ws d.now).length = d.ws.length from hlen]; exact h.us s hs, fun s hs => ?_, ⟨?_, by have := h.big.2; simp only; omega⟩, h.ne1, by simp only; omega, fun k hk hr => ?_⟩, hF, fun k hk => ?_⟩
  · rw [show (pcommitW d.ws d.now).length = d.ws.length from hlen]
    rcases List.mem_append.1 hs with hs | hs
    · exact h.ut s hs
    · exact commit_inW h.hw h.ph.unow h48 s hs
  · have := h.big.1
    have := commit_stlen h48
    simp only [List.length_append]
    omega
  · simp only at hk hr
    rcases m2 with m | m
    · exact hvs1 k hk (m ▸ hr)
    · have := m k hr
      obtain ⟨_, c2, hc2⟩ := own_block h1.tg.o hk
      have := lt_of_block hc2
      omega
  · rcases hk with e | e | e | e | e | e | e | e | e | e | e
    · exact .inl (.inl e)
    · exact .inl (.inr (.inl e))
    · exact .inl (.inr (.inr (.inl e)))
    · exact .inl (.inr (.inr (.inr (.inl e))))
    · exact .inl (.inr (.inr (.inr (.inr (.inl e)))))
    · exact .inl (.inr (.inr (.inr (.inr (.inr (.inl e))))))
    · rcases m1 with m | m
      · exact .inl (.inr (.inr (.inr (.inr (.inr (.inr (.inl (m ▸ e))))))))
      · exact .inr (m k e)
    · exact .inl (.inr (.inr (.inr (.inr (.inr (.inr (.inr (.inl e))))))))
    · exact .inl (.inr (.inr (.inr (.inr (.inr (.inr (.inr (.inr (.inl e)))))))))
    · exact .inr (by simp only at e; omega)
    · rcases m2 with m | m
      · exact .inl (.inr (.inr (.inr (.inr (.inr (.inr (.inr (.inr (.inr (.inr (m ▸ e)))))))))))
      · exact .inr (by have := m k e; omega)
/-- behind Rollback of both -/
theorem rollback (h : Duo d N pb w) (hsep : ∀ k, d.kept k → ¬ d.foot pb k) {w1 w2 : World} (h1 : PH d.hb d.tb d.cb d.mb d.g d.vs d.ws d.ws d.st w1) (f1 : Fr (fun k => k = d.mb) w w1)
    {gn' cn' : Nat} (hg : w1.heap.size ≤ gn') (h2 : RHG d.rb d.gw d.cw d.L (.slice (some ⟨gn', 0, none⟩) d.L cn') d.vr d.ws d.st w2) (h3 : w2.ownsRow 0 50 1 (.slice (some ⟨gn', 0, none⟩) d.L cn') d.L (d.ws.map (Value.int .u64))) (f2 : Fr (fun k => k = d.rb) w1 w2) :
    Duo { d with gn := gn', cn := cn', now := d.ws } N pb w2 ∧ Fr (d.foot pb) w w2 ∧ ∀ k, DV.foot { d with gn := gn', cn := cn', now := d.ws } pb k → d.foot pb k ∨ w.heap.size ≤ k := by
  have hs1 := f1.size
  have R1 := h.rhMap f1
  have hmb : d.foot pb d.mb := .inr (.inr (.inr (.inr (.inl rfl))))
  have hrb : d.foot pb d.rb := .inr (.inr (.inr (.inr (.inr (.inr (.inr (.inl rfl)))))))
  have hF : Fr (d.foot pb) w w2 := (f1.mono (fun k _ hk => hk ▸ hmb)).trans f2 (fun k _ hk => hk ▸ hrb)
  have hblk1 := f1.heap h.blk (h.ph.mapNe h.blk)
  have hlt : d.gw < w1.heap.size ∧ d.g < w1.heap.size := by
    obtain ⟨_, c, hc⟩ := own_block R1.g.ownw (g := d.gw) rfl
    exact ⟨lt_of_block hc, lt_of_block h1.tg.t.wb⟩
  refine ⟨⟨f2.heap hblk1 (fun e => type_ne hblk1 R1.g.blk (by decide) e), h1.fr f2 (fun e => type_ne h1.hp R1.g.blk (by decide) e) (fun e => type_ne h1.tg.t.td R1.g.blk (by decide) e) (fun e => type_ne h1.cg.cg R1.g.blk (by decide) e) (fun e => h1.mapNe R1.g.blk e.symm) (fun e => type_ne h1.tg.t.wb R1.g.blk (by decide) e) (fun k hk e => by obtain ⟨_, c2, hc2⟩ := own_block h1.tg.o hk; exact type_ne hc2 R1.g.blk (by decide) e),
    ⟨h2, h3, h2.lenw, by simp only; omega⟩, h.hw.back, hF.owns h.a (fun k hk => hsep k (.inl hk)), hF.owns h.l (fun k hk => hsep k (.inr (.inl hk))), hF.owns h.n (fun k hk => hsep k (.inr (.inr hk))), h.la, h.ln, h.ua, h.un, h.us, h.ut, h.big, h.ne1, by simp only; omega, h.ne3⟩, hF, fun k hk => ?_⟩
  rcases hk with e | e | e | e | e | e | e | e | e | e | e
  · exact .inl (.inl e)
  · exact .inl (.inr (.inl e))
  · exact .inl (.inr (.inr (.inl e)))
  · exact .inl (.inr (.inr (.inr (.inl e))))
  · exact .inl (.inr (.inr (.inr (.inr (.inl e)))))
  · exact .inl (.inr (.inr (.inr (.inr (.inr (.inl e))))))
  · exact .inl (.inr (.inr (.inr (.inr (.inr (.inr (.inl e)))))))
  · exact .inl (.inr (.inr (.inr (.inr (.inr (.inr (.inr (.inl e))))))))
  · exact .inl (.inr (.inr (.inr (.inr (.inr (.inr (.inr (.inr (.inl e)))))))))
  · exact .inr (by simp only at e; omega)
  · exact .inl (.inr (.inr (.inr (.inr (.inr (.inr (.inr (.inr (.inr (.inr e))))))))))
end Duo
end Go.Proofs.YtbagcjlimdilpaaGreat
