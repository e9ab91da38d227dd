/- A pair of heaps behind Stores ('told'). -/
import Derived.Test.YtbagcjlimdilpaaGreatHhJ20
import Derived.Test.YtbagcjlimdilpaaGreatHhHxJ
namespace Go.Proofs.YtbagcjlimdilpaaGreat
open Go.RowKit Go.Maps

theorem RHN.nil {hb gw cw gn cn L : Nat} {vs : Value} {ws now : List Int} {st : List St} {w : World} (h : RHN hb gw cw gn cn L vs ws now st w) : RHN hb gw cw gn cn L (.slice none 0 0) ws now [] (w.setCell ⟨hb, 2, none⟩ (.slice none 0 0)) := by
  have hf : Fr (fun k => k = hb) w (w.setCell ⟨hb, 2, none⟩ (.slice none 0 0)) := (Fr.refl (fun k => k = hb) w).setCell (p := ⟨hb, 2, none⟩) (fun _ => rfl) _
  refine ⟨⟨(heap_setCell_same w hb 2 _ _ _ h.g.blk).trans (by simp), hf.owns h.g.ownw (fun k hk e => ?_), World.ownsRow_nil _ _ _ _, h.g.lenw, h.g.n0⟩, hf.owns h.ownn (fun k hk e => ?_), h.len, h.ne⟩
  · obtain ⟨_, c, hc⟩ := own_block h.g.ownw hk; exact type_ne hc h.g.blk (by decide) e
  · obtain ⟨_, c, hc⟩ := own_block h.ownn hk; exact type_ne hc h.g.blk (by decide) e
section
variable {col col' : Nat → Nat} {X : Rest} {B b c N : Nat} {vws : Value} {nw : Nat} {xs : List Value} {vb : Value} {es : List Entry} {ps : List Nat} {ss os : List EntE} {w : World}
/-- behind calls of one pair, and one more list of stores in the book -/
theorem StaX.turn2 {T : Nat → Prop} {N' : Nat} {w' : World} (S : StaX col X B b c N vws nw xs vb es ps ss os w) (i : Nat) (hi : i < ps.length) (hf : Fr T w w') (hT : ∀ k, k < w.heap.size → T k → (col k = i + 1 ∧ ¬ LT w k) ∨ k = b ∨ X.s.ownBlock = some k) (hc : ∀ k, k < w.heap.size → col k ≠ i + 1 → col' k = col k) (hfr : ∀ k, w'.heap.size ≤ k → col' k = 0)
    (hd : DuoAt col' (i + 1) N' ps[i] w') (hN : N ≤ N') {vss' : Value} {ss' : List EntE} (hbk : Wb w' b vws X.h (c + 1) vb vss' X.o) (hrs : w'.ownsRow B 149 5 vss' ss'.length (entCells ss')) (hgs : ∀ e ∈ ss', e.good 122 3 mkS (fun k => col' k = 0) w') (hls : ss'.length ≤ c + 1) (hcN : c + 1 ≤ N') :
    StaX col' ⟨X.h, vss', X.o⟩ B b (c + 1) N' vws nw xs vb es ps ss' os w' ∧ Below B w w' := by
  have hf' : Fr (fun k => (col k = i + 1 ∧ ¬ LT w k) ∨ k = b ∨ X.s.ownBlock = some k) w w' := hf.mono (fun k hk ht => hT k hk ht)
  have h0 : ∀ k, k < w.heap.size → col k = 0 → col' k = 0 := fun k hk h => by rw [hc k hk (by omega)]; exact h
  have hsb : ∀ k cur t, t ≠ 149 → w.heap[k]? = some (.cells cur t (0, 0)) → ¬ X.s.ownBlock = some k := fun k cur t ht hk e => by
    obtain ⟨_, cur', hh⟩ := own_block S.s.rs e; exact type_ne hk hh ht rfl
  have hL : ∀ {B' : Nat} {e : TypeId} {size : Nat} {v : Value} {n : Nat} {ys : List Value}, LTy e → e ≠ 88 → e ≠ 149 → w.ownsRow B' e size v n ys → w'.ownsRow B' e size v n ys := fun he h1 h2 ho => hf'.owns ho (fun g hg ht => by
    obtain ⟨_, cur, hh⟩ := own_block ho hg
    rcases ht with h | h | h
    · exact h.2 ⟨_, _, hh, he⟩
    · exact type_ne hh S.p.bk h1 h
    · exact hsb g cur _ h2 hh h)
  have hU : ∀ k cur t, t ≠ 88 → t ≠ 149 → w.heap[k]? = some (.cells cur t (0, 0)) → col k = 0 → ¬ ((col k = i + 1 ∧ ¬ LT w k) ∨ k = b ∨ X.s.ownBlock = some k) := by
    rintro k cur t h1 h2 hk hk0 (h | h | h)
    · omega
    · exact type_ne hk S.p.bk h1 h
    · exact hsb k cur t h2 hk h
  refine ⟨⟨⟨hbk, hL (.inr (.inl rfl)) (by decide) (by decide) S.p.ws, hL (.inr (.inr (.inl rfl))) (by decide) (by decide) S.p.own, fun e he => ?_, fun e he v hv g hg => ?_, S.p.few, Nat.le_trans S.p.les (Nat.le_succ _), S.p.base, hfr⟩, fun v hv => ?_, ⟨hL (.inr (.inr (.inr (.inr (.inr rfl))))) (by decide) (by decide) S.s.hs, S.s.few, fun j hj => ?_, hrs, hgs, hL (.inr (.inr (.inr (.inr (.inl rfl))))) (by decide) (by decide) S.s.ro, fun e he => ?_, hls, Nat.le_trans S.s.lo (Nat.le_succ _)⟩, hcN, fun k hk => h0 k (Nat.lt_of_lt_of_le hk S.p.size) (S.old k hk)⟩, hf'.below S.p.size (fun k hk ht => ?_)⟩
  · have hk := S.p.kept e he
    obtain ⟨⟨k0, q0⟩, ⟨k1, q1⟩, ⟨k2, q2⟩, ⟨k3, q3⟩⟩ := S.p.good e he
    have key : ∀ v ∈ [e.l, e.a, e.b, e.c], ∀ {k : Nat}, Own 0 w v (List.replicate k e.m) → Own 0 w' v (List.replicate k e.m) := fun v hv k ho => hf'.owns ho (fun g hg => by
      obtain ⟨_, cur, hh⟩ := own_block ho hg
      exact hU g cur _ (by decide) (by decide) hh (hk v hv g hg))
    exact ⟨⟨k0, key _ (by simp) q0⟩, ⟨k1, key _ (by simp) q1⟩, ⟨k2, key _ (by simp) q2⟩, ⟨k3, key _ (by simp) q3⟩⟩
  · have hg0 := S.p.kept e he v hv g hg
    refine h0 g ?_ hg0
    obtain ⟨⟨k0, q0⟩, ⟨k1, q1⟩, ⟨k2, q2⟩, ⟨k3, q3⟩⟩ := S.p.good e he
    simp only [List.mem_cons, List.not_mem_nil, or_false] at hv
    rcases hv with rfl | rfl | rfl | rfl
    · obtain ⟨_, cur, hh⟩ := own_block q0 hg; exact lt_of_block hh
    · obtain ⟨_, cur, hh⟩ := own_block q1 hg; exact lt_of_block hh
    · obtain ⟨_, cur, hh⟩ := own_block q2 hg; exact lt_of_block hh
    · obtain ⟨_, cur, hh⟩ := own_block q3 hg; exact lt_of_block hh
  · obtain ⟨zs, ho, h1, h2, h3⟩ := S.i v hv
    refine ⟨zs, hf'.owns ho (fun g hg => ?_), h1, h2, fun g hg => h0 g ?_ (h3 g hg)⟩
    · obtain ⟨_, cur, hh⟩ := own_block ho hg; exact hU g cur _ (by decide) (by decide) hh (h3 g hg)
    · obtain ⟨_, cur, hh⟩ := own_block ho hg; exact lt_of_block hh
  · by_cases hj' : j = i
    · subst hj'; exact hd
    · refine (S.s.du j hj).fr hf' (fun k hk hn => ?_) (fun k hk h => hc k hk (by omega)) hN
      rcases hk with h | h | h
      · exact ⟨by omega, by omega⟩
      · exact absurd ⟨_, _, h ▸ S.p.bk, .inl rfl⟩ hn
      · obtain ⟨_, cur', hh⟩ := own_block S.s.rs h; exact absurd ⟨_, _, hh, .inr (.inr (.inr (.inl rfl)))⟩ hn
  · exact EntE.good_fr (S.s.go e he) hf' (fun g cur hg (h : col g = 0) => hU g cur _ (by decide) (by decide) hg h) (fun k hk h => h0 k hk h)
  · rcases ht with h | h | h
    · have := S.old k hk; omega
    · have := S.p.base; omega
    · have := (own_block S.s.rs h).1; omega
/-- the end of 'told' -/
theorem told_end (S : StaX col X B b c N vws nw xs vb es ps ss os w) (i : Nat) (hi : i < ps.length) {d : DV} (D : Duo d N ps[i] w) (hc1 : ∀ k, d.foot ps[i] k → col k = i + 1) (hc0 : ∀ k, d.kept k → col k = 0) (hN : N ≤ 1099510000000)
    {W w1 w2 w3 w8 : World} (hW : Fr New w W) (h1 : PH d.hb d.tb d.cb d.mb d.g (.slice none 0 0) d.ws d.now [] w1) (f1 : Fr (fun k => k = d.tb) W w1) (f2 : Fr New w1 w2) {vss' l1 l2 l3 : Value}
    (b1 : Wb w3 b vws X.h (c + 1) vb vss' X.o) (b2 : w3.ownsRow B 149 5 vss' (ss.length + 1) (entCells ss ++ [d.vs, l1, l2, l3, .int .i64 (1000 + ((c + 1 : Nat) : Int))])) (b3 : ∀ u ∈ [d.vs, l1, l2, l3], ∃ k, k ≤ d.st.length + 3 ∧ FullE 122 3 (mkS (1000 + ((c + 1 : Nat) : Int))) w3 u k)
    (b4 : ∀ u ∈ [d.vs, l1, l2, l3], ∀ k, u.ownBlock = some k → w2.heap.size ≤ k ∨ d.vs.ownBlock = some k) (b5 : Fr (TurnE b d.vs X.s) w2 w3) (f8 : Fr New (((w3.setCell ⟨ps[i], 2, none⟩ d.vn).setCell ⟨ps[i], 3, none⟩ d.vr).setCell ⟨d.rb, 2, none⟩ (.slice none 0 0)) w8)
    {g7 c7 : Nat} (hg7 : w3.heap.size ≤ g7) (o8 : w8.ownsRow 0 50 1 (.slice (some ⟨g7, 0, none⟩) d.ws.length c7) d.ws.length (d.ws.map (Value.int .u64))) :
    Below B w (w8.setCell ⟨ps[i], 4, none⟩ (.slice (some ⟨g7, 0, none⟩) d.ws.length c7)) ∧ Sta B b (N + 200) (w8.setCell ⟨ps[i], 4, none⟩ (.slice (some ⟨g7, 0, none⟩) d.ws.length c7)) := by
  have DW := D.new hW
  have SW := S.new hW
  have hsep : ∀ k, d.kept k → ¬ d.foot ps[i] k := fun k hk hf => by have := hc1 k hf; have := hc0 k hk; omega
  have h12 : Fr (fun k => k = d.tb) W w2 := f1.same f2
  -- blocks of other kinds are not turned by 'stores'
  have P2 : w2.heap[b]? = some (.cells #[vws, X.h, .int .i64 (c : Int), vb, X.s, X.o] 88 (0, 0)) := h12.heap SW.p.bk (fun e => type_ne SW.p.bk DW.ph.tg.t.td (by decide) e)
  have hS2 : w2.ownsRow B 149 5 X.s ss.length (entCells ss) := h12.owns SW.s.rs (fun k hk e => by obtain ⟨_, cc, hh⟩ := own_block SW.s.rs hk; exact type_ne hh DW.ph.tg.t.td (by decide) e)
  have hvs2 : w2.ownsRow 0 122 3 d.vs d.st.length (stsCells d.st) := h12.owns DW.ph.tg.o (fun k hk e => by obtain ⟨_, cc, hh⟩ := own_block DW.ph.tg.o hk; exact type_ne hh DW.ph.tg.t.td (by decide) e)
  have kE : ∀ k cur t, t ≠ 88 → t ≠ 122 → t ≠ 149 → w2.heap[k]? = some (.cells cur t (0, 0)) → ¬ TurnE b d.vs X.s k := by
    rintro k cur t e1 e2 e3 hk (e | e | e)
    · exact type_ne hk P2 e1 e
    · obtain ⟨_, cc, hh⟩ := own_block hvs2 e; exact type_ne hk hh e2 rfl
    · obtain ⟨_, cc, hh⟩ := own_block hS2 e; exact type_ne hk hh e3 rfl
  -- the document's heap
  have RW := DW.rh
  have R2 : RHN d.rb d.gw d.cw d.gn d.cn d.L d.vr d.ws d.now d.st w2 := by
    obtain ⟨_, cA, hA⟩ := own_block RW.g.ownw (g := d.gw) rfl
    obtain ⟨_, cB, hB⟩ := own_block RW.ownn (g := d.gn) rfl
    exact RW.frT h12 (fun e => type_ne RW.g.blk DW.ph.tg.t.td (by decide) e) (fun e => type_ne hA DW.ph.tg.t.td (by decide) e) (fun e => type_ne hB DW.ph.tg.t.td (by decide) e) (fun k hk e => by obtain ⟨_, cc, hh⟩ := own_block RW.g.owns hk; exact type_ne hh DW.ph.tg.t.td (by decide) e)
  have hvr2 : ∀ k, d.vr.ownBlock = some k → ¬ TurnE b d.vs X.s k := fun k hk => by
    obtain ⟨_, cc, hh⟩ := own_block R2.g.owns hk
    rintro (e | e | e)
    · exact type_ne hh P2 (by decide) e
    · exact D.ne3 k e hk
    · obtain ⟨_, c4, h4⟩ := own_block hS2 e; exact type_ne hh h4 (by decide) rfl
  have R3 : RHN d.rb d.gw d.cw d.gn d.cn d.L d.vr d.ws d.now d.st w3 := by
    obtain ⟨_, cA, hA⟩ := own_block R2.g.ownw (g := d.gw) rfl
    obtain ⟨_, cB, hB⟩ := own_block R2.ownn (g := d.gn) rfl
    exact R2.frT b5 (kE _ _ _ (by decide) (by decide) (by decide) R2.g.blk) (kE _ _ _ (by decide) (by decide) (by decide) hA) (kE _ _ _ (by decide) (by decide) (by decide) hB) hvr2
  -- the program's heap
  have Q2 := h1.new f2
  have mE : ¬ TurnE b d.vs X.s d.mb := by
    rintro (e | e | e)
    · exact Q2.mapNe P2 e.symm
    · obtain ⟨_, cc, hh⟩ := own_block hvs2 e; exact Q2.mapNe hh rfl
    · obtain ⟨_, cc, hh⟩ := own_block hS2 e; exact Q2.mapNe hh rfl
  have Q3 := Q2.fr b5 (kE _ _ _ (by decide) (by decide) (by decide) Q2.hp) (kE _ _ _ (by decide) (by decide) (by decide) Q2.tg.t.td) (kE _ _ _ (by decide) (by decide) (by decide) Q2.cg.cg) mE (kE _ _ _ (by decide) (by decide) (by decide) Q2.tg.t.wb) (fun k hk => by cases hk)
  -- the pair's own block
  have blk2 : w2.heap[ps[i]]? = some (.cells #[.pointer (some ⟨d.hb, 0, none⟩), .pointer (some ⟨d.rb, 0, none⟩), d.va, d.vl, d.vn] 136 (0, 0)) := h12.heap DW.blk (fun e => type_ne DW.blk DW.ph.tg.t.td (by decide) e)
  have blk3 := b5.heap blk2 (kE _ _ _ (by decide) (by decide) (by decide) blk2)
  obtain ⟨pb, hpb⟩ : ∃ pb, pb = ps[i] := ⟨_, rfl⟩
  rw [← hpb] at blk2 blk3 f8 ⊢
  obtain ⟨w5, hw5⟩ : ∃ w5, w5 = (w3.setCell ⟨pb, 2, none⟩ d.vn).setCell ⟨pb, 3, none⟩ d.vr := ⟨_, rfl⟩
  rw [← hw5] at f8
  have f5 : Fr (fun k => k = pb) w3 w5 := by rw [hw5]; exact ((Fr.refl (fun k => k = pb) w3).setCell (p := ⟨pb, 2, none⟩) (fun _ => rfl) _).setCell (p := ⟨pb, 3, none⟩) (fun _ => rfl) _
  have blk5 : w5.heap[pb]? = some (.cells #[.pointer (some ⟨d.hb, 0, none⟩), .pointer (some ⟨d.rb, 0, none⟩), d.vn, d.vr, d.vn] 136 (0, 0)) := by
    have b4' : (w3.setCell ⟨pb, 2, none⟩ d.vn).heap[pb]? = some (.cells #[.pointer (some ⟨d.hb, 0, none⟩), .pointer (some ⟨d.rb, 0, none⟩), d.vn, d.vl, d.vn] 136 (0, 0)) := (heap_setCell_same w3 pb 2 _ _ _ blk3).trans (by simp)
    rw [hw5]
    exact (heap_setCell_same _ pb 3 _ _ _ b4').trans (by simp)
  have kP : ∀ k cur t, t ≠ 136 → w3.heap[k]? = some (.cells cur t (0, 0)) → ¬ k = pb := fun k cur t ht hk e => type_ne hk blk3 ht e
  have R5 : RHN d.rb d.gw d.cw d.gn d.cn d.L d.vr d.ws d.now d.st w5 := by
    obtain ⟨_, cA, hA⟩ := own_block R3.g.ownw (g := d.gw) rfl
    obtain ⟨_, cB, hB⟩ := own_block R3.ownn (g := d.gn) rfl
    exact R3.frT f5 (kP _ _ _ (by decide) R3.g.blk) (kP _ _ _ (by decide) hA) (kP _ _ _ (by decide) hB) (fun k hk => by obtain ⟨_, cc, hh⟩ := own_block R3.g.owns hk; exact kP _ _ _ (by decide) hh)
  have Q5 := Q3.fr f5 (kP _ _ _ (by decide) Q3.hp) (kP _ _ _ (by decide) Q3.tg.t.td) (kP _ _ _ (by decide) Q3.cg.cg) (fun e => Q3.mapNe blk3 e.symm) (kP _ _ _ (by decide) Q3.tg.t.wb) (fun k hk => by cases hk)
  obtain ⟨w6, hw6⟩ : ∃ w6, w6 = w5.setCell ⟨d.rb, 2, none⟩ (.slice none 0 0) := ⟨_, rfl⟩
  rw [← hw6] at f8
  have f6 : Fr (fun k => k = d.rb) w5 w6 := by rw [hw6]; exact (Fr.refl (fun k => k = d.rb) w5).setCell (p := ⟨d.rb, 2, none⟩) (fun _ => rfl) _
  have R6 : RHN d.rb d.gw d.cw d.gn d.cn d.L (.slice none 0 0) d.ws d.now [] w6 := by rw [hw6]; exact R5.nil
  have kR : ∀ k cur t, t ≠ 141 → w5.heap[k]? = some (.cells cur t (0, 0)) → ¬ k = d.rb := fun k cur t ht hk e => type_ne hk R5.g.blk ht e
  have Q6 := Q5.fr f6 (kR _ _ _ (by decide) Q5.hp) (kR _ _ _ (by decide) Q5.tg.t.td) (kR _ _ _ (by decide) Q5.cg.cg) (fun e => Q5.mapNe R5.g.blk e.symm) (kR _ _ _ (by decide) Q5.tg.t.wb) (fun k hk => by cases hk)
  have blk8 := f8.heap (f6.heap blk5 (kR _ _ _ (by decide) blk5)) id
  have R8 := R6.fr f8
  have Q8 := Q6.new f8
  obtain ⟨w9, hw9⟩ : ∃ w9, w9 = w8.setCell ⟨pb, 4, none⟩ (.slice (some ⟨g7, 0, none⟩) d.ws.length c7) := ⟨_, rfl⟩
  rw [← hw9]
  have f9 : Fr (fun k => k = pb) w8 w9 := by rw [hw9]; exact (Fr.refl (fun k => k = pb) w8).setCell (p := ⟨pb, 4, none⟩) (fun _ => rfl) _
  have blk9 : w9.heap[pb]? = some (.cells #[.pointer (some ⟨d.hb, 0, none⟩), .pointer (some ⟨d.rb, 0, none⟩), d.vn, d.vr, .slice (some ⟨g7, 0, none⟩) d.ws.length c7] 136 (0, 0)) := by
    rw [hw9]
    exact (heap_setCell_same w8 pb 4 _ _ _ blk8).trans (by simp)
  have k9 : ∀ k cur t, t ≠ 136 → w8.heap[k]? = some (.cells cur t (0, 0)) → ¬ k = pb := fun k cur t ht hk e => type_ne hk blk8 ht e
  have R9 : RHN d.rb d.gw d.cw d.gn d.cn d.L (.slice none 0 0) d.ws d.now [] w9 := by
    obtain ⟨_, cA, hA⟩ := own_block R8.g.ownw (g := d.gw) rfl
    obtain ⟨_, cB, hB⟩ := own_block R8.ownn (g := d.gn) rfl
    exact R8.frT f9 (k9 _ _ _ (by decide) R8.g.blk) (k9 _ _ _ (by decide) hA) (k9 _ _ _ (by decide) hB) (fun k hk => by cases hk)
  have Q9 := Q8.fr f9 (k9 _ _ _ (by decide) Q8.hp) (k9 _ _ _ (by decide) Q8.tg.t.td) (k9 _ _ _ (by decide) Q8.cg.cg) (fun e => Q8.mapNe blk8 e.symm) (k9 _ _ _ (by decide) Q8.tg.t.wb) (fun k hk => by cases hk)
  -- all that is turned
  have f39 : Fr (fun k => k = pb ∨ k = d.rb) w3 w9 := (((f5.mono (fun _ _ e => .inl e)).trans f6 (fun _ _ e => .inr e)).same f8).trans f9 (fun _ _ e => .inl e)
  have F : Fr (fun k => d.foot pb k ∨ k = b ∨ X.s.ownBlock = some k) w w9 := by
    have g1 : Fr (fun k => d.foot pb k ∨ k = b ∨ X.s.ownBlock = some k) w w2 := (hW.mono (fun _ _ h => h.elim)).trans h12 (fun k _ e => .inl (.inr (.inr (.inl e))))
    have g2 := g1.trans b5 (fun k _ ht => by
      rcases ht with e | e | e
      · exact .inr (.inl e)
      · exact .inl (.inr (.inr (.inr (.inr (.inr (.inr (.inl e)))))))
      · exact .inr (.inr e))
    exact g2.trans f39 (fun k _ ht => by
      rcases ht with e | e
      · exact .inl (.inl e)
      · exact .inl (.inr (.inr (.inr (.inr (.inr (.inr (.inr (.inl e)))))))))
  have hs3 : w.heap.size ≤ w3.heap.size := Nat.le_trans hW.size (Nat.le_trans h12.size b5.size)
  have hs9 : w3.heap.size ≤ w9.heap.size := f39.size
  -- the rows that stay
  have kept9 : ∀ {v : Value} {t : TypeId} {sz n : Nat} {ys : List Value}, t ≠ 136 → t ≠ 141 → w3.ownsRow 0 t sz v n ys → w9.ownsRow 0 t sz v n ys := fun ht ht2 ho => f39.owns ho (fun k hk e => by
    obtain ⟨_, cc, hh⟩ := own_block ho hk
    rcases e with e | e
    · exact type_ne hh blk3 ht e
    · exact type_ne hh R3.g.blk ht2 e)
  have hn3 : w3.ownsRow 0 50 1 d.vn d.zn.length (d.zn.map (Value.int .u64)) := by
    have a2 : w2.ownsRow 0 50 1 d.vn d.zn.length (d.zn.map (Value.int .u64)) := h12.owns DW.n (fun k hk e => by obtain ⟨_, cc, hh⟩ := own_block DW.n hk; exact type_ne hh DW.ph.tg.t.td (by decide) e)
    exact b5.owns a2 (fun k hk => by obtain ⟨_, cc, hh⟩ := own_block a2 hk; exact kE _ _ _ (by decide) (by decide) (by decide) hh)
  have hg9 : w9.ownsRow 0 50 1 (.slice (some ⟨g7, 0, none⟩) d.ws.length c7) d.ws.length (d.ws.map (Value.int .u64)) := f9.owns o8 (fun k hk => by obtain ⟨_, cc, hh⟩ := own_block o8 hk; exact k9 _ _ _ (by decide) hh)
  obtain ⟨col2, hcol2⟩ : ∃ col2 : Nat → Nat, col2 = fun k => if d.vs.ownBlock = some k ∨ d.vr.ownBlock = some k then 0 else col k := ⟨_, rfl⟩
  have hcl : ∀ k, col2 k = if d.vs.ownBlock = some k ∨ d.vr.ownBlock = some k then 0 else col k := fun k => by rw [hcol2]
  have hfoot : ∀ k, (d.vs.ownBlock = some k ∨ d.vr.ownBlock = some k) → d.foot pb k := by
    rintro k (e | e)
    · exact .inr (.inr (.inr (.inr (.inr (.inr (.inl e))))))
    · exact .inr (.inr (.inr (.inr (.inr (.inr (.inr (.inr (.inr (.inr e)))))))))
  have hz : ∀ k, col k = 0 → col2 k = 0 := fun k h => by rw [hcl]; split <;> simp [h]
  rw [← hpb] at hc1 hsep D
  have hd : DuoAt col2 (i + 1) (N + 200) pb w9 := by
    refine ⟨{ d with vs := .slice none 0 0, st := [], vr := .slice none 0 0, va := d.vn, za := d.zn, vl := d.vr, sl := d.st, vn := .slice (some ⟨g7, 0, none⟩) d.ws.length c7, zn := d.ws }, ⟨blk9, Q9, R9, D.hw, kept9 (by decide) (by decide) hn3, kept9 (by decide) (by decide) R3.g.owns, hg9, fun _ => D.ln, rfl, D.un, D.ph.uw, D.ut, fun s hs => (by cases hs), ⟨by simp, by have := D.big.1; simp only; omega⟩, D.ne1, D.ne2, fun k hk => (by cases hk)⟩, fun k hk => ?_, fun k hk => ?_⟩
    · have hk' : d.foot pb k ∧ ¬ (d.vs.ownBlock = some k ∨ d.vr.ownBlock = some k) := by
        have hvsT : ∀ k cur t, t ≠ 122 → w.heap[k]? = some (.cells cur t (0, 0)) → ¬ (d.vs.ownBlock = some k ∨ d.vr.ownBlock = some k) := by
          rintro k cur t ht hk (e | e)
          · obtain ⟨_, cc, hh⟩ := own_block D.ph.tg.o e; exact type_ne hk hh ht rfl
          · obtain ⟨_, cc, hh⟩ := own_block D.rh.g.owns e; exact type_ne hk hh ht rfl
        rcases hk with e | e | e | e | e | e | e | e | e | e | e
        · exact ⟨.inl e, by subst e; exact hvsT _ _ _ (by decide) D.blk⟩
        · exact ⟨.inr (.inl e), by subst e; exact hvsT _ _ _ (by decide) D.ph.hp⟩
        · exact ⟨.inr (.inr (.inl e)), by subst e; exact hvsT _ _ _ (by decide) D.ph.tg.t.td⟩
        · exact ⟨.inr (.inr (.inr (.inl e))), by subst e; exact hvsT _ _ _ (by decide) D.ph.cg.cg⟩
        · refine ⟨.inr (.inr (.inr (.inr (.inl e)))), ?_⟩
          subst e
          rintro (e | e)
          · obtain ⟨_, cc, hh⟩ := own_block D.ph.tg.o e; exact D.ph.mapNe hh rfl
          · obtain ⟨_, cc, hh⟩ := own_block D.rh.g.owns e; exact D.ph.mapNe hh rfl
        · exact ⟨.inr (.inr (.inr (.inr (.inr (.inl e))))), by subst e; exact hvsT _ _ _ (by decide) D.ph.tg.t.wb⟩
        · cases e
        · exact ⟨.inr (.inr (.inr (.inr (.inr (.inr (.inr (.inl e))))))), by subst e; exact hvsT _ _ _ (by decide) D.rh.g.blk⟩
        · refine ⟨.inr (.inr (.inr (.inr (.inr (.inr (.inr (.inr (.inl e)))))))), ?_⟩
          subst e
          obtain ⟨_, cA, hA⟩ := own_block D.rh.g.ownw (g := d.gw) rfl
          exact hvsT _ _ _ (by decide) hA
        · refine ⟨.inr (.inr (.inr (.inr (.inr (.inr (.inr (.inr (.inr (.inl e))))))))), ?_⟩
          subst e
          obtain ⟨_, cA, hA⟩ := own_block D.rh.ownn (g := d.gn) rfl
          exact hvsT _ _ _ (by decide) hA
        · cases e
      rw [hcl, if_neg hk'.2]
      exact hc1 k hk'.1
    · rcases hk with e | e | e
      · exact hz k (hc0 k (.inr (.inr e)))
      · rw [hcl, if_pos (.inr e)]
      · simp [Value.ownBlock] at e
        exact hz k (S.p.fresh k (by omega))
  have hgood : ∀ e ∈ ss ++ [(⟨d.vs, l1, l2, l3, 1000 + ((c + 1 : Nat) : Int)⟩ : EntE)], e.good 122 3 mkS (fun k => col2 k = 0) w9 := fun e he => by
    rcases List.mem_append.1 he with he | he
    · refine EntE.good_fr (S.s.gs e he) F (fun g cur hg (h : col g = 0) ht => ?_) (fun k _ h => hz k h)
      rcases ht with ht | ht | ht
      · have := hc1 g ht; omega
      · exact type_ne hg S.p.bk (by decide) ht
      · obtain ⟨_, cc, hh⟩ := own_block S.s.rs ht; exact type_ne hg hh (by decide) rfl
    · obtain rfl : e = ⟨d.vs, l1, l2, l3, 1000 + ((c + 1 : Nat) : Int)⟩ := by simpa using he
      intro u hu
      obtain ⟨k, q1, q2⟩ := b3 u hu
      refine ⟨⟨k, by have := D.big.1; omega, kept9 (by decide) (by decide) q2⟩, fun g hg => ?_⟩
      rcases b4 u hu g hg with h | h
      · exact hz g (S.p.fresh g (by have := h12.size; have := hW.size; omega))
      · rw [hcl, if_pos (.inl h)]
  have hbk9 : Wb w9 b vws X.h (c + 1) vb vss' X.o := f39.heap b1 (fun e => by
    rcases e with e | e
    · exact type_ne b1 blk3 (by decide) e
    · exact type_ne b1 R3.g.blk (by decide) e)
  have hrs9 : w9.ownsRow B 149 5 vss' (ss ++ [(⟨d.vs, l1, l2, l3, 1000 + ((c + 1 : Nat) : Int)⟩ : EntE)]).length (entCells (ss ++ [⟨d.vs, l1, l2, l3, 1000 + ((c + 1 : Nat) : Int)⟩])) := by
    rw [List.length_append, entCells_snoc]
    exact f39.owns b2 (fun k hk e => by
      obtain ⟨_, cc, hh⟩ := own_block b2 hk
      rcases e with e | e
      · exact type_ne hh blk3 (by decide) e
      · exact type_ne hh R3.g.blk (by decide) e)
  rw [hpb] at hd F hc1 D
  obtain ⟨q1, q2⟩ := S.turn2 i hi F (fun k _ ht => ht.imp (fun h => ⟨hc1 k h, D.notL (.inl h)⟩) id) (fun k _ h => by rw [hcl, if_neg (fun e => h (by have := hc1 k (hpb ▸ hfoot k e); exact this))]) (fun k hk => hz k (S.p.fresh k (by omega))) hd (by omega) hbk9 hrs9 hgood (by have := S.s.ls; simp; omega) (by have := S.cN; omega)
  exact ⟨q2, _, _, _, _, _, _, _, _, _, _, _, q1⟩
end
end Go.Proofs.YtbagcjlimdilpaaGreat
