/- The walk of a story's commit. -/
import Derived.Test.YtbagcjlimdilpaaGreatKtKqF
namespace Go.Proofs.YtbagcjlimdilpaaGreat
open Go.RowKit Go.Maps

/-- what turns no block of things -/
theorem Sty.turned {sb n hb tb cb mb g : Nat} {vs vn vk : Value} {un uk : List Value} {ws now : List Int} {sts : List St} {w w1 : World} (h : Sty sb n hb tb cb mb g vs vn vk un uk ws now sts w) (hf : Fr (TurnedP tb mb g vs) w w1) :
    w1.heap[sb]? = some (.cells (stArr hb n vn vk now ws) 39 (0, 0)) ∧ ThAt w1 vn (things now) un ∧ ThAt w1 vk (things ws) uk := by
  have hsb : ¬ TurnedP tb mb g vs sb := by
    rintro (e | e | e | e)
    · exact type_ne h.blk h.ph.tg.t.td (by decide) e
    · exact h.ph.mapNe h.blk e
    · exact type_ne h.blk h.ph.tg.t.wb (by decide) e
    · obtain ⟨_, c, hc⟩ := own_block h.ph.tg.o e
      exact type_ne h.blk hc (by decide) rfl
  have hth : ∀ v us l, ThAt w v l us → (∀ u ∈ us, u.ownBlock ≠ some g) → ∀ k, ThB v us k → ¬ TurnedP tb mb g vs k := fun v us l ht hg k hk => by
    rintro (e | e | e | e)
    · subst e; exact ht.no h.ph.tg.t.td (by decide) (by decide) hk
    · subst e
      obtain ⟨D, ⟨es, clock, hm, _⟩, _⟩ := h.ph.cg.mp
      exact ht.noMap hm hk
    · subst e
      rcases hk with hk | ⟨u, hu, hk⟩
      · obtain ⟨_, c, hc⟩ := own_block ht.own hk
        exact type_ne h.ph.tg.t.wb hc (by decide) rfl
      · exact hg u hu hk
    · obtain ⟨_, c, hc⟩ := own_block h.ph.tg.o e
      exact ht.no hc (by decide) (by decide) hk
  exact ⟨hf.heap h.blk hsb, h.tn.fr hf (hth _ _ _ h.tn h.gn), h.tk.fr hf (hth _ _ _ h.tk h.gk)⟩
/-- five cells of a story -/
theorem five_fr (w : World) (sb a : Nat) (v0 v1 v2 v3 v4 : Value) : Fr (fun k => k = sb) w (((((w.setCell ⟨sb, a, none⟩ v0).setCell ⟨sb, a + 1, none⟩ v1).setCell ⟨sb, a + 2, none⟩ v2).setCell ⟨sb, a + 3, none⟩ v3).setCell ⟨sb, a + 4, none⟩ v4) := by
  iterate 5 refine Fr.setCell (T := fun k => k = sb) ?_ (fun _ => rfl) _
  exact Fr.refl _ _
/-- a story whose kept shape is a copy of what is there now -/
theorem keep_end {F : Nat → Prop} {sb n hb tb cb mb g : Nat} {vs vs1 vn vk v2 : Value} {un uk us2 : List Value} {ws now ws1 now1 : List Int} {sts sts1 : List St} {w w1 w2 : World}
    (S : Sty sb n hb tb cb mb g vs vn vk un uk ws now sts w) (hF : ∀ k, Foot sb hb tb cb mb g vs vn vk un uk k → F k) (hf1 : Fr (TurnedP tb mb g vs) w w1) (hph : PH hb tb cb mb g vs1 ws1 now1 sts1 w1) (hmv : Moved w vs vs1) (hhw : HW ws1 now1) (hn : nblk ws1.length = n)
    (e1 : Like now1 now) (e2 : Like ws1 now) (hf2 : Fr New w1 w2) (ht2 : ThAt w2 v2 (things now) us2) (hnew : ∀ k, ThB v2 us2 k → w1.heap.size ≤ k) :
    ∃ F', Story F' sb n ws1 now1 sts1 (((((w2.setCell ⟨sb, 7, none⟩ v2).setCell ⟨sb, 8, none⟩ (.int .i64 (wd now 3))).setCell ⟨sb, 9, none⟩ (.int .i64 (wd now 4))).setCell ⟨sb, 10, none⟩ (.int .i64 (wd now 5))).setCell ⟨sb, 11, none⟩ (.int .i64 (wd now 6))) ∧ Fr F w (((((w2.setCell ⟨sb, 7, none⟩ v2).setCell ⟨sb, 8, none⟩ (.int .i64 (wd now 3))).setCell ⟨sb, 9, none⟩ (.int .i64 (wd now 4))).setCell ⟨sb, 10, none⟩ (.int .i64 (wd now 5))).setCell ⟨sb, 11, none⟩ (.int .i64 (wd now 6))) ∧ ∀ k, F' k → F k ∨ w.heap.size ≤ k := by
  obtain ⟨b1, n1, k1⟩ := S.turned hf1
  have b2 := hf2.heap b1 id
  have hst := five_fr w2 sb 7 v2 (.int .i64 (wd now 3)) (.int .i64 (wd now 4)) (.int .i64 (wd now 5)) (.int .i64 (wd now 6))
  have hgs : g < w1.heap.size := lt_of_block hph.tg.t.wb
  have hTP : ∀ k, TurnedP tb mb g vs k → F k := fun k hk => by
    rcases hk with e | e | e | e
    · exact hF k (.inr (.inr (.inl e)))
    · exact hF k (.inr (.inr (.inr (.inr (.inl e)))))
    · exact hF k (.inr (.inr (.inr (.inr (.inr (.inl e))))))
    · exact hF k (.inr (.inr (.inr (.inr (.inr (.inr (.inl e)))))))
  refine ⟨Foot sb hb tb cb mb g vs1 vn v2 un us2, ⟨hb, tb, cb, mb, g, vs1, vn, v2, un, us2, ⟨?_, (hph.new hf2).story b2 hst, hhw, ?_, ?_, hn, S.gn, fun u hu e => ?_, fun u hu u' hu' e => ?_⟩, fun k hk => hk⟩, ?_, fun k hk => ?_⟩
  · refine (heap_setCell_same _ sb 11 _ _ _ (heap_setCell_same _ sb 10 _ _ _ (heap_setCell_same _ sb 9 _ _ _ (heap_setCell_same _ sb 8 _ _ _ (heap_setCell_same _ sb 7 _ _ _ b2))))).trans ?_
    unfold stArr
    rw [e1.roots 0 (by omega), e1.roots 1 (by omega), e1.roots 2 (by omega), e1.roots 3 (by omega), e2.roots 0 (by omega), e2.roots 1 (by omega), e2.roots 2 (by omega), e2.roots 3 (by omega)]
    rfl
  · rw [things_like e1]; exact (n1.new hf2).story b2 hst
  · rw [things_like e2]; exact ht2.story b2 hst
  · have := hnew g (.inr ⟨u, hu, e⟩)
    omega
  · rcases hb' : u'.ownBlock with _ | k
    · obtain ⟨i, hi, rfl⟩ := List.getElem_of_mem hu'
      have hr := ht2.rows i (by rw [← ht2.len]; exact hi) hi
      have hfi := ht2.fit _ (List.getElem_mem (show i < (things now).length by rw [← ht2.len]; exact hi))
      rcases hr.2 with ⟨_, hz⟩ | ⟨gg, cap, cur, e', _⟩
      · omega
      · rw [e'] at hb'; cases hb'
    · have h1 := hnew k (.inr ⟨u', hu', hb'⟩)
      have h2 := n1.lt (k := k) (.inr ⟨u, hu, by rw [e]; exact hb'⟩)
      omega
  · exact ((hf1.mono (fun j _ hj => hTP j hj)).same hf2).trans hst (fun j _ e => by subst e; exact hF _ (.inl rfl))
  · have hsz := hf1.size
    rcases hk with hk | hk | hk | hk | hk | hk | hk | hk | hk
    · exact .inl (hF k (.inl hk))
    · exact .inl (hF k (.inr (.inl hk)))
    · exact .inl (hF k (.inr (.inr (.inl hk))))
    · exact .inl (hF k (.inr (.inr (.inr (.inl hk)))))
    · exact .inl (hF k (.inr (.inr (.inr (.inr (.inl hk))))))
    · exact .inl (hF k (.inr (.inr (.inr (.inr (.inr (.inl hk)))))))
    · rcases hmv with hm | hm
      · rw [hm] at hk
        exact .inl (hF k (.inr (.inr (.inr (.inr (.inr (.inr (.inl hk))))))))
      · exact .inr (hm k hk)
    · exact .inl (hF k (.inr (.inr (.inr (.inr (.inr (.inr (.inr (.inl hk)))))))))
    · have := hnew k hk
      exact .inr (by omega)
/-- what commit makes of a story -/
def CommitR (ws now : List Int) (sts : List St) (ws' now' : List Int) (sts' : List St) : Prop :=
  (now = ws ∧ ws' = ws ∧ now' = now ∧ sts' = sts) ∨ (now ≠ ws ∧ 48 < (recsOf ws (nextS now)).length ∧ ws' = ws ∧ now' = now ∧ sts' = sts) ∨ (now ≠ ws ∧ (recsOf ws (nextS now)).length ≤ 48 ∧ ws' = pcommitW ws now ∧ now' = pcommitW ws now ∧ sts' = sts ++ pcommitSt ws now)
theorem turned_new {tb mb g : Nat} {vs : Value} {w w1 : World} (h : Fr New w w1) : Fr (TurnedP tb mb g vs) w w1 := h.mono (fun _ _ h => h.elim)

set_option maxHeartbeats 2000000 in
set_option maxRecDepth 100000 in
theorem kcommit_any (F : Nat → Prop) (sb n : Nat) (ws now : List Int) (sts : List St) (w : World) (hl : sts.length ≤ 1099511000000) (h : Story F sb n ws now sts w) :
    Calls Tryz.prog 30 #[.pointer (some ⟨sb, 0, none⟩)] w fun e w' => e = .returned (.bool true) ∧ ∃ F' ws' now' sts', Story F' sb n ws' now' sts' w' ∧ Fr F w w' ∧ (∀ k, F' k → F k ∨ w.heap.size ≤ k) ∧ CommitR ws now sts ws' now' sts' := by
  obtain ⟨hb, tb, cb, mb, g, vs, vn, vk, un, uk, S, hF⟩ := h
  have hc0 := S.c0
  have HCM : Hid (Calls Tryz.prog 24 #[.pointer (some ⟨hb, 0, none⟩)] w fun e w' => ∃ c, e = .returned (.int .i64 c) ∧ ((c = 0 ∧ ∃ vs1 ws1 now1 sts1, PH hb tb cb mb g vs1 ws1 now1 sts1 w' ∧ Fr (TurnedP tb mb g vs) w w' ∧ Moved w vs vs1 ∧ HW ws1 now1 ∧ nblk ws1.length = n ∧ Like now1 now ∧ Like ws1 now ∧ CommitR ws now sts ws1 now1 sts1) ∨ (c = 4 ∧ ∃ F', Story F' sb n ws now sts w' ∧ Fr F w w' ∧ (∀ k, F' k → F k ∨ w.heap.size ≤ k) ∧ CommitR ws now sts ws now sts))) := by
    refine (hcommit_any hb tb cb mb g vs ws now sts w S.ph S.hw.two hl).mono ?_
    rintro e w' ⟨c, rfl, hc⟩
    refine ⟨c, rfl, ?_⟩
    rcases hc with ⟨rfl, rfl, hp, hf⟩ | ⟨hne, h48, rfl, hp, hf⟩ | ⟨hne, h48, rfl, vs', hp, hf, hm⟩
    · exact .inl ⟨rfl, vs, now, now, sts, hp, turned_new hf, Moved.refl _ _, S.hw, S.n, Like.refl _, Like.refl _, .inl ⟨rfl, rfl, rfl, rfl⟩⟩
    · exact .inr ⟨rfl, F, ⟨hb, tb, cb, mb, g, vs, vn, vk, un, uk, S.new hf, hF⟩, hf.mono (fun _ _ h => h.elim), fun k hk => .inl hk, .inr (.inl ⟨hne, h48, rfl, rfl, rfl⟩)⟩
    · obtain ⟨q1, q2⟩ := commit_good S.hw h48
      exact .inl ⟨rfl, vs', _, _, _, hp, hf, hm, q1, by rw [pcommitW_len]; exact S.n, q2, q2, .inr (.inr ⟨hne, h48, rfl, rfl, rfl⟩)⟩
  have HST : Hid (∀ w1, Fr (TurnedP tb mb g vs) w w1 → w1.heap[sb]? = some (.cells (stArr hb n vn vk now ws) 39 (0, 0)) ∧ ThAt w1 vn (things now) un) := fun w1 hf => ⟨(S.turned hf).1, (S.turned hf).2.1⟩
  have HEND : Hid (∀ vs1 ws1 now1 sts1 w1 w2 v2 us2, PH hb tb cb mb g vs1 ws1 now1 sts1 w1 → Fr (TurnedP tb mb g vs) w w1 → Moved w vs vs1 → HW ws1 now1 → nblk ws1.length = n → Like now1 now → Like ws1 now → Fr New w1 w2 → ThAt w2 v2 (things now) us2 → (∀ k, ThB v2 us2 k → w1.heap.size ≤ k) → ∃ F', Story F' sb n ws1 now1 sts1 (((((w2.setCell ⟨sb, 7, none⟩ v2).setCell ⟨sb, 8, none⟩ (.int .i64 (wd now 3))).setCell ⟨sb, 9, none⟩ (.int .i64 (wd now 4))).setCell ⟨sb, 10, none⟩ (.int .i64 (wd now 5))).setCell ⟨sb, 11, none⟩ (.int .i64 (wd now 6))) ∧ Fr F w (((((w2.setCell ⟨sb, 7, none⟩ v2).setCell ⟨sb, 8, none⟩ (.int .i64 (wd now 3))).setCell ⟨sb, 9, none⟩ (.int .i64 (wd now 4))).setCell ⟨sb, 10, none⟩ (.int .i64 (wd now 5))).setCell ⟨sb, 11, none⟩ (.int .i64 (wd now 6))) ∧ ∀ k, F' k → F k ∨ w.heap.size ≤ k) := fun vs1 ws1 now1 sts1 w1 w2 v2 us2 a1 a2 a3 a4 a5 a6 a7 a8 a9 a10 => keep_end S hF a2 a1 a3 a4 a5 a6 a7 a8 a9 a10
  have HCP : Hid (∀ w1, ThAt w1 vn (things now) un → Calls Tryz.prog 29 #[.agg #[vn, .int .i64 (wd now 3), .int .i64 (wd now 4), .int .i64 (wd now 5), .int .i64 (wd now 6)]] w1 fun e w' => ∃ v' us', e = .returned (.agg #[v', .int .i64 (wd now 3), .int .i64 (wd now 4), .int .i64 (wd now 5), .int .i64 (wd now 6)]) ∧ ThAt w' v' (things now) us' ∧ (∀ k, ThB v' us' k → w1.heap.size ≤ k) ∧ Fr New w1 w') := fun w1 ht => kcopied_any vn (things now) un _ _ _ _ w1 ht
  obtain ⟨av, cv, hvn⟩ := S.tn.slice
  obtain ⟨m, hm⟩ : ∃ m, m = (things now).length := ⟨_, rfl⟩
  rw [← hm] at hvn
  subst hvn
  obtain ⟨x3, h3⟩ : ∃ x, x = wd now 3 := ⟨_, rfl⟩
  obtain ⟨x4, h4⟩ : ∃ x, x = wd now 4 := ⟨_, rfl⟩
  obtain ⟨x5, h5⟩ : ∃ x, x = wd now 5 := ⟨_, rfl⟩
  obtain ⟨x6, h6⟩ : ∃ x, x = wd now 6 := ⟨_, rfl⟩
  unfold stArr at HST
  rw [← h3, ← h4, ← h5, ← h6] at HST HCP HEND
  clear S hF hm h3 h4 h5 h6
  go_enter Tryz.func30, Tryz.ntmps30
  go_wp2_with (first
    | (go_at_call 24; refine HCM.out.mono ?_; rintro e w1 ⟨c, rfl, hcc⟩; rcases hcc with ⟨rfl, vs1, ws1, now1, sts1, q1, q2, q3, q4, q5, q6, q7, q8⟩ | ⟨rfl, hend⟩; obtain ⟨sbk, tn1⟩ := HST.out w1 q2; have c2 : w1.cell? ⟨sb, 2, none⟩ = some (.slice av m cv) := ((block_cells sbk).1 2).trans rfl; have c3 : w1.cell? ⟨sb, 3, none⟩ = some (.int .i64 x3) := ((block_cells sbk).1 3).trans rfl; have c4 : w1.cell? ⟨sb, 4, none⟩ = some (.int .i64 x4) := ((block_cells sbk).1 4).trans rfl; have c5 : w1.cell? ⟨sb, 5, none⟩ = some (.int .i64 x5) := ((block_cells sbk).1 5).trans rfl; have c6 : w1.cell? ⟨sb, 6, none⟩ = some (.int .i64 x6) := ((block_cells sbk).1 6).trans rfl; have hsb1 : sb < w1.heap.size := lt_of_block sbk)
    | (go_at_call 29; refine (HCP.out w1 tn1).mono ?_; rintro e w2 ⟨v2, us2, rfl, ht2, hn2, hf2⟩; have sbk2 := hf2.heap sbk id; have f7 := (block_cells sbk2).2 7; have f8 := (block_cells sbk2).2 8; have f9 := (block_cells sbk2).2 9; have f10 := (block_cells sbk2).2 10; have f11 := (block_cells sbk2).2 11; have g7 := (block_cells sbk2).1 7; have g8 := (block_cells sbk2).1 8; have g9 := (block_cells sbk2).1 9; have g10 := (block_cells sbk2).1 10; have g11 := (block_cells sbk2).1 11; simp only [List.getElem?_toArray, List.getElem?_cons_succ, List.getElem?_cons_zero] at g7 g8 g9 g10 g11; have hsb2 : sb < w2.heap.size := lt_of_block sbk2; obtain ⟨a2, c2', hv2⟩ := ht2.slice; subst hv2)
    | fail)
  · go_ret
    obtain ⟨F', a1, a2', a3⟩ := HEND.out vs1 ws1 now1 sts1 w1 w2 _ us2 q1 q2 q3 q4 q5 q6 q7 hf2 ht2 hn2
    exact ⟨rfl, F', ws1, now1, sts1, a1, a2', a3, q8⟩
  · go_ret
    obtain ⟨F', a1, a2, a3, a4⟩ := hend
    exact ⟨rfl, F', ws, now, sts, a1, a2, a3, a4⟩
end Go.Proofs.YtbagcjlimdilpaaGreat
