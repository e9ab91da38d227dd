/- Walks of a story's play: a root; what is taken back. -/
import Derived.Test.YtbagcjlimdilpabGreatKtJ17
namespace Go.Proofs.YtbagcjlimdilpabGreat
open Go.RowKit Go.Maps

theorem stArr_root (hb n : Nat) (vn vk : Value) (now ws : List Int) (i : Nat) (hi : i < 4) (hl : 7 ≤ now.length) (x : Int) : (stArr hb n vn vk now ws).setIfInBounds (3 + i) (.int .i64 x) = stArr hb n vn vk (now.set (3 + i) x) ws := by
  unfold stArr
  have hw : ∀ j, j < 4 → wd (now.set (3 + i) x) (3 + j) = if j = i then x else wd now (3 + j) := fun j hj => by
    rw [wd_set (by omega)]
    by_cases h : j = i
    · rw [if_pos (by omega), if_pos h]
    · rw [if_neg (by omega), if_neg h]
  have h0 := hw 0 (by omega)
  have h1 := hw 1 (by omega)
  have h2 := hw 2 (by omega)
  have h3 := hw 3 (by omega)
  simp only [Nat.add_zero, Nat.reduceAdd] at h0 h1 h2 h3
  rw [h0, h1, h2, h3]
  match i, hi with
  | 0, _ => rfl
  | 1, _ => rfl
  | 2, _ => rfl
  | 3, _ => rfl
theorem stArr_at (hb n : Nat) (vn vk : Value) (now ws : List Int) (i : Nat) (hi : i < 4) : (stArr hb n vn vk now ws)[3 + i]? = some (.int .i64 (wd now (3 + i))) := by
  unfold stArr
  match i, hi with
  | 0, _ => simp
  | 1, _ => simp
  | 2, _ => simp
  | 3, _ => simp
theorem Sty.root {sb n hb tb cb mb g : Nat} {vs vn vk : Value} {un uk : List Value} {ws now : List Int} {sts : List St} {w : World} (h : Sty sb n hb tb cb mb g vs vn vk un uk ws now sts w) (i : Nat) (hi : i < 4) : w.cell? ⟨sb, 3 + i, none⟩ = some (.int .i64 (wd now (3 + i))) ∧ w.frozen? ⟨sb, 3 + i, none⟩ = false ∧ w.cell? ⟨sb, 0, none⟩ = some (.pointer (some ⟨hb, 0, none⟩)) ∧ sb < w.heap.size :=
  ⟨((block_cells h.blk).1 _).trans (stArr_at hb n vn vk now ws i hi), (block_cells h.blk).2 _, h.c0, lt_of_block h.blk⟩
/-- a story behind a root that is set -/
theorem root_end {F : Nat → Prop} {sb n hb tb cb mb g : Nat} {vs vn vk : Value} {un uk : List Value} {ws now : List Int} {sts : List St} {w w2 : World} {i : Nat} {x : Int} (ob : Obj)
    (S : Sty sb n hb tb cb mb g vs vn vk un uk ws now sts w) (hF : ∀ k, Foot sb hb tb cb mb g vs vn vk un uk k → F k) (hi : i < 4) (hx : x = 0 ∨ Hnd (objs now) x)
    (hph : PH hb tb cb mb g vs ws (now.set (3 + i) x) sts w2) (hfr : Fr (fun k => k = mb) ((w.setCell ⟨sb, 3 + i, none⟩ (.int .i64 x)).alloc ob) w2) :
    Story F sb n ws (now.set (3 + i) x) sts w2 ∧ Fr F w w2 := by
  have hst : Fr (fun k => k = sb) w ((w.setCell ⟨sb, 3 + i, none⟩ (.int .i64 x)).alloc ob) := ((Fr.refl (fun k => k = sb) w).setCell (p := ⟨sb, 3 + i, none⟩) (fun _ => rfl) _).alloc _
  have b1 : ((w.setCell ⟨sb, 3 + i, none⟩ (.int .i64 x)).alloc ob).heap[sb]? = some (.cells (stArr hb n vn vk (now.set (3 + i) x) ws) 34 (0, 0)) := by
    refine ((Fr.refl New _).alloc ob).heap ?_ id
    rw [heap_setCell_same _ sb (3 + i) _ _ _ S.blk, stArr_root hb n vn vk now ws i hi (by have := S.lens; omega) x]
  obtain ⟨g1, g2, g3, g4⟩ := root_good S.hw.gn hi hx
  have hth : things (now.set (3 + i) x) = things now := by
    unfold things
    rw [g2]
    exact List.map_congr_left (fun o _ => by rw [g3])
  have hm : ∀ v us l, ThAt w v l us → ∀ k, ThB v us k → ¬ k = mb := fun v us l ht k hk e => by
    subst e
    obtain ⟨D, ⟨es, clock, hm, _⟩, _⟩ := S.ph.cg.mp
    exact ht.noMap hm hk
  have hne : sb ≠ mb := S.ph.mapNe S.blk
  refine ⟨⟨hb, tb, cb, mb, g, vs, vn, vk, un, uk, ⟨hfr.heap b1 hne, hph, S.hw.to g1 (by simp) (fun q h1 h2 => g4 q (by omega)), ?_, ?_, S.n, S.gn, S.gk, S.nk⟩, hF⟩, ?_⟩
  · rw [hth]
    exact (S.tn.story S.blk hst).fr hfr (hm _ _ _ S.tn)
  · exact (S.tk.story S.blk hst).fr hfr (hm _ _ _ S.tk)
  · exact (hst.mono (fun j _ e => by subst e; exact hF _ (.inl rfl))).trans hfr (fun j _ e => by subst e; exact hF _ (.inr (.inr (.inr (.inr (.inl rfl))))))
/-- a story whose shape is a copy of what was kept -/
theorem back_end {F : Nat → Prop} {sb n hb tb cb mb g : Nat} {vs vn vk v2 : Value} {un uk us2 : List Value} {ws now : List Int} {sts : List St} {w wr w1 w2 : World}
    (S : Sty sb n hb tb cb mb g vs vn vk un uk ws now sts w) (hF : ∀ k, Foot sb hb tb cb mb g vs vn vk un uk k → F k) (hf : Fr New w wr) (hf1 : Fr (fun k => k = mb) wr w1) (hph : PH hb tb cb mb g vs ws ws sts w1)
    (hf2 : Fr New w1 w2) (ht2 : ThAt w2 v2 (things ws) us2) (hnew : ∀ k, ThB v2 us2 k → w1.heap.size ≤ k) :
    ∃ F', Story F' sb n ws ws sts (((((w2.setCell ⟨sb, 2, none⟩ v2).setCell ⟨sb, 3, none⟩ (.int .i64 (wd ws 3))).setCell ⟨sb, 4, none⟩ (.int .i64 (wd ws 4))).setCell ⟨sb, 5, none⟩ (.int .i64 (wd ws 5))).setCell ⟨sb, 6, none⟩ (.int .i64 (wd ws 6))) ∧ Fr F w (((((w2.setCell ⟨sb, 2, none⟩ v2).setCell ⟨sb, 3, none⟩ (.int .i64 (wd ws 3))).setCell ⟨sb, 4, none⟩ (.int .i64 (wd ws 4))).setCell ⟨sb, 5, none⟩ (.int .i64 (wd ws 5))).setCell ⟨sb, 6, none⟩ (.int .i64 (wd ws 6))) ∧ ∀ k, F' k → F k ∨ w.heap.size ≤ k := by
  have Sr := S.new hf
  obtain ⟨b1, n1, k1⟩ := Sr.next hf1 hph
  have b2 := hf2.heap b1 id
  have hst := five_fr w2 sb 2 v2 (.int .i64 (wd ws 3)) (.int .i64 (wd ws 4)) (.int .i64 (wd ws 5)) (.int .i64 (wd ws 6))
  have hgs : g < w1.heap.size := lt_of_block hph.tg.t.wb
  have hsz : w.heap.size ≤ w1.heap.size := Nat.le_trans hf.size hf1.size
  refine ⟨Foot sb hb tb cb mb g vs v2 vk us2 uk, ⟨hb, tb, cb, mb, g, vs, v2, vk, us2, uk, ⟨?_, (hph.new hf2).story b2 hst, S.hw.back, ht2.story b2 hst, (k1.new hf2).story b2 hst, S.n, fun u hu e => ?_, S.gk, fun u hu u' hu' e => ?_⟩, fun k hk => hk⟩, ?_, fun k hk => ?_⟩
  · refine (heap_setCell_same _ sb 6 _ _ _ (heap_setCell_same _ sb 5 _ _ _ (heap_setCell_same _ sb 4 _ _ _ (heap_setCell_same _ sb 3 _ _ _ (heap_setCell_same _ sb 2 _ _ _ b2))))).trans ?_
    rfl
  · have := hnew g (.inr ⟨u, hu, e⟩)
    omega
  · rcases hb' : u.ownBlock with _ | k
    · obtain ⟨i, hi, rfl⟩ := List.getElem_of_mem hu
      have hr := ht2.rows i (by rw [← ht2.len]; exact hi) hi
      have hfi := ht2.fit _ (List.getElem_mem (show i < (things ws).length by rw [← ht2.len]; exact hi))
      rcases hr.2 with ⟨_, hz⟩ | ⟨gg, cap, cur, e', _⟩
      · omega
      · rw [e'] at hb'; cases hb'
    · have h1 := hnew k (.inr ⟨u, hu, hb'⟩)
      have h2 := k1.lt (k := k) (.inr ⟨u', hu', by rw [← e]; exact hb'⟩)
      omega
  · exact (((hf.mono (fun _ _ h => h.elim)).trans hf1 (fun j _ e => by subst e; exact hF _ (.inr (.inr (.inr (.inr (.inl rfl))))))).same hf2).trans hst (fun j _ e => by subst e; exact hF _ (.inl rfl))
  · rcases hk with hk | hk | hk | hk | hk | hk | hk | hk | hk
    · exact .inl (hF k (.inl hk))
    · exact .inl (hF k (.inr (.inl hk)))
    · exact .inl (hF k (.inr (.inr (.inl hk))))
    · exact .inl (hF k (.inr (.inr (.inr (.inl hk)))))
    · exact .inl (hF k (.inr (.inr (.inr (.inr (.inl hk))))))
    · exact .inl (hF k (.inr (.inr (.inr (.inr (.inr (.inl hk)))))))
    · exact .inl (hF k (.inr (.inr (.inr (.inr (.inr (.inr (.inl hk))))))))
    · have := hnew k hk
      exact .inr (by omega)
    · exact .inl (hF k (.inr (.inr (.inr (.inr (.inr (.inr (.inr (.inr hk)))))))))
set_option maxHeartbeats 1000000 in
set_option maxRecDepth 100000 in
theorem play_root0 (F : Nat → Prop) (sb n : Nat) (ws now : List Int) (sts : List St) (what a b c : Int) (w : World) (hw : I64 what) (ha : I64 a) (hb : I64 b) (hc : I64 c) (hcz2 : pickN c 4 = 0) (h : Story F sb n ws now sts w) (hne : (things now).length ≠ 0) (hv : pickN what 8 = 5) :
    Calls Tryz.prog 5 #[.pointer (some ⟨sb, 0, none⟩), .int .i64 what, .int .i64 a, .int .i64 b, .int .i64 c] w fun e w' => e = .returned (.bool true) ∧ Played F sb n sts w w' := by
  obtain ⟨hb', tb, cb, mb, g, vs, vn, vk, un, uk, S, hF⟩ := h
  obtain ⟨l, hl⟩ : ∃ l, l = things now := ⟨_, rfl⟩
  have HL : Hid (l = things now) := hl
  have tn : ThAt w vn l un := by rw [hl]; exact S.tn
  rw [← hl] at hne
  have hk0 := pickN_lt a hne
  obtain ⟨k, hkd⟩ : ∃ k, k = pickN a l.length := ⟨_, rfl⟩
  have hk : k < l.length := by rw [hkd]; exact hk0
  have hm32 : l.length ≤ 32 := tn.n
  obtain ⟨g2, cv, gi, ci, hvn, hg2, d0, d1, d2, d3, hrow, huk, hfrz, hgi⟩ := tn.at' k hk
  have hc2 := S.c2
  have hc0 := S.c0
  rw [hvn] at hc2
  have HPA : Hid (∀ w1, Calls Tryz.prog 13 #[.int .i64 a, .int .i64 4] w1 fun e w' => e = .returned (.int .i64 (pickN a 4 : Nat)) ∧ w' = w1) := fun w1 => pickN_any a 4 w1 ha (by omega) (by omega)
  have HPM : Hid (∀ w1, Calls Tryz.prog 13 #[.int .i64 a, .int .i64 (l.length : Int)] w1 fun e w' => e = .returned (.int .i64 (k : Int)) ∧ w' = w1) := fun w1 => by rw [hkd]; exact pickN_any a l.length w1 ha (by omega) (by omega)
  have HPW : Hid (∀ w1, Calls Tryz.prog 13 #[.int .i64 what, .int .i64 8] w1 fun e w' => e = .returned (.int .i64 5) ∧ w' = w1) := fun w1 => by
    have := pickN_any what 8 w1 hw (by omega) (by omega)
    rwa [hv] at this
  have hq4 := pickN_lt a (n := 4) (by omega)
  obtain ⟨q, hq⟩ : ∃ q : Nat, q = pickN a 4 := ⟨_, rfl⟩
  rw [← hq] at HPA hq4
  have hfit := tn.fit _ (List.getElem_mem hk)
  obtain ⟨x, hx⟩ : ∃ x, x = l[k] := ⟨_, rfl⟩
  have HX : Hid (x = l[k]) := hx
  rw [← hx] at d0 d1 d2 d3 hrow hfit huk
  obtain ⟨⟨xb, xs, xp⟩, xw⟩ := x
  simp only at d0 d1 d2 d3 hrow hfit huk
  obtain ⟨hf1, hx1, hx4, hxp, hx32⟩ := hfit
  obtain ⟨B, hB⟩ : ∃ B : Nat, B = xb + 1 := ⟨_, rfl⟩
  rw [← hB] at d0
  have HB : Hid (B = xb + 1) := hB
  obtain ⟨M, hM⟩ : ∃ M : Nat, M = xw.length := ⟨_, rfl⟩
  rw [← hM] at d3
  have HM : Hid (M = xw.length ∧ xw.length = 8 * xs - 1) := ⟨hM, hf1⟩
  have hB32 : B ≤ 32 := by omega
  have hM31 : M ≤ 31 := by omega
  have hM1 : 7 ≤ M := by omega
  have hsbw : sb < w.heap.size := lt_of_block S.blk
  have hi4 := pickN_lt b (n := 4) (by omega)
  have HPB : Hid (∀ w1, Calls Tryz.prog 13 #[.int .i64 b, .int .i64 4] w1 fun e w' => e = .returned (.int .i64 (pickN b 4 : Nat)) ∧ w' = w1) := fun w1 => pickN_any b 4 w1 hb (by omega) (by omega)
  have HPC : Hid (∀ w1, Calls Tryz.prog 13 #[.int .i64 c, .int .i64 4] w1 fun e w' => e = .returned (.int .i64 (pickN c 4 : Nat)) ∧ w' = w1) := fun w1 => pickN_any c 4 w1 hc (by omega) (by omega)
  obtain ⟨i, hi⟩ : ∃ i : Nat, i = pickN b 4 := ⟨_, rfl⟩
  rw [← hi] at HPB hi4
  have hcz : (((pickN c 4 : Nat) : Int) == 0) = true := by simp; omega
  obtain ⟨cz, hczd⟩ : ∃ cz : Nat, cz = pickN c 4 := ⟨_, rfl⟩
  rw [← hczd] at HPC hcz
  have HSR : Hid (∀ ob, Calls Tryz.prog 19 #[.pointer (some ⟨hb', 0, none⟩), .int .i64 (i : Int), .int .i64 0] ((w.setCell ⟨sb, 3 + i, none⟩ (.int .i64 0)).alloc ob) fun e w' => e = .returned (.int .i64 0) ∧ Played F sb n sts w w') := fun ob => by
    have hx : (0 : Int) = 0 ∨ Hnd (objs now) 0 := .inl rfl
    have hp1 := S.ph.story S.blk (((Fr.refl (fun k => k = sb) w).setCell (p := ⟨sb, 3 + i, none⟩) (fun _ => rfl) (.int .i64 0)).alloc ob)
    refine (hsetRoot_any hb' tb cb mb g vs ws now sts (i : Int) 0 _ (by omega) (by omega) hp1).mono ?_
    rintro e w' ⟨rfl, hph, hfr⟩
    have hs : setRootS now (i : Int) 0 = (now.set (3 + i) 0, 0) := by
      unfold setRootS
      rw [if_neg (by omega), if_neg (fun h => by
        rcases hx with h' | h'
        · exact h.1 h'
        · exact idx_hnd.2 h' h.2), Int.toNat_natCast]
    rw [hs] at hph ⊢
    obtain ⟨q1, q2⟩ := root_end ob S hF hi4 hx hph hfr
    exact ⟨rfl, F, ws, _, sts, q1, q2, fun k hk => .inl hk, by omega⟩
  obtain ⟨hy1, hy2, hy3, hy4⟩ := (S.new (w' := w.alloc (.cells #[.int .i64 (B : Int), .int .i64 (xs : Int), .int .i64 (xp : Int), .slice (some ⟨gi, 0, none⟩) M ci] 53)) ((Fr.refl New w).alloc _)).root i hi4
  obtain ⟨y, hyd⟩ : ∃ y, y = wd now (3 + i) := ⟨_, rfl⟩
  rw [← hyd] at hy1
  clear hyd
  have hsb : sb < w.heap.size := lt_of_block S.blk
  clear S hF hq hi hczd hcz2
  clear tn hkd hk0 hl hf1 hB hM hx hrow huk hfrz
  go_enter Tryz.func5, Tryz.ntmps5
  go_wp2_with (first
    | (go_at_call_of 13 (Value.int .i64 b); refine calls_same (HPB.out _) ?_)
    | (go_at_call_of 13 (Value.int .i64 c); refine calls_same (HPC.out _) ?_)
    | (go_at_call_of 13 (Value.int .i64 4); refine calls_same (HPA.out _) ?_)
    | (go_at_call_of 13 (Value.int .i64 (l.length : Int)); refine calls_same (HPM.out _) ?_)
    | (go_at_call_of 13 (Value.int .i64 8); refine calls_same (HPW.out _) ?_)
    | (go_at_call 19; refine (HSR.out _).mono ?_; rintro e w1 ⟨rfl, hend⟩)
    | fail)
  go_ret
  exact ⟨rfl, hend⟩
set_option maxHeartbeats 1000000 in
set_option maxRecDepth 100000 in
theorem play_root (F : Nat → Prop) (sb n : Nat) (ws now : List Int) (sts : List St) (what a b c : Int) (w : World) (hw : I64 what) (ha : I64 a) (hb : I64 b) (hc : I64 c) (hcz2 : pickN c 4 ≠ 0) (h : Story F sb n ws now sts w) (hne : (things now).length ≠ 0) (hv : pickN what 8 = 5) :
    Calls Tryz.prog 5 #[.pointer (some ⟨sb, 0, none⟩), .int .i64 what, .int .i64 a, .int .i64 b, .int .i64 c] w fun e w' => e = .returned (.bool true) ∧ Played F sb n sts w w' := by
  obtain ⟨hb', tb, cb, mb, g, vs, vn, vk, un, uk, S, hF⟩ := h
  obtain ⟨l, hl⟩ : ∃ l, l = things now := ⟨_, rfl⟩
  have HL : Hid (l = things now) := hl
  have tn : ThAt w vn l un := by rw [hl]; exact S.tn
  rw [← hl] at hne
  have hk0 := pickN_lt a hne
  obtain ⟨k, hkd⟩ : ∃ k, k = pickN a l.length := ⟨_, rfl⟩
  have hk : k < l.length := by rw [hkd]; exact hk0
  have hm32 : l.length ≤ 32 := tn.n
  obtain ⟨g2, cv, gi, ci, hvn, hg2, d0, d1, d2, d3, hrow, huk, hfrz, hgi⟩ := tn.at' k hk
  have hc2 := S.c2
  have hc0 := S.c0
  rw [hvn] at hc2
  have HPA : Hid (∀ w1, Calls Tryz.prog 13 #[.int .i64 a, .int .i64 4] w1 fun e w' => e = .returned (.int .i64 (pickN a 4 : Nat)) ∧ w' = w1) := fun w1 => pickN_any a 4 w1 ha (by omega) (by omega)
  have HPM : Hid (∀ w1, Calls Tryz.prog 13 #[.int .i64 a, .int .i64 (l.length : Int)] w1 fun e w' => e = .returned (.int .i64 (k : Int)) ∧ w' = w1) := fun w1 => by rw [hkd]; exact pickN_any a l.length w1 ha (by omega) (by omega)
  have HPW : Hid (∀ w1, Calls Tryz.prog 13 #[.int .i64 what, .int .i64 8] w1 fun e w' => e = .returned (.int .i64 5) ∧ w' = w1) := fun w1 => by
    have := pickN_any what 8 w1 hw (by omega) (by omega)
    rwa [hv] at this
  have hq4 := pickN_lt a (n := 4) (by omega)
  obtain ⟨q, hq⟩ : ∃ q : Nat, q = pickN a 4 := ⟨_, rfl⟩
  rw [← hq] at HPA hq4
  have hfit := tn.fit _ (List.getElem_mem hk)
  obtain ⟨x, hx⟩ : ∃ x, x = l[k] := ⟨_, rfl⟩
  have HX : Hid (x = l[k]) := hx
  rw [← hx] at d0 d1 d2 d3 hrow hfit huk
  obtain ⟨⟨xb, xs, xp⟩, xw⟩ := x
  simp only at d0 d1 d2 d3 hrow hfit huk
  obtain ⟨hf1, hx1, hx4, hxp, hx32⟩ := hfit
  obtain ⟨B, hB⟩ : ∃ B : Nat, B = xb + 1 := ⟨_, rfl⟩
  rw [← hB] at d0
  have HB : Hid (B = xb + 1) := hB
  obtain ⟨M, hM⟩ : ∃ M : Nat, M = xw.length := ⟨_, rfl⟩
  rw [← hM] at d3
  have HM : Hid (M = xw.length ∧ xw.length = 8 * xs - 1) := ⟨hM, hf1⟩
  have hB32 : B ≤ 32 := by omega
  have hM31 : M ≤ 31 := by omega
  have hM1 : 7 ≤ M := by omega
  have hsbw : sb < w.heap.size := lt_of_block S.blk
  have hi4 := pickN_lt b (n := 4) (by omega)
  have HPB : Hid (∀ w1, Calls Tryz.prog 13 #[.int .i64 b, .int .i64 4] w1 fun e w' => e = .returned (.int .i64 (pickN b 4 : Nat)) ∧ w' = w1) := fun w1 => pickN_any b 4 w1 hb (by omega) (by omega)
  have HPC : Hid (∀ w1, Calls Tryz.prog 13 #[.int .i64 c, .int .i64 4] w1 fun e w' => e = .returned (.int .i64 (pickN c 4 : Nat)) ∧ w' = w1) := fun w1 => pickN_any c 4 w1 hc (by omega) (by omega)
  obtain ⟨i, hi⟩ : ∃ i : Nat, i = pickN b 4 := ⟨_, rfl⟩
  rw [← hi] at HPB hi4
  have hcz : (((pickN c 4 : Nat) : Int) == 0) = false := by simp; omega
  obtain ⟨cz, hczd⟩ : ∃ cz : Nat, cz = pickN c 4 := ⟨_, rfl⟩
  rw [← hczd] at HPC hcz
  have HSR : Hid (∀ ob, Calls Tryz.prog 19 #[.pointer (some ⟨hb', 0, none⟩), .int .i64 (i : Int), .int .i64 (B : Int)] ((w.setCell ⟨sb, 3 + i, none⟩ (.int .i64 (B : Int))).alloc ob) fun e w' => e = .returned (.int .i64 0) ∧ Played F sb n sts w w') := fun ob => by
    have hx : (B : Int) = 0 ∨ Hnd (objs now) (B : Int) := by
      right
      have hm : l[k] ∈ things now := by rw [← hl]; exact List.getElem_mem _
      rw [← hx] at hm
      obtain ⟨o, ho, e⟩ := List.mem_map.1 hm
      refine ⟨o, ho, ?_⟩
      have := congrArg (fun t : Th => t.1.block) e
      simp only at this
      omega
    have hp1 := S.ph.story S.blk (((Fr.refl (fun k => k = sb) w).setCell (p := ⟨sb, 3 + i, none⟩) (fun _ => rfl) (.int .i64 (B : Int))).alloc ob)
    refine (hsetRoot_any hb' tb cb mb g vs ws now sts (i : Int) (B : Int) _ (by omega) (by omega) hp1).mono ?_
    rintro e w' ⟨rfl, hph, hfr⟩
    have hs : setRootS now (i : Int) (B : Int) = (now.set (3 + i) (B : Int), 0) := by
      unfold setRootS
      rw [if_neg (by omega), if_neg (fun h => by
        rcases hx with h' | h'
        · exact h.1 h'
        · exact idx_hnd.2 h' h.2), Int.toNat_natCast]
    rw [hs] at hph ⊢
    obtain ⟨q1, q2⟩ := root_end ob S hF hi4 hx hph hfr
    exact ⟨rfl, F, ws, _, sts, q1, q2, fun k hk => .inl hk, by omega⟩
  obtain ⟨hy1, hy2, hy3, hy4⟩ := (S.new (w' := w.alloc (.cells #[.int .i64 (B : Int), .int .i64 (xs : Int), .int .i64 (xp : Int), .slice (some ⟨gi, 0, none⟩) M ci] 53)) ((Fr.refl New w).alloc _)).root i hi4
  obtain ⟨y, hyd⟩ : ∃ y, y = wd now (3 + i) := ⟨_, rfl⟩
  rw [← hyd] at hy1
  clear hyd
  have hsb : sb < w.heap.size := lt_of_block S.blk
  clear S hF hq hi hczd hcz2
  clear tn hkd hk0 hl hf1 hB hM hx hrow huk hfrz
  go_enter Tryz.func5, Tryz.ntmps5
  go_wp2_with (first
    | (go_at_call_of 13 (Value.int .i64 b); refine calls_same (HPB.out _) ?_)
    | (go_at_call_of 13 (Value.int .i64 c); refine calls_same (HPC.out _) ?_)
    | (go_at_call_of 13 (Value.int .i64 4); refine calls_same (HPA.out _) ?_)
    | (go_at_call_of 13 (Value.int .i64 (l.length : Int)); refine calls_same (HPM.out _) ?_)
    | (go_at_call_of 13 (Value.int .i64 8); refine calls_same (HPW.out _) ?_)
    | (go_at_call 19; refine (HSR.out _).mono ?_; rintro e w1 ⟨rfl, hend⟩)
    | fail)
  go_ret
  exact ⟨rfl, hend⟩
set_option maxHeartbeats 1000000 in
set_option maxRecDepth 100000 in
theorem play_stay (F : Nat → Prop) (sb n : Nat) (ws now : List Int) (sts : List St) (what a b c : Int) (w : World) (hw : I64 what) (ha : I64 a) (hb : I64 b) (hbz2 : pickN b 3 ≠ 0) (h : Story F sb n ws now sts w) (hne : (things now).length ≠ 0) (hv : pickN what 8 = 6) :
    Calls Tryz.prog 5 #[.pointer (some ⟨sb, 0, none⟩), .int .i64 what, .int .i64 a, .int .i64 b, .int .i64 c] w fun e w' => e = .returned (.bool true) ∧ Played F sb n sts w w' := by
  obtain ⟨hb', tb, cb, mb, g, vs, vn, vk, un, uk, S, hF⟩ := h
  obtain ⟨l, hl⟩ : ∃ l, l = things now := ⟨_, rfl⟩
  have HL : Hid (l = things now) := hl
  have tn : ThAt w vn l un := by rw [hl]; exact S.tn
  rw [← hl] at hne
  have hk0 := pickN_lt a hne
  obtain ⟨k, hkd⟩ : ∃ k, k = pickN a l.length := ⟨_, rfl⟩
  have hk : k < l.length := by rw [hkd]; exact hk0
  have hm32 : l.length ≤ 32 := tn.n
  obtain ⟨g2, cv, gi, ci, hvn, hg2, d0, d1, d2, d3, hrow, huk, hfrz, hgi⟩ := tn.at' k hk
  have hc2 := S.c2
  have hc0 := S.c0
  rw [hvn] at hc2
  have HPA : Hid (∀ w1, Calls Tryz.prog 13 #[.int .i64 a, .int .i64 4] w1 fun e w' => e = .returned (.int .i64 (pickN a 4 : Nat)) ∧ w' = w1) := fun w1 => pickN_any a 4 w1 ha (by omega) (by omega)
  have HPM : Hid (∀ w1, Calls Tryz.prog 13 #[.int .i64 a, .int .i64 (l.length : Int)] w1 fun e w' => e = .returned (.int .i64 (k : Int)) ∧ w' = w1) := fun w1 => by rw [hkd]; exact pickN_any a l.length w1 ha (by omega) (by omega)
  have HPW : Hid (∀ w1, Calls Tryz.prog 13 #[.int .i64 what, .int .i64 8] w1 fun e w' => e = .returned (.int .i64 6) ∧ w' = w1) := fun w1 => by
    have := pickN_any what 8 w1 hw (by omega) (by omega)
    rwa [hv] at this
  have hq4 := pickN_lt a (n := 4) (by omega)
  obtain ⟨q, hq⟩ : ∃ q : Nat, q = pickN a 4 := ⟨_, rfl⟩
  rw [← hq] at HPA hq4
  have hfit := tn.fit _ (List.getElem_mem hk)
  obtain ⟨x, hx⟩ : ∃ x, x = l[k] := ⟨_, rfl⟩
  have HX : Hid (x = l[k]) := hx
  rw [← hx] at d0 d1 d2 d3 hrow hfit huk
  obtain ⟨⟨xb, xs, xp⟩, xw⟩ := x
  simp only at d0 d1 d2 d3 hrow hfit huk
  obtain ⟨hf1, hx1, hx4, hxp, hx32⟩ := hfit
  obtain ⟨B, hB⟩ : ∃ B : Nat, B = xb + 1 := ⟨_, rfl⟩
  rw [← hB] at d0
  have HB : Hid (B = xb + 1) := hB
  obtain ⟨M, hM⟩ : ∃ M : Nat, M = xw.length := ⟨_, rfl⟩
  rw [← hM] at d3
  have HM : Hid (M = xw.length ∧ xw.length = 8 * xs - 1) := ⟨hM, hf1⟩
  have hB32 : B ≤ 32 := by omega
  have hM31 : M ≤ 31 := by omega
  have hM1 : 7 ≤ M := by omega
  have hsbw : sb < w.heap.size := lt_of_block S.blk
  have HPB : Hid (∀ w1, Calls Tryz.prog 13 #[.int .i64 b, .int .i64 3] w1 fun e w' => e = .returned (.int .i64 (pickN b 3 : Nat)) ∧ w' = w1) := fun w1 => pickN_any b 3 w1 hb (by omega) (by omega)
  obtain ⟨bz, hbzd⟩ : ∃ bz : Nat, bz = pickN b 3 := ⟨_, rfl⟩
  rw [← hbzd] at HPB
  have hbz : ((bz : Int) == 0) = false := by simp; omega
  have HEND : Hid (∀ w1, Fr New w w1 → Played F sb n sts w w1) := fun w1 hf => ⟨F, ws, now, sts, ⟨hb', tb, cb, mb, g, vs, vn, vk, un, uk, S.new hf, hF⟩, hf.mono (fun _ _ h => h.elim), fun k hk => .inl hk, by omega⟩
  clear S hF hq hbzd hbz2
  clear tn hkd hk0 hl hf1 hB hM hx hrow huk hfrz
  go_enter Tryz.func5, Tryz.ntmps5
  go_wp2_with (first
    | (go_at_call_of 13 (Value.int .i64 b); refine calls_same (HPB.out _) ?_)
    | (go_at_call_of 13 (Value.int .i64 4); refine calls_same (HPA.out _) ?_)
    | (go_at_call_of 13 (Value.int .i64 (l.length : Int)); refine calls_same (HPM.out _) ?_)
    | (go_at_call_of 13 (Value.int .i64 8); refine calls_same (HPW.out _) ?_)
    | fail)
  go_ret
  exact ⟨rfl, HEND.out _ ((Fr.refl New w).alloc _)⟩
set_option maxHeartbeats 1000000 in
set_option maxRecDepth 100000 in
theorem play_back (F : Nat → Prop) (sb n : Nat) (ws now : List Int) (sts : List St) (what a b c : Int) (w : World) (hw : I64 what) (ha : I64 a) (hb : I64 b) (hbz2 : pickN b 3 = 0) (h : Story F sb n ws now sts w) (hne : (things now).length ≠ 0) (hv : pickN what 8 = 6) :
    Calls Tryz.prog 5 #[.pointer (some ⟨sb, 0, none⟩), .int .i64 what, .int .i64 a, .int .i64 b, .int .i64 c] w fun e w' => e = .returned (.bool true) ∧ Played F sb n sts w w' := by
  obtain ⟨hb', tb, cb, mb, g, vs, vn, vk, un, uk, S, hF⟩ := h
  obtain ⟨l, hl⟩ : ∃ l, l = things now := ⟨_, rfl⟩
  have HL : Hid (l = things now) := hl
  have tn : ThAt w vn l un := by rw [hl]; exact S.tn
  rw [← hl] at hne
  have hk0 := pickN_lt a hne
  obtain ⟨k, hkd⟩ : ∃ k, k = pickN a l.length := ⟨_, rfl⟩
  have hk : k < l.length := by rw [hkd]; exact hk0
  have hm32 : l.length ≤ 32 := tn.n
  obtain ⟨g2, cv, gi, ci, hvn, hg2, d0, d1, d2, d3, hrow, huk, hfrz, hgi⟩ := tn.at' k hk
  have hc2 := S.c2
  have hc0 := S.c0
  rw [hvn] at hc2
  have HPA : Hid (∀ w1, Calls Tryz.prog 13 #[.int .i64 a, .int .i64 4] w1 fun e w' => e = .returned (.int .i64 (pickN a 4 : Nat)) ∧ w' = w1) := fun w1 => pickN_any a 4 w1 ha (by omega) (by omega)
  have HPM : Hid (∀ w1, Calls Tryz.prog 13 #[.int .i64 a, .int .i64 (l.length : Int)] w1 fun e w' => e = .returned (.int .i64 (k : Int)) ∧ w' = w1) := fun w1 => by rw [hkd]; exact pickN_any a l.length w1 ha (by omega) (by omega)
  have HPW : Hid (∀ w1, Calls Tryz.prog 13 #[.int .i64 what, .int .i64 8] w1 fun e w' => e = .returned (.int .i64 6) ∧ w' = w1) := fun w1 => by
    have := pickN_any what 8 w1 hw (by omega) (by omega)
    rwa [hv] at this
  have hq4 := pickN_lt a (n := 4) (by omega)
  obtain ⟨q, hq⟩ : ∃ q : Nat, q = pickN a 4 := ⟨_, rfl⟩
  rw [← hq] at HPA hq4
  have hfit := tn.fit _ (List.getElem_mem hk)
  obtain ⟨x, hx⟩ : ∃ x, x = l[k] := ⟨_, rfl⟩
  have HX : Hid (x = l[k]) := hx
  rw [← hx] at d0 d1 d2 d3 hrow hfit huk
  obtain ⟨⟨xb, xs, xp⟩, xw⟩ := x
  simp only at d0 d1 d2 d3 hrow hfit huk
  obtain ⟨hf1, hx1, hx4, hxp, hx32⟩ := hfit
  obtain ⟨B, hB⟩ : ∃ B : Nat, B = xb + 1 := ⟨_, rfl⟩
  rw [← hB] at d0
  have HB : Hid (B = xb + 1) := hB
  obtain ⟨M, hM⟩ : ∃ M : Nat, M = xw.length := ⟨_, rfl⟩
  rw [← hM] at d3
  have HM : Hid (M = xw.length ∧ xw.length = 8 * xs - 1) := ⟨hM, hf1⟩
  have hB32 : B ≤ 32 := by omega
  have hM31 : M ≤ 31 := by omega
  have hM1 : 7 ≤ M := by omega
  have hsbw : sb < w.heap.size := lt_of_block S.blk
  have HPB : Hid (∀ w1, Calls Tryz.prog 13 #[.int .i64 b, .int .i64 3] w1 fun e w' => e = .returned (.int .i64 (pickN b 3 : Nat)) ∧ w' = w1) := fun w1 => pickN_any b 3 w1 hb (by omega) (by omega)
  obtain ⟨bz, hbzd⟩ : ∃ bz : Nat, bz = pickN b 3 := ⟨_, rfl⟩
  rw [← hbzd] at HPB
  have hbz : ((bz : Int) == 0) = true := by simp; omega
  obtain ⟨a7, c7, hvk⟩ := S.tk.slice
  have HRB : Hid (∀ w1, Fr New w w1 → Calls Tryz.prog 20 #[.pointer (some ⟨hb', 0, none⟩)] w1 fun e w' => e = .returned (.tuple #[]) ∧ PH hb' tb cb mb g vs ws ws sts w' ∧ Fr (fun k => k = mb) w1 w' ∧ w'.heap[sb]? = some (.cells (stArr hb' n vn vk now ws) 34 (0, 0)) ∧ ThAt w' vk (things ws) uk) := fun w1 hf => by
    refine (hrollback_any hb' tb cb mb g vs ws now sts w1 (S.new hf).ph).mono ?_
    rintro e w' ⟨rfl, hp, hfr⟩
    obtain ⟨n1, _, n3⟩ := (S.new hf).next hfr hp
    exact ⟨rfl, hp, hfr, n1, n3⟩
  have HCP : Hid (∀ w1, ThAt w1 vk (things ws) uk → Calls Tryz.prog 21 #[.agg #[vk, .int .i64 (wd ws 3), .int .i64 (wd ws 4), .int .i64 (wd ws 5), .int .i64 (wd ws 6)]] w1 fun e w' => ∃ v' us', e = .returned (.agg #[v', .int .i64 (wd ws 3), .int .i64 (wd ws 4), .int .i64 (wd ws 5), .int .i64 (wd ws 6)]) ∧ ThAt w' v' (things ws) us' ∧ (∀ k, ThB v' us' k → w1.heap.size ≤ k) ∧ Fr New w1 w') := fun w1 ht => kcopied_any vk (things ws) uk _ _ _ _ w1 ht
  have HEND : Hid (∀ wr w1 w2 v2 us2, Fr New w wr → Fr (fun k => k = mb) wr w1 → PH hb' tb cb mb g vs ws ws sts w1 → Fr New w1 w2 → ThAt w2 v2 (things ws) us2 → (∀ k, ThB v2 us2 k → w1.heap.size ≤ k) → Played F sb n sts w (((((w2.setCell ⟨sb, 2, none⟩ v2).setCell ⟨sb, 3, none⟩ (.int .i64 (wd ws 3))).setCell ⟨sb, 4, none⟩ (.int .i64 (wd ws 4))).setCell ⟨sb, 5, none⟩ (.int .i64 (wd ws 5))).setCell ⟨sb, 6, none⟩ (.int .i64 (wd ws 6)))) := fun wr w1 w2 v2 us2 a1 a2 a3 a4 a5 a6 => by
    obtain ⟨F', q1, q2, q3⟩ := back_end S hF a1 a2 a3 a4 a5 a6
    exact ⟨F', ws, ws, sts, q1, q2, q3, by omega⟩
  obtain ⟨m7, hm7⟩ : ∃ m7, m7 = (things ws).length := ⟨_, rfl⟩
  rw [← hm7] at hvk
  subst hvk
  subst hvn
  obtain ⟨x3, h3⟩ : ∃ x, x = wd ws 3 := ⟨_, rfl⟩
  obtain ⟨x4, h4⟩ : ∃ x, x = wd ws 4 := ⟨_, rfl⟩
  obtain ⟨x5, h5⟩ : ∃ x, x = wd ws 5 := ⟨_, rfl⟩
  obtain ⟨x6, h6⟩ : ∃ x, x = wd ws 6 := ⟨_, rfl⟩
  unfold stArr at HRB
  rw [← h3, ← h4, ← h5, ← h6] at HRB HCP HEND
  clear S hF hq hbzd hbz2 hm7 h3 h4 h5 h6
  clear tn hkd hk0 hl hf1 hB hM hx hrow huk hfrz
  go_enter Tryz.func5, Tryz.ntmps5
  go_wp2_with (first
    | (go_at_call_of 13 (Value.int .i64 b); refine calls_same (HPB.out _) ?_)
    | (go_at_call_of 13 (Value.int .i64 4); refine calls_same (HPA.out _) ?_)
    | (go_at_call_of 13 (Value.int .i64 (l.length : Int)); refine calls_same (HPM.out _) ?_)
    | (go_at_call_of 13 (Value.int .i64 8); refine calls_same (HPW.out _) ?_)
    | (go_at_call 20; refine (HRB.out _ ((Fr.refl New w).alloc _)).mono ?_; rintro e w1 ⟨rfl, hp1, hf1', sbk, tk1⟩; have e7 : w1.cell? ⟨sb, 7, none⟩ = some (.slice a7 m7 c7) := ((block_cells sbk).1 7).trans rfl; have e8 : w1.cell? ⟨sb, 8, none⟩ = some (.int .i64 x3) := ((block_cells sbk).1 8).trans rfl; have e9 : w1.cell? ⟨sb, 9, none⟩ = some (.int .i64 x4) := ((block_cells sbk).1 9).trans rfl; have e10 : w1.cell? ⟨sb, 10, none⟩ = some (.int .i64 x5) := ((block_cells sbk).1 10).trans rfl; have e11 : w1.cell? ⟨sb, 11, none⟩ = some (.int .i64 x6) := ((block_cells sbk).1 11).trans rfl; have hsb1 : sb < w1.heap.size := lt_of_block sbk)
    | (go_at_call 21; refine (HCP.out w1 tk1).mono ?_; rintro e w2 ⟨v2, us2, rfl, ht2, hn2, hf2⟩; have sbk2 := hf2.heap sbk id; have f2 := (block_cells sbk2).2 2; have f3 := (block_cells sbk2).2 3; have f4 := (block_cells sbk2).2 4; have f5 := (block_cells sbk2).2 5; have f6 := (block_cells sbk2).2 6; have g2 := (block_cells sbk2).1 2; have g3 := (block_cells sbk2).1 3; have g4 := (block_cells sbk2).1 4; have g5 := (block_cells sbk2).1 5; have g6 := (block_cells sbk2).1 6; simp only [List.getElem?_toArray, List.getElem?_cons_succ, List.getElem?_cons_zero] at g2 g3 g4 g5 g6; have hsb2 : sb < w2.heap.size := lt_of_block sbk2; obtain ⟨a2, c2', hv2⟩ := ht2.slice; subst hv2)
    | fail)
  go_ret
  exact ⟨rfl, HEND.out _ w1 w2 _ us2 ((Fr.refl New w).alloc _) hf1' hp1 hf2 ht2 hn2⟩
end Go.Proofs.YtbagcjlimdilpabGreat

