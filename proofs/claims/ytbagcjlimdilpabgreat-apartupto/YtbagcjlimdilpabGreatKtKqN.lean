/- Walks of a story's play: an object is freed, or is held. -/
import Derived.Test.YtbagcjlimdilpabGreatKtKqM
import Derived.Deep.RegionHeld3
import Derived.Laws.AppendOwnNone
namespace Go.Proofs.YtbagcjlimdilpabGreat
open Go.RowKit Go.Maps

set_option maxHeartbeats 1000000 in
set_option maxRecDepth 100000 in
theorem play_free_held (F : Nat → Prop) (sb n : Nat) (ws now : List Int) (sts : List St) (what a b c : Int) (w : World) (hw : I64 what) (ha : I64 a) (hH : ∀ (hk : pickN a (things now).length < (things now).length), HeldBy now (objs now) ((((things now)[pickN a (things now).length]).1.block + 1 : Nat) : Int)) (h : Story F sb n ws now sts w) (hne : (things now).length ≠ 0) (hv : pickN what 8 = 2) :
    Calls Tryz.prog 5 #[.pointer (some ⟨sb, 0, none⟩), .int .i64 what, .int .i64 a, .int .i64 b, .int .i64 c] w fun e w' => e = .returned (.bool true) ∧ Played F sb n sts w w' := by
  obtain ⟨hb', tb, cb, mb, g, vs, vn, vk, un, uk, S, hF⟩ := h
  obtain ⟨l, hl⟩ : ∃ l, l = things now := ⟨_, rfl⟩
  have HL : Hid (l = things now) := hl
  have tn : ThAt w vn l un := by rw [hl]; exact S.tn
  rw [← hl] at hne
  have hk0 := pickN_lt a hne
  obtain ⟨k, hkd⟩ : ∃ k, k = pickN a l.length := ⟨_, rfl⟩
  have hk : k < l.length := by rw [hkd]; exact hk0
  have hm32 : l.length ≤ 32 := tn.n
  obtain ⟨g2, cv, gi, ci, hvn, hg2, d0, d1, d2, d3, hrow, huk, hfrz, hgi⟩ := tn.at' k hk
  have hc2 := S.c2
  have hc0 := S.c0
  rw [hvn] at hc2
  have HPA : Hid (∀ w1, Calls Tryz.prog 13 #[.int .i64 a, .int .i64 4] w1 fun e w' => e = .returned (.int .i64 (pickN a 4 : Nat)) ∧ w' = w1) := fun w1 => pickN_any a 4 w1 ha (by omega) (by omega)
  have HPM : Hid (∀ w1, Calls Tryz.prog 13 #[.int .i64 a, .int .i64 (l.length : Int)] w1 fun e w' => e = .returned (.int .i64 (k : Int)) ∧ w' = w1) := fun w1 => by rw [hkd]; exact pickN_any a l.length w1 ha (by omega) (by omega)
  have HPW : Hid (∀ w1, Calls Tryz.prog 13 #[.int .i64 what, .int .i64 8] w1 fun e w' => e = .returned (.int .i64 2) ∧ w' = w1) := fun w1 => by
    have := pickN_any what 8 w1 hw (by omega) (by omega)
    rwa [hv] at this
  have hq4 := pickN_lt a (n := 4) (by omega)
  obtain ⟨q, hq⟩ : ∃ q : Nat, q = pickN a 4 := ⟨_, rfl⟩
  rw [← hq] at HPA hq4
  have hfit := tn.fit _ (List.getElem_mem hk)
  obtain ⟨x, hx⟩ : ∃ x, x = l[k] := ⟨_, rfl⟩
  have HX : Hid (x = l[k]) := hx
  rw [← hx] at d0 d1 d2 d3 hrow hfit huk
  obtain ⟨⟨xb, xs, xp⟩, xw⟩ := x
  simp only at d0 d1 d2 d3 hrow hfit huk
  obtain ⟨hf1, hx1, hx4, hxp, hx32⟩ := hfit
  obtain ⟨B, hB⟩ : ∃ B : Nat, B = xb + 1 := ⟨_, rfl⟩
  rw [← hB] at d0
  have HB : Hid (B = xb + 1) := hB
  obtain ⟨M, hM⟩ : ∃ M : Nat, M = xw.length := ⟨_, rfl⟩
  rw [← hM] at d3
  have HM : Hid (M = xw.length ∧ xw.length = 8 * xs - 1) := ⟨hM, hf1⟩
  have hB32 : B ≤ 32 := by omega
  have hM31 : M ≤ 31 := by omega
  have hM1 : 7 ≤ M := by omega
  have hsbw : sb < w.heap.size := lt_of_block S.blk
  have hlk : pickN a (things now).length < (things now).length := by rw [← hl, ← hkd]; exact hk
  have hkk : k = pickN a (things now).length := by rw [hkd, hl]
  have hlT : k < (things now).length := by rw [← hl]; exact hk
  have hTk : (things now)[k] = ((⟨xb, xs, xp⟩ : Ob), xw) := by rw [hx]; simp only [hl]
  obtain ⟨hko, hTo⟩ := things_at hlT
  have hob : (objs now)[k] = (⟨xb, xs, xp⟩ : Ob) := by rw [hTk] at hTo; exact (congrArg Prod.fst hTo).symm
  have hBo : ((((objs now)[k]).block + 1 : Nat) : Int) = (B : Int) := by rw [hob]; simp only; omega
  have hHB : HeldBy now (objs now) (B : Int) := by
    have h1 := hH hlk
    have h2 : ((((things now)[pickN a (things now).length]).1.block + 1 : Nat) : Int) = (B : Int) := by
      have h3 : (things now)[pickN a (things now).length] = (things now)[k] := by simp only [hkk]
      rw [h3, hTk]
      simp only
      omega
    rw [h2] at h1
    exact h1
  have HFRE : Hid (∀ w1, Fr New w w1 → Calls Tryz.prog 15 #[.pointer (some ⟨hb', 0, none⟩), .int .i64 (B : Int)] w1 fun e w' => e = .returned (.int .i64 10) ∧ (PH hb' tb cb mb g vs ws now sts w') ∧ Fr (fun k => k = mb) w1 w') := fun w1 hf => by
    refine (hfree_any hb' tb cb mb g vs ws now sts (B : Int) w1 (by omega) (by omega) (S.new hf).ph).mono ?_
    rintro e w' ⟨r, c', rfl, hfi, hp, hfr⟩
    rw [← hBo] at hfi hHB
    rcases free_is S.hw.gn hko hfi with ⟨h1, h2, h3⟩ | ⟨h1, h2, h3⟩
    · subst h2 h3
      exact ⟨rfl, hp, hfr⟩
    · exact absurd hHB h1
  have HHE : Hid (∀ w1, ThAt w1 vn l un → Calls Tryz.prog 16 #[.agg #[vn, .int .i64 (wd now 3), .int .i64 (wd now 4), .int .i64 (wd now 5), .int .i64 (wd now 6)], .int .i64 (B : Int)] w1 fun e w' => e = .returned (.bool true) ∧ Fr New w1 w') := fun w1 ht => by
    refine (kheld_any vn l un _ _ _ _ B (by omega) w1 ht).mono ?_
    rintro e w' ⟨b', rfl, hb1, hf⟩
    rw [hl] at hb1
    have hb2 := hb1.trans held_iff
    rw [hb2.2 hHB]
    exact ⟨rfl, hf⟩
  have HKF : Hid (∀ wr w1 r, Fr New w wr → wr.heap[w.heap.size]? = some (.cells #[.int .i64 (B : Int), .int .i64 (xs : Int), .int .i64 (xp : Int), .slice (some ⟨gi, 0, none⟩) M ci] 53 (0, 0)) → PH hb' tb cb mb g vs ws r sts w1 → Fr (fun k => k = mb) wr w1 → w1.heap[sb]? = some (.cells (stArr hb' n vn vk now ws) 34 (0, 0)) ∧ w1.heap[w.heap.size]? = some (.cells #[.int .i64 (B : Int), .int .i64 (xs : Int), .int .i64 (xp : Int), .slice (some ⟨gi, 0, none⟩) M ci] 53 (0, 0)) ∧ ThAt w1 vn l un) := fun wr w1 r hf hT hph hfr => by
    have Sr := S.new hf
    obtain ⟨n1, n2, n3⟩ := Sr.next hfr hph
    rw [← hl] at n2
    exact ⟨n1, hfr.heap hT (Sr.ph.mapNe hT), n2⟩
  have HEND : Hid (∀ wr w1 w2, Fr New w wr → PH hb' tb cb mb g vs ws now sts w1 → Fr (fun k => k = mb) wr w1 → Fr New w1 w2 → Played F sb n sts w w2) := fun wr w1 w2 hf hph hfr hf2 => by
    have Sr := S.new hf
    obtain ⟨n1, n2, n3⟩ := Sr.next hfr hph
    refine ⟨F, ws, now, sts, Story.new ⟨hb', tb, cb, mb, g, vs, vn, vk, un, uk, ⟨n1, hph, S.hw, n2, n3, S.n, S.gn, S.gk, S.nk⟩, hF⟩ hf2, ?_, fun k hk => .inl hk, by omega⟩
    exact (((hf.mono (fun _ _ h => h.elim)).trans hfr (fun j _ e => by subst e; exact hF _ (.inr (.inr (.inr (.inr (.inl rfl)))))))).same hf2
  subst hvn
  have h00 : w.cell? ⟨sb, 0, none⟩ = some (.pointer (some ⟨hb', 0, none⟩)) := hc0
  obtain ⟨x3, h3⟩ : ∃ x, x = wd now 3 := ⟨_, rfl⟩
  obtain ⟨x4, h4⟩ : ∃ x, x = wd now 4 := ⟨_, rfl⟩
  obtain ⟨x5, h5⟩ : ∃ x, x = wd now 5 := ⟨_, rfl⟩
  obtain ⟨x6, h6⟩ : ∃ x, x = wd now 6 := ⟨_, rfl⟩
  unfold stArr at HKF
  rw [← h3, ← h4, ← h5, ← h6] at HKF HHE
  clear S hF hq hH hHB hBo hob hTo hlT hTk hlk hkk HX h3 h4 h5 h6
  clear tn hkd hk0 hl hf1 hB hM hx hrow huk hfrz
  go_enter Tryz.func5, Tryz.ntmps5
  have ht0 : (w.alloc (.cells #[.int .i64 (B : Int), .int .i64 (xs : Int), .int .i64 (xp : Int), .slice (some ⟨gi, 0, none⟩) M ci] 53)).heap[w.heap.size]? = some (.cells #[.int .i64 (B : Int), .int .i64 (xs : Int), .int .i64 (xp : Int), .slice (some ⟨gi, 0, none⟩) M ci] 53 (0, 0)) := Go.Deep.blk_alloc_new w _
  have hf0 : Fr New w (w.alloc (.cells #[.int .i64 (B : Int), .int .i64 (xs : Int), .int .i64 (xp : Int), .slice (some ⟨gi, 0, none⟩) M ci] 53)) := (Fr.refl New w).alloc _
  go_upto_region 11 with (first
    | (go_at_call_of 13 (Value.int .i64 4); refine calls_same (HPA.out _) ?_)
    | (go_at_call_of 13 (Value.int .i64 (l.length : Int)); refine calls_same (HPM.out _) ?_)
    | (go_at_call_of 13 (Value.int .i64 8); refine calls_same (HPW.out _) ?_)
    | fail)
  have hcW : (w.alloc (.cells #[.int .i64 (B : Int), .int .i64 (xs : Int), .int .i64 (xp : Int), .slice (some ⟨gi, 0, none⟩) M ci] 53)).cell? ⟨sb, 0, none⟩ = some (.pointer (some ⟨hb', 0, none⟩)) := hf0.cell h00 id
  obtain ⟨W, hW⟩ : ∃ W, W = w.alloc (.cells #[.int .i64 (B : Int), .int .i64 (xs : Int), .int .i64 (xp : Int), .slice (some ⟨gi, 0, none⟩) M ci] 53) := ⟨_, rfl⟩
  obtain ⟨gt, hgt⟩ : ∃ gt, gt = w.heap.size := ⟨_, rfl⟩
  rw [← hW] at hf0 hcW ht0
  rw [← hgt] at HKF ht0
  rw [← hW, ← hgt]
  have hgtW : gt < W.heap.size := lt_of_block ht0
  have e0 : W.cell? ⟨gt, 0, none⟩ = some (.int .i64 (B : Int)) := ((block_cells ht0).1 0).trans rfl
  have HTW : Hid (W.heap[gt]? = some (.cells #[.int .i64 (B : Int), .int .i64 (xs : Int), .int .i64 (xp : Int), .slice (some ⟨gi, 0, none⟩) M ci] 53 (0, 0))) := ht0
  have HF0 : Hid (Fr New w W) := hf0
  clear hW hgt ht0 hf0 d0 d1 d2 d3 h00 hc0 hc2
  go_region_held3 (fun w' => w'.cell? ⟨sb, 0, none⟩ = some (.pointer (some ⟨hb', 0, none⟩)) ∧ w'.cell? ⟨gt, 0, none⟩ = some (.int .i64 (B : Int))) (first | go_keep | exact hkeep2)
    (first
      | (go_at_call 15; refine (HFRE.out _ (by first | exact HF0.out | exact HF0.out.drew)).mono ?_; rintro e w1 ⟨rfl, hp1, hfr1⟩; have hfr1' : Fr (fun k => k = mb) W w1 := (by first | exact hfr1 | exact hfr1.undrew); obtain ⟨sb1, gt1, tn1⟩ := HKF.out W w1 _ HF0.out HTW.out hp1 hfr1'; have hkeep2 : w1.cell? ⟨sb, 0, none⟩ = some (.pointer (some ⟨hb', 0, none⟩)) ∧ w1.cell? ⟨gt, 0, none⟩ = some (.int .i64 (B : Int)) := ⟨((block_cells sb1).1 0).trans rfl, ((block_cells gt1).1 0).trans rfl⟩)
      | fail)
  all_goals
    have s2 : w1.cell? ⟨sb, 2, none⟩ = some (.slice (some ⟨g2, 0, none⟩) l.length cv) := ((block_cells sb1).1 2).trans rfl
    have s3 : w1.cell? ⟨sb, 3, none⟩ = some (.int .i64 x3) := ((block_cells sb1).1 3).trans rfl
    have s4 : w1.cell? ⟨sb, 4, none⟩ = some (.int .i64 x4) := ((block_cells sb1).1 4).trans rfl
    have s5 : w1.cell? ⟨sb, 5, none⟩ = some (.int .i64 x5) := ((block_cells sb1).1 5).trans rfl
    have s6 : w1.cell? ⟨sb, 6, none⟩ = some (.int .i64 x6) := ((block_cells sb1).1 6).trans rfl
    have f1 := hkeep2.2
    have HT1 : Hid (∀ w', Fr New w1 w' → ThAt w' (.slice (some ⟨g2, 0, none⟩) l.length cv) l un) := fun w' hf => tn1.new hf
    have HS1 : Hid (∀ w', Fr New w1 w' → w'.heap[sb]? = some (.cells #[.pointer (some ⟨hb', 0, none⟩), .int .i64 (n : Int), .slice (some ⟨g2, 0, none⟩) l.length cv, .int .i64 x3, .int .i64 x4, .int .i64 x5, .int .i64 x6, vk, .int .i64 (wd ws 3), .int .i64 (wd ws 4), .int .i64 (wd ws 5), .int .i64 (wd ws 6)] 34 (0, 0))) := fun w' hf => hf.heap sb1 id
    clear hkeep2 sb1 gt1 tn1
    go_upto_region 12 with fail
    go_region_held3 (fun w' => w'.cell? ⟨sb, 2, none⟩ = some (.slice (some ⟨g2, 0, none⟩) l.length cv) ∧ w'.cell? ⟨sb, 3, none⟩ = some (.int .i64 x3) ∧ w'.cell? ⟨sb, 4, none⟩ = some (.int .i64 x4) ∧ w'.cell? ⟨sb, 5, none⟩ = some (.int .i64 x5) ∧ w'.cell? ⟨sb, 6, none⟩ = some (.int .i64 x6) ∧ w'.cell? ⟨gt, 0, none⟩ = some (.int .i64 (B : Int))) (first | go_keep | exact hkeep3)
      (first
        | (go_at_call 16; refine (HHE.out _ (by first | exact HT1.out _ (Fr.refl _ _) | exact HT1.out _ (Fr.refl _ _).drew)).mono ?_; rintro e w2 ⟨rfl, hf2⟩; have hf2' : Fr New w1 w2 := (by first | exact hf2 | exact hf2.undrew); have hkeep3 : w2.cell? ⟨sb, 2, none⟩ = some (.slice (some ⟨g2, 0, none⟩) l.length cv) ∧ w2.cell? ⟨sb, 3, none⟩ = some (.int .i64 x3) ∧ w2.cell? ⟨sb, 4, none⟩ = some (.int .i64 x4) ∧ w2.cell? ⟨sb, 5, none⟩ = some (.int .i64 x5) ∧ w2.cell? ⟨sb, 6, none⟩ = some (.int .i64 x6) ∧ w2.cell? ⟨gt, 0, none⟩ = some (.int .i64 (B : Int)) := ⟨hf2'.cell s2 id, hf2'.cell s3 id, hf2'.cell s4 id, hf2'.cell s5 id, hf2'.cell s6 id, hf2'.cell f1 id⟩)
        | fail)
    all_goals
      clear hkeep3
      go_wp2_with fail
      go_ret
      exact ⟨rfl, HEND.out W w1 _ HF0.out hp1 hfr1' (by first | exact hf2' | exact hf2'.drew)⟩
set_option maxHeartbeats 1000000 in
set_option maxRecDepth 100000 in
theorem play_free (F : Nat → Prop) (sb n : Nat) (ws now : List Int) (sts : List St) (what a b c : Int) (w : World) (hw : I64 what) (ha : I64 a) (hH : ∀ (hk : pickN a (things now).length < (things now).length), ¬ HeldBy now (objs now) ((((things now)[pickN a (things now).length]).1.block + 1 : Nat) : Int)) (h : Story F sb n ws now sts w) (hne : (things now).length ≠ 0) (hv : pickN what 8 = 2) :
    Calls Tryz.prog 5 #[.pointer (some ⟨sb, 0, none⟩), .int .i64 what, .int .i64 a, .int .i64 b, .int .i64 c] w fun e w' => e = .returned (.bool true) ∧ Played F sb n sts w w' := by
  obtain ⟨hb', tb, cb, mb, g, vs, vn, vk, un, uk, S, hF⟩ := h
  obtain ⟨l, hl⟩ : ∃ l, l = things now := ⟨_, rfl⟩
  have HL : Hid (l = things now) := hl
  have tn : ThAt w vn l un := by rw [hl]; exact S.tn
  rw [← hl] at hne
  have hk0 := pickN_lt a hne
  obtain ⟨k, hkd⟩ : ∃ k, k = pickN a l.length := ⟨_, rfl⟩
  have hk : k < l.length := by rw [hkd]; exact hk0
  have hm32 : l.length ≤ 32 := tn.n
  obtain ⟨g2, cv, gi, ci, hvn, hg2, d0, d1, d2, d3, hrow, huk, hfrz, hgi⟩ := tn.at' k hk
  have hc2 := S.c2
  have hc0 := S.c0
  rw [hvn] at hc2
  have HPA : Hid (∀ w1, Calls Tryz.prog 13 #[.int .i64 a, .int .i64 4] w1 fun e w' => e = .returned (.int .i64 (pickN a 4 : Nat)) ∧ w' = w1) := fun w1 => pickN_any a 4 w1 ha (by omega) (by omega)
  have HPM : Hid (∀ w1, Calls Tryz.prog 13 #[.int .i64 a, .int .i64 (l.length : Int)] w1 fun e w' => e = .returned (.int .i64 (k : Int)) ∧ w' = w1) := fun w1 => by rw [hkd]; exact pickN_any a l.length w1 ha (by omega) (by omega)
  have HPW : Hid (∀ w1, Calls Tryz.prog 13 #[.int .i64 what, .int .i64 8] w1 fun e w' => e = .returned (.int .i64 2) ∧ w' = w1) := fun w1 => by
    have := pickN_any what 8 w1 hw (by omega) (by omega)
    rwa [hv] at this
  have hq4 := pickN_lt a (n := 4) (by omega)
  obtain ⟨q, hq⟩ : ∃ q : Nat, q = pickN a 4 := ⟨_, rfl⟩
  rw [← hq] at HPA hq4
  have hfit := tn.fit _ (List.getElem_mem hk)
  obtain ⟨x, hx⟩ : ∃ x, x = l[k] := ⟨_, rfl⟩
  have HX : Hid (x = l[k]) := hx
  rw [← hx] at d0 d1 d2 d3 hrow hfit huk
  obtain ⟨⟨xb, xs, xp⟩, xw⟩ := x
  simp only at d0 d1 d2 d3 hrow hfit huk
  obtain ⟨hf1, hx1, hx4, hxp, hx32⟩ := hfit
  obtain ⟨B, hB⟩ : ∃ B : Nat, B = xb + 1 := ⟨_, rfl⟩
  rw [← hB] at d0
  have HB : Hid (B = xb + 1) := hB
  obtain ⟨M, hM⟩ : ∃ M : Nat, M = xw.length := ⟨_, rfl⟩
  rw [← hM] at d3
  have HM : Hid (M = xw.length ∧ xw.length = 8 * xs - 1) := ⟨hM, hf1⟩
  have hB32 : B ≤ 32 := by omega
  have hM31 : M ≤ 31 := by omega
  have hM1 : 7 ≤ M := by omega
  have hsbw : sb < w.heap.size := lt_of_block S.blk
  have hlk : pickN a (things now).length < (things now).length := by rw [← hl, ← hkd]; exact hk
  have hkk : k = pickN a (things now).length := by rw [hkd, hl]
  have hlT : k < (things now).length := by rw [← hl]; exact hk
  have hTk : (things now)[k] = ((⟨xb, xs, xp⟩ : Ob), xw) := by rw [hx]; simp only [hl]
  obtain ⟨hko, hTo⟩ := things_at hlT
  have hob : (objs now)[k] = (⟨xb, xs, xp⟩ : Ob) := by rw [hTk] at hTo; exact (congrArg Prod.fst hTo).symm
  have hBo : ((((objs now)[k]).block + 1 : Nat) : Int) = (B : Int) := by rw [hob]; simp only; omega
  have hHB : ¬ HeldBy now (objs now) (B : Int) := by
    have h1 := hH hlk
    have h2 : ((((things now)[pickN a (things now).length]).1.block + 1 : Nat) : Int) = (B : Int) := by
      have h3 : (things now)[pickN a (things now).length] = (things now)[k] := by simp only [hkk]
      rw [h3, hTk]
      simp only
      omega
    rw [h2] at h1
    exact h1
  have HFRE : Hid (∀ w1, Fr New w w1 → Calls Tryz.prog 15 #[.pointer (some ⟨hb', 0, none⟩), .int .i64 (B : Int)] w1 fun e w' => e = .returned (.int .i64 0) ∧ (∃ r, Freed now r (objs now)[k] ((objs now).take k) ((objs now).drop (k + 1)) ∧ PH hb' tb cb mb g vs ws r sts w') ∧ Fr (fun k => k = mb) w1 w') := fun w1 hf => by
    refine (hfree_any hb' tb cb mb g vs ws now sts (B : Int) w1 (by omega) (by omega) (S.new hf).ph).mono ?_
    rintro e w' ⟨r, c', rfl, hfi, hp, hfr⟩
    rw [← hBo] at hfi hHB
    rcases free_is S.hw.gn hko hfi with ⟨h1, h2, h3⟩ | ⟨h1, h2, h3⟩
    · exact absurd h1 hHB
    · subst h3
      exact ⟨rfl, ⟨r, h2, hp⟩, hfr⟩
  have HHE : Hid (∀ w1, ThAt w1 vn l un → Calls Tryz.prog 16 #[.agg #[vn, .int .i64 (wd now 3), .int .i64 (wd now 4), .int .i64 (wd now 5), .int .i64 (wd now 6)], .int .i64 (B : Int)] w1 fun e w' => e = .returned (.bool false) ∧ Fr New w1 w') := fun w1 ht => by
    refine (kheld_any vn l un _ _ _ _ B (by omega) w1 ht).mono ?_
    rintro e w' ⟨b', rfl, hb1, hf⟩
    rw [hl] at hb1
    have hb2 := hb1.trans held_iff
    have : b' = false := by
      rcases b' with _ | _
      · rfl
      · exact absurd (hb2.1 rfl) hHB
    rw [this]
    exact ⟨rfl, hf⟩
  have HKF : Hid (∀ wr w1 r, Fr New w wr → wr.heap[w.heap.size]? = some (.cells #[.int .i64 (B : Int), .int .i64 (xs : Int), .int .i64 (xp : Int), .slice (some ⟨gi, 0, none⟩) M ci] 53 (0, 0)) → PH hb' tb cb mb g vs ws r sts w1 → Fr (fun k => k = mb) wr w1 → w1.heap[sb]? = some (.cells (stArr hb' n vn vk now ws) 34 (0, 0)) ∧ w1.heap[w.heap.size]? = some (.cells #[.int .i64 (B : Int), .int .i64 (xs : Int), .int .i64 (xp : Int), .slice (some ⟨gi, 0, none⟩) M ci] 53 (0, 0)) ∧ ThAt w1 vn l un) := fun wr w1 r hf hT hph hfr => by
    have Sr := S.new hf
    obtain ⟨n1, n2, n3⟩ := Sr.next hfr hph
    rw [← hl] at n2
    exact ⟨n1, hfr.heap hT (Sr.ph.mapNe hT), n2⟩
  obtain ⟨i1, hi1, hy0, hy1, hy2⟩ := info_parts Tryz.info53
  have HEND : Hid (∀ wr w1 w6 r v6, Fr New w wr → Freed now r (objs now)[k] ((objs now).take k) ((objs now).drop (k + 1)) → PH hb' tb cb mb g vs ws r sts w1 → Fr (fun k => k = mb) wr w1 → Fr New w1 w6 → w6.ownsRow w1.heap.size 53 4 v6 (l.length - 1) (ktCells (l.take k ++ l.drop (k + 1)) (un.take k ++ un.drop (k + 1))) → Played F sb n sts w (w6.setCell ⟨sb, 2, none⟩ v6)) := fun wr w1 w6 r v6 hf hA hph hfr hf6 ho => by
    rw [hl] at ho
    obtain ⟨F', q1, q2, q3⟩ := free_end S hF hf hko hA hfr hph hf6 ho
    exact ⟨F', ws, r, sts, q1, q2, q3, by omega⟩
  have HUN : Hid (un.length = l.length) := tn.len
  have HONE : Hid (∀ u ∈ un, u.oneCell' = true) := tn.one
  subst hvn
  have h00 : w.cell? ⟨sb, 0, none⟩ = some (.pointer (some ⟨hb', 0, none⟩)) := hc0
  obtain ⟨x3, h3⟩ : ∃ x, x = wd now 3 := ⟨_, rfl⟩
  obtain ⟨x4, h4⟩ : ∃ x, x = wd now 4 := ⟨_, rfl⟩
  obtain ⟨x5, h5⟩ : ∃ x, x = wd now 5 := ⟨_, rfl⟩
  obtain ⟨x6, h6⟩ : ∃ x, x = wd now 6 := ⟨_, rfl⟩
  unfold stArr at HKF
  rw [← h3, ← h4, ← h5, ← h6] at HKF HHE
  clear S hF hq hH hHB hBo hob hTo hlT hTk hlk hkk HX h3 h4 h5 h6
  clear tn hkd hk0 hl hf1 hB hM hx hrow huk hfrz
  go_enter Tryz.func5, Tryz.ntmps5
  have ht0 : (w.alloc (.cells #[.int .i64 (B : Int), .int .i64 (xs : Int), .int .i64 (xp : Int), .slice (some ⟨gi, 0, none⟩) M ci] 53)).heap[w.heap.size]? = some (.cells #[.int .i64 (B : Int), .int .i64 (xs : Int), .int .i64 (xp : Int), .slice (some ⟨gi, 0, none⟩) M ci] 53 (0, 0)) := Go.Deep.blk_alloc_new w _
  have hf0 : Fr New w (w.alloc (.cells #[.int .i64 (B : Int), .int .i64 (xs : Int), .int .i64 (xp : Int), .slice (some ⟨gi, 0, none⟩) M ci] 53)) := (Fr.refl New w).alloc _
  go_upto_region 11 with (first
    | (go_at_call_of 13 (Value.int .i64 4); refine calls_same (HPA.out _) ?_)
    | (go_at_call_of 13 (Value.int .i64 (l.length : Int)); refine calls_same (HPM.out _) ?_)
    | (go_at_call_of 13 (Value.int .i64 8); refine calls_same (HPW.out _) ?_)
    | fail)
  have hcW : (w.alloc (.cells #[.int .i64 (B : Int), .int .i64 (xs : Int), .int .i64 (xp : Int), .slice (some ⟨gi, 0, none⟩) M ci] 53)).cell? ⟨sb, 0, none⟩ = some (.pointer (some ⟨hb', 0, none⟩)) := hf0.cell h00 id
  obtain ⟨W, hW⟩ : ∃ W, W = w.alloc (.cells #[.int .i64 (B : Int), .int .i64 (xs : Int), .int .i64 (xp : Int), .slice (some ⟨gi, 0, none⟩) M ci] 53) := ⟨_, rfl⟩
  obtain ⟨gt, hgt⟩ : ∃ gt, gt = w.heap.size := ⟨_, rfl⟩
  rw [← hW] at hf0 hcW ht0
  rw [← hgt] at HKF ht0
  rw [← hW, ← hgt]
  have hgtW : gt < W.heap.size := lt_of_block ht0
  have e0 : W.cell? ⟨gt, 0, none⟩ = some (.int .i64 (B : Int)) := ((block_cells ht0).1 0).trans rfl
  have HTW : Hid (W.heap[gt]? = some (.cells #[.int .i64 (B : Int), .int .i64 (xs : Int), .int .i64 (xp : Int), .slice (some ⟨gi, 0, none⟩) M ci] 53 (0, 0))) := ht0
  have HF0 : Hid (Fr New w W) := hf0
  clear hW hgt ht0 hf0 d0 d1 d2 d3 h00 hc0 hc2
  go_region_held3 (fun w' => w'.cell? ⟨sb, 0, none⟩ = some (.pointer (some ⟨hb', 0, none⟩)) ∧ w'.cell? ⟨gt, 0, none⟩ = some (.int .i64 (B : Int))) (first | go_keep | exact hkeep2)
    (first
      | (go_at_call 15; refine (HFRE.out _ (by first | exact HF0.out | exact HF0.out.drew)).mono ?_; rintro e w1 ⟨rfl, ⟨r, hA1, hp1⟩, hfr1⟩; have hfr1' : Fr (fun k => k = mb) W w1 := (by first | exact hfr1 | exact hfr1.undrew); obtain ⟨sb1, gt1, tn1⟩ := HKF.out W w1 _ HF0.out HTW.out hp1 hfr1'; have hkeep2 : w1.cell? ⟨sb, 0, none⟩ = some (.pointer (some ⟨hb', 0, none⟩)) ∧ w1.cell? ⟨gt, 0, none⟩ = some (.int .i64 (B : Int)) := ⟨((block_cells sb1).1 0).trans rfl, ((block_cells gt1).1 0).trans rfl⟩)
      | fail)
  all_goals
    have s2 : w1.cell? ⟨sb, 2, none⟩ = some (.slice (some ⟨g2, 0, none⟩) l.length cv) := ((block_cells sb1).1 2).trans rfl
    have s3 : w1.cell? ⟨sb, 3, none⟩ = some (.int .i64 x3) := ((block_cells sb1).1 3).trans rfl
    have s4 : w1.cell? ⟨sb, 4, none⟩ = some (.int .i64 x4) := ((block_cells sb1).1 4).trans rfl
    have s5 : w1.cell? ⟨sb, 5, none⟩ = some (.int .i64 x5) := ((block_cells sb1).1 5).trans rfl
    have s6 : w1.cell? ⟨sb, 6, none⟩ = some (.int .i64 x6) := ((block_cells sb1).1 6).trans rfl
    have f1 := hkeep2.2
    have HT1 : Hid (∀ w', Fr New w1 w' → ThAt w' (.slice (some ⟨g2, 0, none⟩) l.length cv) l un) := fun w' hf => tn1.new hf
    have HS1 : Hid (∀ w', Fr New w1 w' → w'.heap[sb]? = some (.cells #[.pointer (some ⟨hb', 0, none⟩), .int .i64 (n : Int), .slice (some ⟨g2, 0, none⟩) l.length cv, .int .i64 x3, .int .i64 x4, .int .i64 x5, .int .i64 x6, vk, .int .i64 (wd ws 3), .int .i64 (wd ws 4), .int .i64 (wd ws 5), .int .i64 (wd ws 6)] 34 (0, 0))) := fun w' hf => hf.heap sb1 id
    clear hkeep2 sb1 gt1 tn1
    go_upto_region 12 with fail
    go_region_held3 (fun w' => w'.cell? ⟨sb, 2, none⟩ = some (.slice (some ⟨g2, 0, none⟩) l.length cv) ∧ w'.cell? ⟨sb, 3, none⟩ = some (.int .i64 x3) ∧ w'.cell? ⟨sb, 4, none⟩ = some (.int .i64 x4) ∧ w'.cell? ⟨sb, 5, none⟩ = some (.int .i64 x5) ∧ w'.cell? ⟨sb, 6, none⟩ = some (.int .i64 x6) ∧ w'.cell? ⟨gt, 0, none⟩ = some (.int .i64 (B : Int))) (first | go_keep | exact hkeep3)
      (first
        | (go_at_call 16; refine (HHE.out _ (by first | exact HT1.out _ (Fr.refl _ _) | exact HT1.out _ (Fr.refl _ _).drew)).mono ?_; rintro e w2 ⟨rfl, hf2⟩; have hf2' : Fr New w1 w2 := (by first | exact hf2 | exact hf2.undrew); have hkeep3 : w2.cell? ⟨sb, 2, none⟩ = some (.slice (some ⟨g2, 0, none⟩) l.length cv) ∧ w2.cell? ⟨sb, 3, none⟩ = some (.int .i64 x3) ∧ w2.cell? ⟨sb, 4, none⟩ = some (.int .i64 x4) ∧ w2.cell? ⟨sb, 5, none⟩ = some (.int .i64 x5) ∧ w2.cell? ⟨sb, 6, none⟩ = some (.int .i64 x6) ∧ w2.cell? ⟨gt, 0, none⟩ = some (.int .i64 (B : Int)) := ⟨hf2'.cell s2 id, hf2'.cell s3 id, hf2'.cell s4 id, hf2'.cell s5 id, hf2'.cell s6 id, hf2'.cell f1 id⟩)
        | fail)
    all_goals
      have hk2 := hkeep3.1
      have hf2s : Fr New w1 w2 := hf2'
      have HT2 : Hid (ThAt w2 (.slice (some ⟨g2, 0, none⟩) l.length cv) l un) := HT1.out w2 hf2'
      have HC1 : Hid _ := HT2.out.cells k (by omega)
      have HC2 : Hid _ := HT2.out.cells (k + 1) (by omega)
      have HC0 : Hid (∀ w4, Fr New w2 w4 → ∀ j u, (ktCells (l.drop (k + 1)) (un.drop (k + 1)))[j]? = some u → w4.cell? ((⟨g2, (k + 1) * 4, none⟩ : Addr).add j) = some u) := fun w4 hf4 => ((HT2.out.new hf4).cells (k + 1) (by omega)).2.1.2
      have hkcv : k ≤ cv ∧ k + 1 ≤ cv := by have := HC1.out.2.2.1; omega
      obtain ⟨hkc1, hkc2⟩ := hkcv
      clear hkeep3
      by_cases hcv : cv = k + 1
      · subst hcv
        have hlk1 : l.length = k + 1 := by have := HC1.out.2.2.1; omega
        have HC3 : Hid (∀ w4, Fr New w2 w4 → ∀ j u, (ktCells (l.drop (k + 1)) (un.drop (k + 1)))[j]? = some u → w4.cell? ((⟨g2, 0, none⟩ : Addr).add j) = some u) := fun w4 _ j u hj => by
          have := HC2.out.2.1.1
          rw [List.getElem?_eq_none (by omega)] at hj
          cases hj
        have HLK : Hid (l.length = k + 1) := hlk1
        clear hlk1
        go_wp2_with (first
          | (at_builtin; refine wpList_append_own_at _ rfl (.tmp 86) (.tmp 93) 29 rfl w2.heap.size 53 i1 _ 4 48 Tryz.underlying29 hi1 hy0 hy1 hy2 rfl (by decide) _ _ _ rfl (World.ownsRow_nil _ w2.heap.size 53 4) ⟨g2, 0, none⟩ k (k + 1) (ktCells (l.take k) (un.take k)) rfl HC1.out.1.1 HC1.out.1.2 (ktCells_one _ _ (fun u hu => HONE.out u (List.mem_of_mem_take hu))) (by unfold maxLen; omega) (by omega) (by simp) ?_; intro v4 w4 ho4 hg4 _ _; have hf4 : Fr New w2 w4 := (Fr.refl New w2).grownNew hg4; have t2 : w4.cell? ⟨sb, 2, none⟩ = some (.slice (some ⟨g2, 0, none⟩) l.length (k + 1)) := hf4.cell hk2 id; have hsb4 : sb < w4.heap.size := World.block_lt_of_cell? w4 _ t2)
          | (at_builtin; refine wpList_append_own_at _ rfl (.tmp 96) (.tmp 104) 29 rfl w2.heap.size 53 i1 _ 4 48 Tryz.underlying29 hi1 hy0 hy1 hy2 rfl (by decide) _ _ _ rfl ho4 ⟨g2, 0, none⟩ (l.length - (k + 1)) _ (ktCells (l.drop (k + 1)) (un.drop (k + 1))) rfl HC2.out.2.1.1 (HC3.out w4 hf4) (ktCells_one _ _ (fun u hu => HONE.out u (List.mem_of_mem_drop hu))) (by unfold maxLen; omega) (by omega) (by have := hf4.size; omega) ?_; intro v6 w6 ho6 hg6 _ _; have hf6 : Fr New w2 w6 := hf4.grown hg6 (fun k hk e => by have := (own_block ho4 e).1; omega); have t6 : w6.cell? ⟨sb, 2, none⟩ = some (.slice (some ⟨g2, 0, none⟩) l.length (k + 1)) := hf6.cell hk2 id; have z6 := (block_cells (HS1.out w6 (hf2'.same hf6))).2 2; have hsb6 : sb < w6.heap.size := World.block_lt_of_cell? w6 _ t6; obtain ⟨a6, c6, rfl⟩ := own_slice ho6)
          | fail)
        go_ret
        refine ⟨rfl, HEND.out W w1 w6 r _ HF0.out hA1 hp1 hfr1' (hf2'.same hf6) ?_⟩
        rw [ktCells_app _ _ _ _ (by simp; have := HUN.out; omega)]
        have hn : k + (l.length - (k + 1)) = l.length - 1 := by omega
        simp only [Nat.zero_add, List.nil_append] at ho6
        rw [hn] at ho6 ⊢
        refine own_le ho6 hf2'.size
      · have HC3 := HC0
        go_wp2_with (first
          | (at_builtin; refine wpList_append_own_at _ rfl (.tmp 86) (.tmp 93) 29 rfl w2.heap.size 53 i1 _ 4 48 Tryz.underlying29 hi1 hy0 hy1 hy2 rfl (by decide) _ _ _ rfl (World.ownsRow_nil _ w2.heap.size 53 4) ⟨g2, 0, none⟩ k cv (ktCells (l.take k) (un.take k)) rfl HC1.out.1.1 HC1.out.1.2 (ktCells_one _ _ (fun u hu => HONE.out u (List.mem_of_mem_take hu))) (by unfold maxLen; omega) (by omega) (by simp) ?_; intro v4 w4 ho4 hg4 _ _; have hf4 : Fr New w2 w4 := (Fr.refl New w2).grownNew hg4; have t2 : w4.cell? ⟨sb, 2, none⟩ = some (.slice (some ⟨g2, 0, none⟩) l.length cv) := hf4.cell hk2 id; have hsb4 : sb < w4.heap.size := World.block_lt_of_cell? w4 _ t2)
          | (at_builtin; refine wpList_append_own_at _ rfl (.tmp 96) (.tmp 104) 29 rfl w2.heap.size 53 i1 _ 4 48 Tryz.underlying29 hi1 hy0 hy1 hy2 rfl (by decide) _ _ _ rfl ho4 ⟨g2, (k + 1) * 4, none⟩ (l.length - (k + 1)) _ (ktCells (l.drop (k + 1)) (un.drop (k + 1))) rfl HC2.out.2.1.1 (HC3.out w4 hf4) (ktCells_one _ _ (fun u hu => HONE.out u (List.mem_of_mem_drop hu))) (by unfold maxLen; omega) (by omega) (by have := hf4.size; omega) ?_; intro v6 w6 ho6 hg6 _ _; have hf6 : Fr New w2 w6 := hf4.grown hg6 (fun k hk e => by have := (own_block ho4 e).1; omega); have t6 : w6.cell? ⟨sb, 2, none⟩ = some (.slice (some ⟨g2, 0, none⟩) l.length cv) := hf6.cell hk2 id; have z6 := (block_cells (HS1.out w6 (hf2'.same hf6))).2 2; have hsb6 : sb < w6.heap.size := World.block_lt_of_cell? w6 _ t6; obtain ⟨a6, c6, rfl⟩ := own_slice ho6)
          | fail)
        go_ret
        refine ⟨rfl, HEND.out W w1 w6 r _ HF0.out hA1 hp1 hfr1' (hf2'.same hf6) ?_⟩
        rw [ktCells_app _ _ _ _ (by simp; have := HUN.out; omega)]
        have hn : k + (l.length - (k + 1)) = l.length - 1 := by omega
        simp only [Nat.zero_add, List.nil_append] at ho6
        rw [hn] at ho6 ⊢
        refine own_le ho6 hf2'.size
end Go.Proofs.YtbagcjlimdilpabGreat

