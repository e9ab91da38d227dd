/- Walks of a story's play: an object more; a root; what is taken back; a commit. -/
import Derived.Test.YtbagcjlimdilpaaGreatKtKqD
import Derived.Test.YtbagcjlimdilpaaGreatKtKqG
import Derived.Test.YtbagcjlimdilpaaGreatKtJ12
namespace Go.Proofs.YtbagcjlimdilpaaGreat
open Go.RowKit Go.Maps

/-- which of n things the raw number c speaks of, as a number without a sign -/
def pickN (c : Int) (n : Nat) : Nat := (pickI c n).toNat
theorem pickN_lt (c : Int) {n : Nat} (hn : n ≠ 0) : pickN c n < n := by
  have h0 := pickI_nonneg c n (by omega)
  have h1 := pickI_lt c n (by omega)
  unfold pickN
  omega
/-- a number of 64 bits, with its sign -/
def I64 (c : Int) : Prop := -9223372036854775808 ≤ c ∧ c ≤ 9223372036854775807
theorem pickN_any (c : Int) (n : Nat) (w : World) (h : I64 c) (hn : n ≠ 0) (hn1 : n ≤ 1048576) : Calls Tryz.prog 16 #[.int .i64 c, .int .i64 (n : Int)] w fun e w' => e = .returned (.int .i64 (pickN c n : Nat)) ∧ w' = w := by
  have h0 := pickI_nonneg c n (by omega)
  refine (pick_any c n w h.1 h.2 (by omega) (by omega)).mono ?_
  rintro e w' ⟨rfl, rfl⟩
  exact ⟨ret_i (by unfold pickN; omega), rfl⟩
/-- what one play makes of a story -/
def Played (F : Nat → Prop) (sb n : Nat) (sts : List St) (w w' : World) : Prop := ∃ F' ws' now' sts', Story F' sb n ws' now' sts' w' ∧ Fr F w w' ∧ (∀ k, F' k → F k ∨ w.heap.size ≤ k) ∧ sts'.length ≤ sts.length + 151
theorem Story.sty_n {F : Nat → Prop} {sb n : Nat} {ws now : List Int} {sts : List St} {w : World} (h : Story F sb n ws now sts w) : ∃ av cv, w.cell? ⟨sb, 2, none⟩ = some (.slice av (things now).length cv) ∧ (things now).length ≤ 32 := by
  obtain ⟨hb, tb, cb, mb, g, vs, vn, vk, un, uk, S, _⟩ := h
  obtain ⟨av, cv, e⟩ := S.tn.slice
  exact ⟨av, cv, by rw [← e]; exact S.c2, S.tn.n⟩
theorem Story.new {F : Nat → Prop} {sb n : Nat} {ws now : List Int} {sts : List St} {w w' : World} (h : Story F sb n ws now sts w) (hf : Fr New w w') : Story F sb n ws now sts w' := h.fr hf (fun _ _ _ h => h)
theorem sts_len (ws now : List Int) : (pcommitSt ws now).length = 3 * (recsOf ws (nextS now)).length + 7 := by
  unfold pcommitSt enterSt carrySt putsSt
  simp [logPs_len]
  omega
theorem commit_len {ws now ws' now' : List Int} {sts sts' : List St} (h : CommitR ws now sts ws' now' sts') : sts'.length ≤ sts.length + 151 := by
  rcases h with ⟨_, _, _, rfl⟩ | ⟨_, _, _, _, rfl⟩ | ⟨_, h48, _, _, rfl⟩
  · omega
  · omega
  · have := (sts_len ws now)
    simp only [List.length_append]
    omega
set_option maxRecDepth 100000 in
/-- an object more, where there is none -/
theorem play_none (F : Nat → Prop) (sb n : Nat) (ws now : List Int) (sts : List St) (what a b c : Int) (w : World) (ha : I64 a) (hb : I64 b) (h : Story F sb n ws now sts w) (h0 : (things now).length = 0) :
    Calls Tryz.prog 18 #[.pointer (some ⟨sb, 0, none⟩), .int .i64 what, .int .i64 a, .int .i64 b, .int .i64 c] w fun e w' => e = .returned (.bool true) ∧ Played F sb n sts w w' := by
  obtain ⟨av, cv, hc2, _⟩ := h.sty_n
  rw [h0] at hc2
  have hp4 := pickN_lt a (n := 4) (by omega)
  have HPA : Hid (∀ w1, Calls Tryz.prog 16 #[.int .i64 a, .int .i64 4] w1 fun e w' => e = .returned (.int .i64 (pickN a 4 : Nat)) ∧ w' = w1) := fun w1 => pickN_any a 4 w1 ha (by omega) (by omega)
  obtain ⟨q, hq⟩ : ∃ q : Nat, q = pickN a 4 := ⟨_, rfl⟩
  rw [← hq] at HPA hp4
  have hp8 := pickN_lt b (n := 8 * (1 + q)) (by omega)
  have HPB : Hid (∀ w1, Calls Tryz.prog 16 #[.int .i64 b, .int .i64 (8 * (1 + (q : Int)))] w1 fun e w' => e = .returned (.int .i64 (pickN b (8 * (1 + q)) : Nat)) ∧ w' = w1) := fun w1 => by
    have := pickN_any b (8 * (1 + q)) w1 hb (by omega) (by omega)
    rwa [show ((8 * (1 + q) : Nat) : Int) = 8 * (1 + (q : Int)) by omega] at this
  obtain ⟨p, hp⟩ : ∃ p : Nat, p = pickN b (8 * (1 + q)) := ⟨_, rfl⟩
  have HAL : Hid (Calls Tryz.prog 23 #[.pointer (some ⟨sb, 0, none⟩), .int .i64 (1 + (q : Int)), .int .i64 (p : Int)] w fun e w' => e = .returned (.bool true) ∧ Played F sb n sts w w') := by
    have := kalloc_any F sb n ws now sts (1 + q) p (by omega) (by omega) (by omega) w h
    rw [show ((1 + q : Nat) : Int) = 1 + (q : Int) by omega] at this
    refine this.mono ?_
    rintro e w' ⟨rfl, now', F', q1, q2, q3, _⟩
    exact ⟨rfl, F', ws, now', sts, q1, q2, q3, by omega⟩
  rw [← hp] at HPB
  clear h h0 hp hp8 hq
  go_enter Tryz.func18, Tryz.ntmps18
  go_wp2_with (first
    | (go_at_call_of 16 (Value.int .i64 b); refine calls_same (HPB.out _) ?_)
    | (go_at_call_of 16 (Value.int .i64 4); refine calls_same (HPA.out _) ?_)
    | (go_at_call 23; refine HAL.out.mono ?_; rintro e w1 ⟨rfl, hend⟩)
    | fail)
  go_ret
  exact ⟨rfl, hend⟩
set_option maxHeartbeats 1000000 in
set_option maxRecDepth 100000 in
theorem play_more (F : Nat → Prop) (sb n : Nat) (ws now : List Int) (sts : List St) (what a b c : Int) (w : World) (hw : I64 what) (ha : I64 a) (hb : I64 b) (h : Story F sb n ws now sts w) (hne : (things now).length ≠ 0) (hv : pickN what 8 = 0) :
    Calls Tryz.prog 18 #[.pointer (some ⟨sb, 0, none⟩), .int .i64 what, .int .i64 a, .int .i64 b, .int .i64 c] w fun e w' => e = .returned (.bool true) ∧ Played F sb n sts w w' := by
  obtain ⟨hb', tb, cb, mb, g, vs, vn, vk, un, uk, S, hF⟩ := h
  obtain ⟨l, hl⟩ : ∃ l, l = things now := ⟨_, rfl⟩
  have HL : Hid (l = things now) := hl
  have tn : ThAt w vn l un := by rw [hl]; exact S.tn
  rw [← hl] at hne
  have hk0 := pickN_lt a hne
  obtain ⟨k, hkd⟩ : ∃ k, k = pickN a l.length := ⟨_, rfl⟩
  have hk : k < l.length := by rw [hkd]; exact hk0
  have hm32 : l.length ≤ 32 := tn.n
  obtain ⟨g2, cv, gi, ci, hvn, hg2, d0, d1, d2, d3, hrow, huk, hfrz, hgi⟩ := tn.at' k hk
  have hc2 := S.c2
  have hc0 := S.c0
  rw [hvn] at hc2
  have HPA : Hid (∀ w1, Calls Tryz.prog 16 #[.int .i64 a, .int .i64 4] w1 fun e w' => e = .returned (.int .i64 (pickN a 4 : Nat)) ∧ w' = w1) := fun w1 => pickN_any a 4 w1 ha (by omega) (by omega)
  have HPM : Hid (∀ w1, Calls Tryz.prog 16 #[.int .i64 a, .int .i64 (l.length : Int)] w1 fun e w' => e = .returned (.int .i64 (k : Int)) ∧ w' = w1) := fun w1 => by rw [hkd]; exact pickN_any a l.length w1 ha (by omega) (by omega)
  have HPW : Hid (∀ w1, Calls Tryz.prog 16 #[.int .i64 what, .int .i64 8] w1 fun e w' => e = .returned (.int .i64 0) ∧ w' = w1) := fun w1 => by
    have := pickN_any what 8 w1 hw (by omega) (by omega)
    rwa [hv] at this
  have hq4 := pickN_lt a (n := 4) (by omega)
  obtain ⟨q, hq⟩ : ∃ q : Nat, q = pickN a 4 := ⟨_, rfl⟩
  rw [← hq] at HPA hq4
  have hfit := tn.fit _ (List.getElem_mem hk)
  obtain ⟨x, hx⟩ : ∃ x, x = l[k] := ⟨_, rfl⟩
  have HX : Hid (x = l[k]) := hx
  rw [← hx] at d0 d1 d2 d3 hrow hfit huk
  obtain ⟨⟨xb, xs, xp⟩, xw⟩ := x
  simp only at d0 d1 d2 d3 hrow hfit huk
  obtain ⟨hf1, hx1, hx4, hxp, hx32⟩ := hfit
  obtain ⟨B, hB⟩ : ∃ B : Nat, B = xb + 1 := ⟨_, rfl⟩
  rw [← hB] at d0
  have HB : Hid (B = xb + 1) := hB
  obtain ⟨M, hM⟩ : ∃ M : Nat, M = xw.length := ⟨_, rfl⟩
  rw [← hM] at d3
  have HM : Hid (M = xw.length ∧ xw.length = 8 * xs - 1) := ⟨hM, hf1⟩
  have hB32 : B ≤ 32 := by omega
  have hM31 : M ≤ 31 := by omega
  have hM1 : 7 ≤ M := by omega
  have hsbw : sb < w.heap.size := lt_of_block S.blk
  have hp4 := pickN_lt b (n := 4) (by omega)
  have HPB : Hid (∀ w1, Calls Tryz.prog 16 #[.int .i64 b, .int .i64 4] w1 fun e w' => e = .returned (.int .i64 (pickN b 4 : Nat)) ∧ w' = w1) := fun w1 => pickN_any b 4 w1 hb (by omega) (by omega)
  obtain ⟨p, hp⟩ : ∃ p : Nat, p = pickN b 4 := ⟨_, rfl⟩
  have HAL : Hid (∀ w1, Fr New w w1 → Calls Tryz.prog 23 #[.pointer (some ⟨sb, 0, none⟩), .int .i64 (1 + (q : Int)), .int .i64 (p : Int)] w1 fun e w' => e = .returned (.bool true) ∧ Played F sb n sts w w') := fun w1 hf => by
    have := kalloc_any F sb n ws now sts (1 + q) p (by omega) (by omega) (by omega) w1 ⟨hb', tb, cb, mb, g, vs, vn, vk, un, uk, S.new hf, hF⟩
    rw [show ((1 + q : Nat) : Int) = 1 + (q : Int) by omega] at this
    refine this.mono ?_
    rintro e w' ⟨rfl, now', F', q1, q2, q3, _⟩
    exact ⟨rfl, F', ws, now', sts, q1, (hf.mono (fun _ _ h => h.elim)).trans q2 (fun _ _ h => h), fun k hk => (q3 k hk).imp id (fun h => Nat.le_trans hf.size h), by omega⟩
  rw [← hp] at HPB
  clear S hF hp hp4 hq
  clear tn hkd hk0 hl hf1 hB hM hx hrow huk hfrz
  go_enter Tryz.func18, Tryz.ntmps18
  go_wp2_with (first
    | (go_at_call_of 16 (Value.int .i64 b); refine calls_same (HPB.out _) ?_)
    | (go_at_call_of 16 (Value.int .i64 4); refine calls_same (HPA.out _) ?_)
    | (go_at_call_of 16 (Value.int .i64 (l.length : Int)); refine calls_same (HPM.out _) ?_)
    | (go_at_call_of 16 (Value.int .i64 8); refine calls_same (HPW.out _) ?_)
    | (go_at_call 23; refine (HAL.out _ ((Fr.refl New w).alloc _)).mono ?_; rintro e w1 ⟨rfl, hend⟩)
    | fail)
  go_ret
  exact ⟨rfl, hend⟩
set_option maxHeartbeats 1000000 in
set_option maxRecDepth 100000 in
theorem play_more1 (F : Nat → Prop) (sb n : Nat) (ws now : List Int) (sts : List St) (what a b c : Int) (w : World) (hw : I64 what) (ha : I64 a) (hb : I64 b) (h : Story F sb n ws now sts w) (hne : (things now).length ≠ 0) (hv : pickN what 8 = 1) :
    Calls Tryz.prog 18 #[.pointer (some ⟨sb, 0, none⟩), .int .i64 what, .int .i64 a, .int .i64 b, .int .i64 c] w fun e w' => e = .returned (.bool true) ∧ Played F sb n sts w w' := by
  obtain ⟨hb', tb, cb, mb, g, vs, vn, vk, un, uk, S, hF⟩ := h
  obtain ⟨l, hl⟩ : ∃ l, l = things now := ⟨_, rfl⟩
  have HL : Hid (l = things now) := hl
  have tn : ThAt w vn l un := by rw [hl]; exact S.tn
  rw [← hl] at hne
  have hk0 := pickN_lt a hne
  obtain ⟨k, hkd⟩ : ∃ k, k = pickN a l.length := ⟨_, rfl⟩
  have hk : k < l.length := by rw [hkd]; exact hk0
  have hm32 : l.length ≤ 32 := tn.n
  obtain ⟨g2, cv, gi, ci, hvn, hg2, d0, d1, d2, d3, hrow, huk, hfrz, hgi⟩ := tn.at' k hk
  have hc2 := S.c2
  have hc0 := S.c0
  rw [hvn] at hc2
  have HPA : Hid (∀ w1, Calls Tryz.prog 16 #[.int .i64 a, .int .i64 4] w1 fun e w' => e = .returned (.int .i64 (pickN a 4 : Nat)) ∧ w' = w1) := fun w1 => pickN_any a 4 w1 ha (by omega) (by omega)
  have HPM : Hid (∀ w1, Calls Tryz.prog 16 #[.int .i64 a, .int .i64 (l.length : Int)] w1 fun e w' => e = .returned (.int .i64 (k : Int)) ∧ w' = w1) := fun w1 => by rw [hkd]; exact pickN_any a l.length w1 ha (by omega) (by omega)
  have HPW : Hid (∀ w1, Calls Tryz.prog 16 #[.int .i64 what, .int .i64 8] w1 fun e w' => e = .returned (.int .i64 1) ∧ w' = w1) := fun w1 => by
    have := pickN_any what 8 w1 hw (by omega) (by omega)
    rwa [hv] at this
  have hq4 := pickN_lt a (n := 4) (by omega)
  obtain ⟨q, hq⟩ : ∃ q : Nat, q = pickN a 4 := ⟨_, rfl⟩
  rw [← hq] at HPA hq4
  have hfit := tn.fit _ (List.getElem_mem hk)
  obtain ⟨x, hx⟩ : ∃ x, x = l[k] := ⟨_, rfl⟩
  have HX : Hid (x = l[k]) := hx
  rw [← hx] at d0 d1 d2 d3 hrow hfit huk
  obtain ⟨⟨xb, xs, xp⟩, xw⟩ := x
  simp only at d0 d1 d2 d3 hrow hfit huk
  obtain ⟨hf1, hx1, hx4, hxp, hx32⟩ := hfit
  obtain ⟨B, hB⟩ : ∃ B : Nat, B = xb + 1 := ⟨_, rfl⟩
  rw [← hB] at d0
  have HB : Hid (B = xb + 1) := hB
  obtain ⟨M, hM⟩ : ∃ M : Nat, M = xw.length := ⟨_, rfl⟩
  rw [← hM] at d3
  have HM : Hid (M = xw.length ∧ xw.length = 8 * xs - 1) := ⟨hM, hf1⟩
  have hB32 : B ≤ 32 := by omega
  have hM31 : M ≤ 31 := by omega
  have hM1 : 7 ≤ M := by omega
  have hsbw : sb < w.heap.size := lt_of_block S.blk
  have hp4 := pickN_lt b (n := 4) (by omega)
  have HPB : Hid (∀ w1, Calls Tryz.prog 16 #[.int .i64 b, .int .i64 4] w1 fun e w' => e = .returned (.int .i64 (pickN b 4 : Nat)) ∧ w' = w1) := fun w1 => pickN_any b 4 w1 hb (by omega) (by omega)
  obtain ⟨p, hp⟩ : ∃ p : Nat, p = pickN b 4 := ⟨_, rfl⟩
  have HAL : Hid (∀ w1, Fr New w w1 → Calls Tryz.prog 23 #[.pointer (some ⟨sb, 0, none⟩), .int .i64 (1 + (q : Int)), .int .i64 (p : Int)] w1 fun e w' => e = .returned (.bool true) ∧ Played F sb n sts w w') := fun w1 hf => by
    have := kalloc_any F sb n ws now sts (1 + q) p (by omega) (by omega) (by omega) w1 ⟨hb', tb, cb, mb, g, vs, vn, vk, un, uk, S.new hf, hF⟩
    rw [show ((1 + q : Nat) : Int) = 1 + (q : Int) by omega] at this
    refine this.mono ?_
    rintro e w' ⟨rfl, now', F', q1, q2, q3, _⟩
    exact ⟨rfl, F', ws, now', sts, q1, (hf.mono (fun _ _ h => h.elim)).trans q2 (fun _ _ h => h), fun k hk => (q3 k hk).imp id (fun h => Nat.le_trans hf.size h), by omega⟩
  rw [← hp] at HPB
  clear S hF hp hp4 hq
  clear tn hkd hk0 hl hf1 hB hM hx hrow huk hfrz
  go_enter Tryz.func18, Tryz.ntmps18
  go_wp2_with (first
    | (go_at_call_of 16 (Value.int .i64 b); refine calls_same (HPB.out _) ?_)
    | (go_at_call_of 16 (Value.int .i64 4); refine calls_same (HPA.out _) ?_)
    | (go_at_call_of 16 (Value.int .i64 (l.length : Int)); refine calls_same (HPM.out _) ?_)
    | (go_at_call_of 16 (Value.int .i64 8); refine calls_same (HPW.out _) ?_)
    | (go_at_call 23; refine (HAL.out _ ((Fr.refl New w).alloc _)).mono ?_; rintro e w1 ⟨rfl, hend⟩)
    | fail)
  go_ret
  exact ⟨rfl, hend⟩
set_option maxHeartbeats 1000000 in
set_option maxRecDepth 100000 in
theorem play_commit (F : Nat → Prop) (sb n : Nat) (ws now : List Int) (sts : List St) (what a b c : Int) (w : World) (hw : I64 what) (ha : I64 a) (hlen : sts.length ≤ 1099511000000) (h : Story F sb n ws now sts w) (hne : (things now).length ≠ 0) (hv : pickN what 8 = 7) :
    Calls Tryz.prog 18 #[.pointer (some ⟨sb, 0, none⟩), .int .i64 what, .int .i64 a, .int .i64 b, .int .i64 c] w fun e w' => e = .returned (.bool true) ∧ Played F sb n sts w w' := by
  obtain ⟨hb', tb, cb, mb, g, vs, vn, vk, un, uk, S, hF⟩ := h
  obtain ⟨l, hl⟩ : ∃ l, l = things now := ⟨_, rfl⟩
  have HL : Hid (l = things now) := hl
  have tn : ThAt w vn l un := by rw [hl]; exact S.tn
  rw [← hl] at hne
  have hk0 := pickN_lt a hne
  obtain ⟨k, hkd⟩ : ∃ k, k = pickN a l.length := ⟨_, rfl⟩
  have hk : k < l.length := by rw [hkd]; exact hk0
  have hm32 : l.length ≤ 32 := tn.n
  obtain ⟨g2, cv, gi, ci, hvn, hg2, d0, d1, d2, d3, hrow, huk, hfrz, hgi⟩ := tn.at' k hk
  have hc2 := S.c2
  have hc0 := S.c0
  rw [hvn] at hc2
  have HPA : Hid (∀ w1, Calls Tryz.prog 16 #[.int .i64 a, .int .i64 4] w1 fun e w' => e = .returned (.int .i64 (pickN a 4 : Nat)) ∧ w' = w1) := fun w1 => pickN_any a 4 w1 ha (by omega) (by omega)
  have HPM : Hid (∀ w1, Calls Tryz.prog 16 #[.int .i64 a, .int .i64 (l.length : Int)] w1 fun e w' => e = .returned (.int .i64 (k : Int)) ∧ w' = w1) := fun w1 => by rw [hkd]; exact pickN_any a l.length w1 ha (by omega) (by omega)
  have HPW : Hid (∀ w1, Calls Tryz.prog 16 #[.int .i64 what, .int .i64 8] w1 fun e w' => e = .returned (.int .i64 7) ∧ w' = w1) := fun w1 => by
    have := pickN_any what 8 w1 hw (by omega) (by omega)
    rwa [hv] at this
  have hq4 := pickN_lt a (n := 4) (by omega)
  obtain ⟨q, hq⟩ : ∃ q : Nat, q = pickN a 4 := ⟨_, rfl⟩
  rw [← hq] at HPA hq4
  have hfit := tn.fit _ (List.getElem_mem hk)
  obtain ⟨x, hx⟩ : ∃ x, x = l[k] := ⟨_, rfl⟩
  have HX : Hid (x = l[k]) := hx
  rw [← hx] at d0 d1 d2 d3 hrow hfit huk
  obtain ⟨⟨xb, xs, xp⟩, xw⟩ := x
  simp only at d0 d1 d2 d3 hrow hfit huk
  obtain ⟨hf1, hx1, hx4, hxp, hx32⟩ := hfit
  obtain ⟨B, hB⟩ : ∃ B : Nat, B = xb + 1 := ⟨_, rfl⟩
  rw [← hB] at d0
  have HB : Hid (B = xb + 1) := hB
  obtain ⟨M, hM⟩ : ∃ M : Nat, M = xw.length := ⟨_, rfl⟩
  rw [← hM] at d3
  have HM : Hid (M = xw.length ∧ xw.length = 8 * xs - 1) := ⟨hM, hf1⟩
  have hB32 : B ≤ 32 := by omega
  have hM31 : M ≤ 31 := by omega
  have hM1 : 7 ≤ M := by omega
  have hsbw : sb < w.heap.size := lt_of_block S.blk
  have HCM : Hid (∀ w1, Fr New w w1 → Calls Tryz.prog 30 #[.pointer (some ⟨sb, 0, none⟩)] w1 fun e w' => e = .returned (.bool true) ∧ Played F sb n sts w w') := fun w1 hf => by
    refine (kcommit_any F sb n ws now sts w1 hlen ⟨hb', tb, cb, mb, g, vs, vn, vk, un, uk, S.new hf, hF⟩).mono ?_
    rintro e w' ⟨rfl, F', ws', now', sts', q1, q2, q3, q4⟩
    exact ⟨rfl, F', ws', now', sts', q1, (hf.mono (fun _ _ h => h.elim)).trans q2 (fun _ _ h => h), fun k hk => (q3 k hk).imp id (fun h => Nat.le_trans hf.size h), commit_len q4⟩
  clear S hF hq
  clear tn hkd hk0 hl hf1 hB hM hx hrow huk hfrz
  go_enter Tryz.func18, Tryz.ntmps18
  go_wp2_with (first
    | (go_at_call_of 16 (Value.int .i64 4); refine calls_same (HPA.out _) ?_)
    | (go_at_call_of 16 (Value.int .i64 (l.length : Int)); refine calls_same (HPM.out _) ?_)
    | (go_at_call_of 16 (Value.int .i64 8); refine calls_same (HPW.out _) ?_)
    | (go_at_call 30; refine (HCM.out _ ((Fr.refl New w).alloc _)).mono ?_; rintro e w1 ⟨rfl, hend⟩)
    | fail)
  go_ret
  exact ⟨rfl, hend⟩
end Go.Proofs.YtbagcjlimdilpaaGreat
