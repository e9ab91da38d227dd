/- Texts that follow one another, joined. -/
import Derived.Test.YtbagcjlimdilpabGreatKtJ15
import Derived.Test.YtbagcjlimdilpabGreatKtPgH
import Derived.Test.YtbagcjlimdilpabGreatKtJ8
import Derived.Test.YtbagcjlimdilpabGreatKtJ14
/- Walks of the program's Heap.Commit, Recover and Open. -/
namespace Go.Proofs.YtbagcjlimdilpabGreat
open Go.RowKit Go.Maps

theorem Fr.undrew {T : Nat → Prop} {w w' : World} (h : Fr T w.drew w') : Fr T w w' := ⟨h.os, h.tape, h.output, h.size, h.block⟩
theorem CommitTo.undrew {hb tb cb mb g : Nat} {vs : Value} {ws now : List Int} {st : List St} {w : World} {c : Int} {w' : World} (h : CommitTo hb tb cb mb g vs ws now st w.drew c w') : CommitTo hb tb cb mb g vs ws now st w c w' := by
  rcases h with ⟨h1, h2, h3, h4⟩ | ⟨h1, h2, h3, h4, h5⟩ | ⟨h1, h2, h3, vs', h4, h5, h6⟩
  · exact .inl ⟨h1, h2, h3, h4.undrew⟩
  · exact .inr (.inl ⟨h1, h2, h3, h4, h5.undrew⟩)
  · exact .inr (.inr ⟨h1, h2, h3, vs', h4, h5.undrew, h6⟩)
theorem CommitTo.drew {hb tb cb mb g : Nat} {vs : Value} {ws now : List Int} {st : List St} {w : World} {c : Int} {w' : World} (h : CommitTo hb tb cb mb g vs ws now st w c w') : CommitTo hb tb cb mb g vs ws now st w c w'.drew := by
  rcases h with ⟨h1, h2, h3, h4⟩ | ⟨h1, h2, h3, h4, h5⟩ | ⟨h1, h2, h3, vs', h4, h5, h6⟩
  · exact .inl ⟨h1, h2, h3.new ((Fr.refl _ _).drew), h4.drew⟩
  · exact .inr (.inl ⟨h1, h2, h3, h4.new ((Fr.refl _ _).drew), h5.drew⟩)
  · exact .inr (.inr ⟨h1, h2, h3, vs', h4.new ((Fr.refl _ _).drew), h5.drew, h6⟩)
set_option maxRecDepth 100000 in
theorem hcommit_any (hb tb cb mb g : Nat) (vs : Value) (ws now : List Int) (st : List St) (w : World) (h : PH hb tb cb mb g vs ws now st w) (h2 : wd now 2 = wd ws 2) (hl : st.length ≤ 1099511000000) :
    Calls Tryz.prog 32 #[.pointer (some ⟨hb, 0, none⟩)] w fun e w' => ∃ c, e = .returned (.int .i64 c) ∧ CommitTo hb tb cb mb g vs ws now st w c w' := by
  have hc0 := h.p0
  have hc1 := h.p1
  have hbw : hb < w.heap.size := lt_of_block h.hp
  have HJ : Hid (Calls Tryz.prog 61 #[.pointer (some ⟨tb, 0, none⟩), .pointer (some ⟨cb, 0, none⟩)] w fun e w' => ∃ c, e = .returned (.int .i64 c) ∧ CommitTo hb tb cb mb g vs ws now st w c w') := jcommit_any hb tb cb mb g vs ws now st w h h2 hl
  have HD : Hid (Calls Tryz.prog 61 #[.pointer (some ⟨tb, 0, none⟩), .pointer (some ⟨cb, 0, none⟩)] w.drew fun e w' => ∃ c, e = .returned (.int .i64 c) ∧ CommitTo hb tb cb mb g vs ws now st w c w') := (jcommit_any hb tb cb mb g vs ws now st w.drew (h.new ((Fr.refl _ _).drew)) h2 hl).mono (by
    rintro e w' ⟨c, rfl, hc⟩
    exact ⟨c, rfl, hc.undrew⟩)
  clear h h2 hl
  go_enter Tryz.func32, Tryz.ntmps32
  go_upto_region 1 with fail
  go_region_with (first
    | (go_at_call 61; refine HJ.out.mono ?_; rintro e w2 ⟨c, rfl, hC⟩)
    | (go_at_call 61; refine HD.out.mono ?_; rintro e w2 ⟨c, rfl, hC⟩))
  all_goals (try go_wp2_with fail)
  all_goals
    go_ret
    first
      | exact ⟨c, rfl, hC⟩
      | exact ⟨c, rfl, hC.drew⟩

/-- the records of the log -/
def logRs (ws : List Int) (k : Nat) : List (Int × Int) := (List.range k).map (fun i => (wd ws (10 + 2 * i), wd ws (11 + 2 * i)))
theorem logRs_done (ws : List Int) (k : Nat) : putsW ws (logRs ws k) = doneS ws k := by
  induction k with
  | zero => rfl
  | succ k ih =>
    have : logRs ws (k + 1) = logRs ws k ++ [(wd ws (10 + 2 * k), wd ws (11 + 2 * k))] := by simp [logRs, List.range_succ]
    rw [this, putsW_snoc, ih]
    rfl
theorem logRs_len (ws : List Int) (k : Nat) : (logRs ws k).length = k := by simp [logRs]
theorem logRs_puts (ws : List Int) (k : Nat) : putsSt (logRs ws k) = putsS ws k := by simp [logRs, putsSt, putsS]
theorem openW_U {ws : List Int} (hU : ∀ z ∈ ws, U z) : ∀ z ∈ openW ws, U z := by
  unfold openW
  split
  · exact hU
  · exact set_U (doneS_U hU _) (by unfold U; omega)
theorem openW_len (ws : List Int) : (openW ws).length = ws.length := by
  unfold openW
  split
  · rfl
  · simp [doneS_len]
set_option maxHeartbeats 1000000 in
set_option maxRecDepth 100000 in
theorem recover_told (tb g : Nat) (vs : Value) (ws : List Int) (st : List St) (w : World) (h : TG tb g vs ws st w) (hU : ∀ z ∈ ws, U z) (hL : 114 ≤ ws.length) (hl : st.length ≤ 1099511000000) :
    Calls Tryz.prog 26 #[.pointer (some ⟨tb, 0, none⟩)] w fun e w' => e = .returned (.bool (asksS ws).2) ∧ ((asksS ws).2 = true → ∃ vs', TG tb g vs' (openW ws) (st ++ openSt ws) w' ∧ Moved w vs vs') ∧ Fr (TurnedT tb g vs) w w' := by
  have HA : Hid (Calls Tryz.prog 50 #[.iface 62 (.pointer (some ⟨tb, 0, none⟩))] w fun e w' => ∃ v, e = .returned (.tuple #[v, .bool (asksS ws).2]) ∧ ((asksS ws).2 = true → OwnR w.heap.size w' v ws (asksS ws).1) ∧ ((asksS ws).2 = false → v = .slice none 0 0) ∧ Fr New w w') := asked_row _ _ _ _ _ ws w hL h.t.len hU h.t.row
  have HNT : Hid (∀ w', Fr New w w' → TG tb g vs ws st w' ∧ Fr (TurnedT tb g vs) w w') := fun w' hf => ⟨h.new hf, hf.mono (fun _ _ h => h.elim)⟩
  rcases hok : (asksS ws).2 with _ | _
  · rw [hok] at HA
    have HA2 : Hid (Calls Tryz.prog 50 #[.iface 62 (.pointer (some ⟨tb, 0, none⟩))] w fun e w' => e = .returned (.tuple #[.slice none 0 0, .bool false]) ∧ Fr New w w') := HA.out.mono (by
      rintro e w' ⟨v, rfl, _, hv, hf⟩
      rw [hv rfl]
      exact ⟨rfl, hf⟩)
    clear HA hok
    go_enter Tryz.func26, Tryz.ntmps26
    go_wp2_with (go_at_call 50; refine HA2.out.mono ?_; rintro e w1 ⟨rfl, hf1⟩)
    go_ret
    exact ⟨rfl, (fun h => by cases h), (HNT.out w1 hf1).2⟩
  · rw [hok] at HA
    obtain ⟨k, hk⟩ : ∃ k, k = (asksS ws).1 := ⟨_, rfl⟩
    have hk48 : k ≤ 48 := by rw [hk]; exact asks_le ws
    have HA2 : Hid (Calls Tryz.prog 50 #[.iface 62 (.pointer (some ⟨tb, 0, none⟩))] w fun e w' => ∃ a c, e = .returned (.tuple #[.slice a k c, .bool true]) ∧ OwnRs w.heap.size w' (.slice a k c) (logRs ws k) ∧ Fr New w w') := HA.out.mono (by
      rintro e w' ⟨v, rfl, ho, _, hf⟩
      have ho' := ho rfl
      obtain ⟨a, c, rfl⟩ := own_slice ho'
      rw [← hk] at ho' ⊢
      refine ⟨a, c, rfl, ?_, hf⟩
      unfold OwnRs
      rw [logRs_len]
      have : rsCells (logRs ws k) = recCells ws k := (rsCells_rec ws k).symm
      rw [this]
      exact ho')
    by_cases hk0 : k = 0
    · have HOW : Hid (openW ws = ws ∧ st ++ openSt ws = st) := by unfold openW openSt; rw [← hk, if_pos hk0, if_pos hk0]; exact ⟨rfl, by simp⟩
      subst hk0
      clear HA hok hk
      go_enter Tryz.func26, Tryz.ntmps26
      go_wp2_with (go_at_call 50; refine HA2.out.mono ?_; rintro e w1 ⟨a, c, rfl, ho, hf1⟩)
      go_ret
      refine ⟨rfl, fun _ => ⟨vs, ?_, Moved.refl _ _⟩, (HNT.out w1 hf1).2⟩
      rw [HOW.out.1, HOW.out.2]
      exact (HNT.out w1 hf1).1
    · have HOW : Hid (openW ws = carryW ws (logRs ws k) ∧ st ++ openSt ws = st ++ carrySt (logRs ws k)) := by
        unfold openW openSt carryW carrySt
        rw [← hk, if_neg hk0, if_neg hk0, logRs_done, logRs_puts]
        exact ⟨rfl, by simp⟩
      have HIN : Hid (∀ r ∈ logRs ws k, 0 ≤ r.1 ∧ r.1 < (ws.length : Int)) := fun r hr => by
        simp only [logRs, List.mem_map, List.mem_range] at hr
        obtain ⟨i, hi, rfl⟩ := hr
        have h1 := (okAt_iff.1 (asks_ok (ws := ws) (i := i) (by rw [← hk]; exact hi))).1
        have h2 := wd_U hU (10 + 2 * i)
        exact ⟨h2.1, h1⟩
      have HCO : Hid (∀ w1 v, Fr New w w1 → OwnRs w.heap.size w1 v (logRs ws k) → Calls Tryz.prog 51 #[.pointer (some ⟨tb, 0, none⟩), v] w1 fun e w' => e = .returned (.tuple #[]) ∧ ∃ vs', TG tb g vs' (openW ws) (st ++ openSt ws) w' ∧ Fr (TurnedT tb g vs) w1 w' ∧ Moved w1 vs vs') := fun w1 v hf ho => by
        rw [HOW.out.1, HOW.out.2]
        exact carry_told tb g vs ws st _ v _ w1 (h.new hf) ho HIN.out (by omega) (by rw [logRs_len]; omega)
      have hd0 : decide ((0 : Int) < (k : Int)) = true := by simp; omega
      have hkp : 0 < k := by omega
      clear HA hok hk h hU
      go_enter Tryz.func26, Tryz.ntmps26
      go_wp2_with (first
        | (go_at_call 50; refine HA2.out.mono ?_; rintro e w1 ⟨a, c, rfl, ho, hf1⟩; have HC1 := HCO.out w1 _ hf1 ho)
        | (go_at_call 51; refine HC1.mono ?_; rintro e w2 ⟨rfl, vs2, hT2, hf2, hm2⟩)
        | fail)
      go_ret
      exact ⟨rfl, fun _ => ⟨vs2, hT2, (Moved.refl w vs).trans hm2 hf1.size⟩, ((HNT.out w1 hf1).2).trans hf2 (fun _ _ h => h)⟩
/-- what Open hands over -/
def OpenTo (ws : List Int) (w : World) (v : Value) (c : Int) (w' : World) : Prop :=
  (OpenErr ws c ∧ v = .pointer none) ∨
  (OpenOk ws ∧ c = 0 ∧ ∃ hb tb cb mb g vs, v = .pointer (some ⟨hb, 0, none⟩) ∧ PH hb tb cb mb g vs (openW ws) (openW ws) (openSt ws) w' ∧ w.heap.size ≤ hb ∧ w.heap.size ≤ tb ∧ w.heap.size ≤ cb ∧ w.heap.size ≤ mb ∧ w.heap.size ≤ g ∧ ∀ k, vs.ownBlock = some k → w.heap.size ≤ k)
set_option maxHeartbeats 2000000 in
set_option maxRecDepth 100000 in
theorem popen_any (a : Option Addr) (cap : Nat) (ws : List Int) (w : World) (hm : ws.length ≤ 1048576) (hU : ∀ z ∈ ws, U z) (hr : RowU w a ws) :
    Calls Tryz.prog 7 #[.slice a ws.length cap] w fun e w' => ∃ v c, e = .returned (.tuple #[v, .int .i64 c]) ∧ OpenTo ws w v c w' ∧ Fr New w w' := by
  by_cases hn : nblk ws.length = 0
  · have HS : Hid (Calls Tryz.prog 24 #[.int .i64 ws.length] w fun e w' => e = .returned (.bool false) ∧ w' = w) := shaped_no _ w hm hn
    have HT : Hid (OpenErr ws 2) := .inl ⟨hn, rfl⟩
    clear hn hr hU
    go_enter Tryz.func7, Tryz.ntmps7
    go_wp2_with (go_at_call 24; refine calls_same HS.out ?_)
    go_ret2
    exact ⟨_, 2, rfl, .inl ⟨HT.out, rfl⟩, Fr.refl _ _⟩
  · have HS : Hid (Calls Tryz.prog 24 #[.int .i64 ws.length] w fun e w' => e = .returned (.bool true) ∧ w' = w) := shaped_yes _ w hn
    have hL : 114 ≤ ws.length := by have := nblk_some hn; omega
    have HNT : Hid (Calls Tryz.prog 25 #[.slice a ws.length cap] w fun e w' => ∃ tb g, e = .returned (.pointer (some ⟨tb, 0, none⟩)) ∧ TG tb g (.slice none 0 0) ws [] w' ∧ w.heap.size ≤ tb ∧ w.heap.size ≤ g ∧ Fr New w w') := newTold_any a cap ws w hm (by omega) hr
    have HRC : Hid (∀ tb g w1, TG tb g (.slice none 0 0) ws [] w1 → Calls Tryz.prog 26 #[.pointer (some ⟨tb, 0, none⟩)] w1 fun e w' => e = .returned (.bool (asksS ws).2) ∧ ((asksS ws).2 = true → ∃ vs', TG tb g vs' (openW ws) ([] ++ openSt ws) w' ∧ Moved w1 (.slice none 0 0) vs') ∧ Fr (TurnedT tb g (.slice none 0 0)) w1 w') := fun tb g w1 h => recover_told tb g _ ws [] w1 h hU hL (by simp)
    have HFW : Hid (∀ tb g w1 w2, w.heap.size ≤ tb → w.heap.size ≤ g → Fr New w w1 → Fr (TurnedT tb g (.slice none 0 0)) w1 w2 → Fr New w w2) := fun tb g w1 w2 h1 h2 f1 f2 => f1.trans f2 (fun j hj ht => by
      rcases ht with e | e | e
      · omega
      · omega
      · cases e)
    rcases hok : (asksS ws).2 with _ | _
    · have HT : Hid (OpenErr ws 4) := .inr ⟨hn, .inl ⟨hok, rfl⟩⟩
      rw [hok] at HRC
      obtain ⟨L, hLL⟩ : ∃ L, L = ws.length := ⟨_, rfl⟩
      rw [← hLL] at HS HNT ⊢
      clear hn hr hU hok hLL
      go_enter Tryz.func7, Tryz.ntmps7
      go_wp2_with (first
        | (go_at_call 24; refine calls_same HS.out ?_)
        | (go_at_call 25; refine HNT.out.mono ?_; rintro e w1 ⟨tb, g, rfl, hT1, hb1, hg1, hf1⟩)
        | (go_at_call 26; refine (HRC.out tb g w1 hT1).mono ?_; rintro e w2 ⟨rfl, _, hf2⟩)
        | fail)
      go_ret2
      exact ⟨_, 4, rfl, .inl ⟨HT.out, rfl⟩, HFW.out _ _ _ _ hb1 hg1 hf1 hf2⟩
    · have hnO : nblk (openW ws).length ≠ 0 := by rw [openW_len]; exact hn
      have HSC : Hid (∀ tb g vs w2, TG tb g vs (openW ws) (openSt ws) w2 → Calls Tryz.prog 27 #[.iface 62 (.pointer (some ⟨tb, 0, none⟩))] w2 fun e w' => ∃ cd p, e = .returned (.tuple #[.int .i64 cd, .int .i64 p]) ∧ CheckIs (openW ws) cd p ∧ Fr New w2 w') := fun tb g vs w2 h => soundCheck_row _ _ _ _ _ (openW ws) w2 hnO h.t.row
      have HNC : Hid (∀ tb w2, Calls Tryz.prog 28 #[.iface 62 (.pointer (some ⟨tb, 0, none⟩))] w2 fun e w' => ∃ cb mb, e = .returned (.pointer (some ⟨cb, 0, none⟩)) ∧ ChgIs w' cb tb mb (openW ws) (openW ws) ∧ w2.heap.size ≤ cb ∧ w2.heap.size ≤ mb ∧ Fr New w2 w') := fun tb w2 => newChanged_any tb (openW ws) w2 (openW_U hU)
      have HER : Hid (∀ c p, CheckIs (openW ws) c p → c ≠ 0 → c ≠ 8 → OpenErr ws c) := fun c p h1 h2 h3 => .inr ⟨hn, .inr ⟨hok, h2, h3, p, h1⟩⟩
      have HOK : Hid (∀ c p, CheckIs (openW ws) c p → c = 0 ∨ c = 8 → OpenOk ws) := fun c p h1 h2 => ⟨hn, hok, c, p, h1, h2⟩
      have HUW : Hid ((∀ z ∈ openW ws, U z) ∧ nblk (openW ws).length ≠ 0) := ⟨openW_U hU, hnO⟩
      have HRC2 : Hid (∀ tb g w1, TG tb g (.slice none 0 0) ws [] w1 → Calls Tryz.prog 26 #[.pointer (some ⟨tb, 0, none⟩)] w1 fun e w' => e = .returned (.bool true) ∧ ∃ vs', TG tb g vs' (openW ws) (openSt ws) w' ∧ Moved w1 (.slice none 0 0) vs' ∧ Fr (TurnedT tb g (.slice none 0 0)) w1 w') := fun tb g w1 h => (HRC.out tb g w1 h).mono (by
        rintro e w' ⟨rfl, h2, h3⟩
        rw [hok]
        obtain ⟨vs', h4, h5⟩ := h2 hok
        exact ⟨rfl, vs', by simpa using h4, h5, h3⟩)
      have HFN : Hid (∀ tb g vs2 w1 w2 w3 w4 cb mb cd p, w.heap.size ≤ tb → w.heap.size ≤ g → Fr New w w1 → Fr New w w2 → TG tb g vs2 (openW ws) (openSt ws) w2 → Moved w1 (.slice none 0 0) vs2 → Fr New w2 w3 → CheckIs (openW ws) cd p → cd = 0 ∨ cd = 8 → ChgIs w4 cb tb mb (openW ws) (openW ws) → w3.heap.size ≤ cb → w3.heap.size ≤ mb → Fr New w3 w4 → OpenTo ws w (.pointer (some ⟨w4.heap.size, 0, none⟩)) 0 (w4.alloc (.cells #[.pointer (some ⟨tb, 0, none⟩), .pointer (some ⟨cb, 0, none⟩)] 65)) ∧ Fr New w (w4.alloc (.cells #[.pointer (some ⟨tb, 0, none⟩), .pointer (some ⟨cb, 0, none⟩)] 65))) := fun tb g vs2 w1 w2 w3 w4 cb mb cd p q1 q2 f1 f2 t2 m2 f3 hc hcd c4 q3 q4 f4 => by
        have fA : Fr New w w4 := (f2.same f3).same f4
        have s3 := (f2.same f3).size
        refine ⟨.inr ⟨HOK.out cd p hc hcd, rfl, w4.heap.size, tb, cb, mb, g, vs2, rfl, ⟨Go.Deep.blk_alloc_new w4 _, t2.new ((f3.same f4).alloc _), c4.fr ((Fr.refl New w4).alloc _) id id, HUW.out.1, HUW.out.2⟩, fA.size, q1, by omega, by omega, q2, fun k hk => ?_⟩, fA.alloc _⟩
        rcases m2 with m2 | m2
        · rw [m2] at hk; cases hk
        · have := m2 k hk; have := f1.size; omega
      obtain ⟨L, hLL⟩ : ∃ L, L = ws.length := ⟨_, rfl⟩
      rw [← hLL] at HS HNT ⊢
      clear hn hr hU hok hLL HRC hnO
      go_enter Tryz.func7, Tryz.ntmps7
      go_wp2_with (first
        | (go_at_call 24; refine calls_same HS.out ?_)
        | (go_at_call 25; refine HNT.out.mono ?_; rintro e w1 ⟨tb, g, rfl, hT1, hb1, hg1, hf1⟩)
        | (go_at_call 26; refine (HRC2.out tb g w1 hT1).mono ?_; rintro e w2 ⟨rfl, vs2, hT2, hm2, hf2⟩; have hfa := HFW.out _ _ _ _ hb1 hg1 hf1 hf2)
        | (go_at_call 27; refine (HSC.out tb g vs2 w2 hT2).mono ?_; rintro e w3 ⟨cd, p, rfl, hci, hf3⟩)
        | (go_at_call 28; refine (HNC.out tb w3).mono ?_; rintro e w4 ⟨cb, mb, rfl, hC4, hcb, hmb, hf4⟩)
        | fail)
      · go_ret2
        obtain ⟨o1, o2⟩ := HFN.out tb g vs2 w1 w2 w3 w4 cb mb cd p hb1 hg1 hf1 hfa hT2 hm2 hf3 hci (.inl (by assumption)) hC4 hcb hmb hf4
        exact ⟨_, 0, rfl, o1, o2⟩
      · go_ret2
        have hcd : cd ≠ 0 ∧ cd ≠ 8 := by
          have hx : (cd != 0) = true ∧ (cd != 8) = true := by assumption
          exact ⟨by simpa using hx.1, by simpa using hx.2⟩
        exact ⟨_, cd, rfl, .inl ⟨HER.out cd p hci hcd.1 hcd.2, rfl⟩, hfa.same hf3⟩
      · go_ret2
        have hcd : cd = 0 ∨ cd = 8 := by
          have hx : (cd != 0) = false ∨ (cd != 8) = false := by assumption
          exact hx.imp (by simp) (by simp)
        obtain ⟨o1, o2⟩ := HFN.out tb g vs2 w1 w2 w3 w4 cb mb cd p hb1 hg1 hf1 hfa hT2 hm2 hf3 hci hcd hC4 hcb hmb hf4
        exact ⟨_, 0, rfl, o1, o2⟩
end Go.Proofs.YtbagcjlimdilpabGreat

/- A story in memory: a heap, what is in it, what was committed last. The walk of begun. -/
namespace Go.Proofs.YtbagcjlimdilpabGreat
open Go.RowKit Go.Maps

theorem things_like {a b : List Int} (h : Like a b) : things a = things b := by
  unfold things
  rw [h.ob]
  exact List.map_congr_left (fun o ho => by rw [h.words o ho])
/-- a root, as a number -/
theorem root_small {now : List Int} (g : Good now) {k : Nat} (hk : k < 4) : 0 ≤ wd now (3 + k) ∧ wd now (3 + k) ≤ 32 := by
  rcases g.root k hk with h | ⟨o, ho, h⟩
  · omega
  · have := objs_in ho
    have := nblk_le now.length
    omega
theorem wrap_small {x : Int} (h : 0 ≤ x ∧ x ≤ 32) : wrap64 x = x := by
  unfold wrap64
  omega
/-- the cells of a story -/
def stArr (hb n : Nat) (vn vk : Value) (now ws : List Int) : Array Value := #[.pointer (some ⟨hb, 0, none⟩), .int .i64 (n : Int), vn, .int .i64 (wd now 3), .int .i64 (wd now 4), .int .i64 (wd now 5), .int .i64 (wd now 6), vk, .int .i64 (wd ws 3), .int .i64 (wd ws 4), .int .i64 (wd ws 5), .int .i64 (wd ws 6)]
/-- a story, with all that lies in memory of it -/
structure Sty (sb n hb tb cb mb g : Nat) (vs vn vk : Value) (un uk : List Value) (ws now : List Int) (sts : List St) (w : World) : Prop where
  blk : w.heap[sb]? = some (.cells (stArr hb n vn vk now ws) 34 (0, 0))
  ph : PH hb tb cb mb g vs ws now sts w
  hw : HW ws now
  tn : ThAt w vn (things now) un
  tk : ThAt w vk (things ws) uk
  n : nblk ws.length = n
  gn : ∀ u ∈ un, u.ownBlock ≠ some g
  gk : ∀ u ∈ uk, u.ownBlock ≠ some g
  nk : ∀ u ∈ un, ∀ u' ∈ uk, u.ownBlock ≠ u'.ownBlock
/-- its blocks -/
def Foot (sb hb tb cb mb g : Nat) (vs vn vk : Value) (un uk : List Value) (k : Nat) : Prop := k = sb ∨ k = hb ∨ k = tb ∨ k = cb ∨ k = mb ∨ k = g ∨ vs.ownBlock = some k ∨ ThB vn un k ∨ ThB vk uk k
namespace Sty
variable {sb n hb tb cb mb g : Nat} {vs vn vk : Value} {un uk : List Value} {ws now : List Int} {sts : List St} {w : World}
theorem fr {T : Nat → Prop} {w' : World} (h : Sty sb n hb tb cb mb g vs vn vk un uk ws now sts w) (hf : Fr T w w') (hn : ∀ k, Foot sb hb tb cb mb g vs vn vk un uk k → ¬ T k) : Sty sb n hb tb cb mb g vs vn vk un uk ws now sts w' :=
  ⟨hf.heap h.blk (hn _ (.inl rfl)), h.ph.fr hf (hn _ (.inr (.inl rfl))) (hn _ (.inr (.inr (.inl rfl)))) (hn _ (.inr (.inr (.inr (.inl rfl))))) (hn _ (.inr (.inr (.inr (.inr (.inl rfl)))))) (hn _ (.inr (.inr (.inr (.inr (.inr (.inl rfl))))))) (fun k hk => hn k (.inr (.inr (.inr (.inr (.inr (.inr (.inl hk)))))))), h.hw,
    h.tn.fr hf (fun k hk => hn k (.inr (.inr (.inr (.inr (.inr (.inr (.inr (.inl hk))))))))), h.tk.fr hf (fun k hk => hn k (.inr (.inr (.inr (.inr (.inr (.inr (.inr (.inr hk))))))))), h.n, h.gn, h.gk, h.nk⟩
theorem new {w' : World} (h : Sty sb n hb tb cb mb g vs vn vk un uk ws now sts w) (hf : Fr New w w') : Sty sb n hb tb cb mb g vs vn vk un uk ws now sts w' := h.fr hf (fun _ _ h => h)
theorem lt (h : Sty sb n hb tb cb mb g vs vn vk un uk ws now sts w) {k : Nat} (hk : Foot sb hb tb cb mb g vs vn vk un uk k) : k < w.heap.size := by
  rcases hk with rfl | rfl | rfl | rfl | rfl | rfl | hk | hk | hk
  · exact lt_of_block h.blk
  · exact lt_of_block h.ph.hp
  · exact lt_of_block h.ph.tg.t.td
  · exact lt_of_block h.ph.cg.cg
  · exact h.ph.cg.lt
  · exact lt_of_block h.ph.tg.t.wb
  · obtain ⟨_, c, hc⟩ := own_block h.ph.tg.o hk
    exact lt_of_block hc
  · exact h.tn.lt hk
  · exact h.tk.lt hk
theorem c0 (h : Sty sb n hb tb cb mb g vs vn vk un uk ws now sts w) : w.cell? ⟨sb, 0, none⟩ = some (.pointer (some ⟨hb, 0, none⟩)) := ((block_cells h.blk).1 0).trans rfl
theorem c1 (h : Sty sb n hb tb cb mb g vs vn vk un uk ws now sts w) : w.cell? ⟨sb, 1, none⟩ = some (.int .i64 (n : Int)) := ((block_cells h.blk).1 1).trans rfl
theorem c2 (h : Sty sb n hb tb cb mb g vs vn vk un uk ws now sts w) : w.cell? ⟨sb, 2, none⟩ = some vn := ((block_cells h.blk).1 2).trans rfl
theorem c7 (h : Sty sb n hb tb cb mb g vs vn vk un uk ws now sts w) : w.cell? ⟨sb, 7, none⟩ = some vk := ((block_cells h.blk).1 7).trans rfl
theorem lens (h : Sty sb n hb tb cb mb g vs vn vk un uk ws now sts w) : 1 ≤ n ∧ n ≤ 32 ∧ ws.length = 106 + 8 * n ∧ now.length = 106 + 8 * n := by
  obtain ⟨h1, h2, h3⟩ := h.hw.gw.len
  have := h.hw.len
  rw [h.n] at h1 h2 h3
  omega
end Sty
/-- a story whose blocks lie in F -/
def Story (F : Nat → Prop) (sb n : Nat) (ws now : List Int) (sts : List St) (w : World) : Prop := ∃ hb tb cb mb g vs vn vk un uk, Sty sb n hb tb cb mb g vs vn vk un uk ws now sts w ∧ ∀ k, Foot sb hb tb cb mb g vs vn vk un uk k → F k
theorem Story.fr {F T : Nat → Prop} {sb n : Nat} {ws now : List Int} {sts : List St} {w w' : World} (h : Story F sb n ws now sts w) (hf : Fr T w w') (hn : ∀ k, k < w.heap.size → F k → ¬ T k) : Story F sb n ws now sts w' := by
  obtain ⟨hb, tb, cb, mb, g, vs, vn, vk, un, uk, s, hF⟩ := h
  exact ⟨hb, tb, cb, mb, g, vs, vn, vk, un, uk, s.fr hf (fun k hk => hn k (s.lt hk) (hF k hk)), hF⟩

theorem imgL_wd (n q : Nat) : wd (imgL n) q = if q = 0 then 20261114 else if q = 1 then (n : Int) else if q = 7 then sumL (headL n) else 0 := by
  unfold imgL wd
  by_cases hq : q < 8
  · match q, hq with
    | 0, _ => rfl
    | 1, _ => rfl
    | 2, _ => rfl
    | 3, _ => rfl
    | 4, _ => rfl
    | 5, _ => rfl
    | 6, _ => rfl
    | 7, _ => simp [List.getD]
  · rw [if_neg (by omega), if_neg (by omega), if_neg (by omega)]
    rw [List.getD, List.getElem?_append_right (by simp; omega)]
    by_cases h2 : q - 8 < 98 + 8 * n
    · simp [h2]
    · simp [h2]
theorem imgL_hw (n : Nat) (h1 : 1 ≤ n) (h2 : n ≤ 32) : HW (imgL n) (imgL n) ∧ objs (imgL n) = [] ∧ ∀ q, 2 ≤ q → q ≠ 7 → wd (imgL n) q = 0 := by
  have hn : nblk (imgL n).length = n := by rw [imgL_len]; exact nblk_mk n h1 h2
  have h0 : ∀ q, 2 ≤ q → q ≠ 7 → wd (imgL n) q = 0 := fun q hq h7 => by rw [imgL_wd, if_neg (by omega), if_neg (by omega), if_neg h7]
  have hT : Tiles (imgL n) [] := ⟨List.Pairwise.nil, (fun o ho => by cases ho), fun c _ _ _ => h0 _ (by omega) (by omega)⟩
  obtain ⟨e1, e2⟩ := tiles_objs (by omega) hT
  have g : Good (imgL n) := ⟨by omega, e2, by rw [imgL_wd]; rfl, by rw [imgL_wd, hn]; rfl, h0 8 (by omega) (by omega), fun r hr => .inl (h0 _ (by omega) (by omega)), fun o ho => by rw [e1] at ho; cases ho⟩
  refine ⟨⟨g, g, ?_, rfl, fun _ _ _ => rfl⟩, e1, h0⟩
  rw [imgL_wd, if_neg (by omega), if_neg (by omega), if_pos rfl]
  rfl
theorem imgL_U (n : Nat) (h2 : n ≤ 32) : ∀ z ∈ imgL n, U z := by
  intro z hz
  unfold imgL at hz
  rcases List.mem_append.1 hz with hz | hz
  · simp only [List.mem_cons, List.not_mem_nil, or_false] at hz
    rcases hz with rfl | rfl | rfl | rfl | rfl | rfl | rfl | rfl
    · unfold U; omega
    · unfold U; omega
    · unfold U; omega
    · unfold U; omega
    · unfold U; omega
    · unfold U; omega
    · unfold U; omega
    · exact sumL_U _
  · obtain ⟨_, rfl⟩ := List.mem_replicate.1 hz
    unfold U
    omega
/-- Open of words that are kept: a heap with these -/
theorem open_kept (gg : Nat) (cap : Nat) (ws a : List Int) (w : World) (hr : RowU w (some ⟨gg, 0, none⟩) ws) (hU : ∀ z ∈ ws, U z) (ho : OpenOk ws) (ha : openW ws = a) :
    Calls Tryz.prog 7 #[.slice (some ⟨gg, 0, none⟩) ws.length cap] w fun e w' => ∃ hb tb cb mb g vs, e = .returned (.tuple #[.pointer (some ⟨hb, 0, none⟩), .int .i64 0]) ∧ PH hb tb cb mb g vs a a (openSt ws) w' ∧ (w.heap.size ≤ hb ∧ w.heap.size ≤ tb ∧ w.heap.size ≤ cb ∧ w.heap.size ≤ mb ∧ w.heap.size ≤ g ∧ ∀ k, vs.ownBlock = some k → w.heap.size ≤ k) ∧ Fr New w w' := by
  have hl : ws.length ≤ 1048576 := by have := (nblk_some ho.1); omega
  refine (popen_any (some ⟨gg, 0, none⟩) cap ws w hl hU hr).mono ?_
  rintro e w' ⟨v, c, rfl, hto, hf⟩
  rcases hto with ⟨he, _⟩ | ⟨_, rfl, hb, tb, cb, mb, g, vs, rfl, hp, q⟩
  · exact absurd ho (fun ho => open_not he ho)
  · rw [ha] at hp
    exact ⟨hb, tb, cb, mb, g, vs, rfl, hp, q, hf⟩
theorem thAt_nil (w : World) : ThAt w (.slice none 0 0) [] [] := ⟨World.ownsRow_nil _ _ _ _, rfl, (fun i hi => by simp at hi), (fun x hx => by cases hx), List.Pairwise.nil, by simp⟩

set_option maxHeartbeats 300000 in
set_option maxRecDepth 100000 in
theorem begun_any (n : Nat) (h1 : 1 ≤ n) (h2 : n ≤ 32) (w : World) :
    Calls Tryz.prog 4 #[.int .i64 (n : Int)] w fun e w' => ∃ sb F, e = .returned (.tuple #[.pointer (some ⟨sb, 0, none⟩), .bool true]) ∧ Story F sb n (imgL n) (imgL n) [] w' ∧ (∀ k, F k → w.heap.size ≤ k) ∧ Fr New w w' := by
  obtain ⟨hw, e1, h0⟩ := imgL_hw n h1 h2
  have hlen := imgL_len n
  have HF : Hid (∀ w1, Calls Tryz.prog 12 #[.int .i64 (n : Int)] w1 fun e w' => e = .returned (.tuple #[.slice (some ⟨w1.heap.size, 0, none⟩) (106 + 8 * n) (106 + 8 * n), .int .i64 0]) ∧ Row w' w1.heap.size (imgL n) ∧ Fr New w1 w') := fun w1 => fmt_yes n w1 h1 h2
  obtain ⟨og1, og2, og3⟩ := open_good hw.gw hw.sum
  have HOP : Hid (∀ gg w1, Row w1 gg (imgL n) → Calls Tryz.prog 7 #[.slice (some ⟨gg, 0, none⟩) (106 + 8 * n) (106 + 8 * n)] w1 fun e w' => ∃ hb tb cb mb g vs, e = .returned (.tuple #[.pointer (some ⟨hb, 0, none⟩), .int .i64 0]) ∧ PH hb tb cb mb g vs (imgL n) (imgL n) [] w' ∧ (w1.heap.size ≤ hb ∧ w1.heap.size ≤ tb ∧ w1.heap.size ≤ cb ∧ w1.heap.size ≤ mb ∧ w1.heap.size ≤ g ∧ ∀ k, vs.ownBlock = some k → w1.heap.size ≤ k) ∧ Fr New w1 w') := fun gg w1 hr => by
    have := open_kept gg (106 + 8 * n) (imgL n) (imgL n) w1 (Row.rowU hr) (imgL_U n h2) og1 og2
    rwa [hlen, og3] at this
  have HIS : Hid (∀ hb tb cb mb g vs w1, PH hb tb cb mb g vs (imgL n) (imgL n) [] w1 → Calls Tryz.prog 11 #[.pointer (some ⟨hb, 0, none⟩), .agg #[.slice none 0 0, .int .i64 0, .int .i64 0, .int .i64 0, .int .i64 0]] w1 fun e w' => e = .returned (.bool true) ∧ Fr New w1 w') := fun hb tb cb mb g vs w1 hp => (kis_any hb tb cb mb g vs (imgL n) (imgL n) [] (.slice none 0 0) [] [] 0 0 0 0 w1 hp (thAt_nil w1)).mono (by
    rintro e w' ⟨b, rfl, hb, hf⟩
    have : b = true := hb.2 ⟨by unfold things; rw [e1]; rfl, fun k hk => by
      rw [h0 _ (by omega) (by omega)]
      rw [wrap_small (by omega)]
      unfold root4
      repeat' split
      all_goals rfl⟩
    rw [this]
    exact ⟨rfl, hf⟩)
  have HEND : Hid (∀ hb tb cb mb g vs w3 w4, w.heap.size ≤ hb → w.heap.size ≤ tb → w.heap.size ≤ cb → w.heap.size ≤ mb → w.heap.size ≤ g → (∀ k, vs.ownBlock = some k → w.heap.size ≤ k) → PH hb tb cb mb g vs (imgL n) (imgL n) [] w3 → w3.heap[w.heap.size]? = some (.cells #[.pointer (some ⟨hb, 0, none⟩), .int .i64 (n : Int), .slice none 0 0, .int .i64 0, .int .i64 0, .int .i64 0, .int .i64 0, .slice none 0 0, .int .i64 0, .int .i64 0, .int .i64 0, .int .i64 0] 34 (0, 0)) → Fr New w w3 → Fr New w3 w4 → ∃ F, Story F w.heap.size n (imgL n) (imgL n) [] w4 ∧ (∀ k, F k → w.heap.size ≤ k) ∧ Fr New w w4) := fun hb tb cb mb g vs w3 w4 q1 q2 q3 q4 q5 q6 hp hs f3 f4 => by
    have ht : things (imgL n) = [] := by unfold things; rw [e1]; rfl
    have hs4 := f4.heap hs id
    refine ⟨fun k => w.heap.size ≤ k, ⟨hb, tb, cb, mb, g, vs, .slice none 0 0, .slice none 0 0, [], [], ⟨?_, hp.new f4, hw, by rw [ht]; exact thAt_nil w4, by rw [ht]; exact thAt_nil w4, by rw [hlen]; exact nblk_mk n h1 h2, (fun u hu => by cases hu), (fun u hu => by cases hu), fun u hu => by cases hu⟩, fun k hk => ?_⟩, fun k hk => hk, f3.same f4⟩
    · rw [hs4]
      unfold stArr
      rw [h0 3 (by omega) (by omega), h0 4 (by omega) (by omega), h0 5 (by omega) (by omega), h0 6 (by omega) (by omega)]
    · rcases hk with rfl | rfl | rfl | rfl | rfl | rfl | hk | hk | hk
      · exact Nat.le_refl _
      · exact q1
      · exact q2
      · exact q3
      · exact q4
      · exact q5
      · exact q6 k hk
      · rcases hk with hk | ⟨u, hu, _⟩
        · cases hk
        · cases hu
      · rcases hk with hk | ⟨u, hu, _⟩
        · cases hk
        · cases hu
  have HST : Hid (∀ hb tb cb mb g vs w1 w2, w.heap.size < w1.heap.size → w1.heap[w.heap.size]? = some (.cells #[.pointer none, .int .i64 (n : Int), .slice none 0 0, .int .i64 0, .int .i64 0, .int .i64 0, .int .i64 0, .slice none 0 0, .int .i64 0, .int .i64 0, .int .i64 0, .int .i64 0] 34 (0, 0)) → Fr New w w1 → Fr New w1 w2 → PH hb tb cb mb g vs (imgL n) (imgL n) [] w2 → (w1.heap.size ≤ hb ∧ w1.heap.size ≤ tb ∧ w1.heap.size ≤ cb ∧ w1.heap.size ≤ mb ∧ w1.heap.size ≤ g ∧ ∀ k, vs.ownBlock = some k → w1.heap.size ≤ k) → w2.cell? ⟨w.heap.size, 0, none⟩ = some (.pointer none) ∧ w2.frozen? ⟨w.heap.size, 0, none⟩ = false ∧ PH hb tb cb mb g vs (imgL n) (imgL n) [] (w2.setCell ⟨w.heap.size, 0, none⟩ (.pointer (some ⟨hb, 0, none⟩))) ∧ (∀ w4, Fr New (w2.setCell ⟨w.heap.size, 0, none⟩ (.pointer (some ⟨hb, 0, none⟩))) w4 → ∃ F, Story F w.heap.size n (imgL n) (imgL n) [] w4 ∧ (∀ k, F k → w.heap.size ≤ k) ∧ Fr New w w4)) := fun hb tb cb mb g vs w1 w2 hlt hblk f1 f2 hp hq => by
    obtain ⟨q1, q2, q3, q4, q5, q6⟩ := hq
    have hb2 := f2.heap hblk id
    have hs : Fr (fun k => k = w.heap.size) w2 (w2.setCell ⟨w.heap.size, 0, none⟩ (.pointer (some ⟨hb, 0, none⟩))) := (Fr.refl (fun k => k = w.heap.size) w2).setCell (p := ⟨w.heap.size, 0, none⟩) (fun _ => rfl) _
    have hp3 : PH hb tb cb mb g vs (imgL n) (imgL n) [] (w2.setCell ⟨w.heap.size, 0, none⟩ (.pointer (some ⟨hb, 0, none⟩))) := hp.fr hs (by omega) (by omega) (by omega) (by omega) (by omega) (fun k hk => by have := q6 k hk; omega)
    refine ⟨((block_cells hb2).1 0).trans rfl, (block_cells hb2).2 0, hp3, fun w4 f4 => ?_⟩
    refine HEND.out hb tb cb mb g vs _ w4 (by omega) (by omega) (by omega) (by omega) (by omega) (fun k hk => by have := q6 k hk; omega) hp3 ?_ ((f1.same f2).trans hs (fun j hj e => by omega)) f4
    rw [heap_setCell_same _ _ 0 _ _ _ hb2]
    rfl
  clear hw e1 h0 hlen og1 og2 og3
  go_enter Tryz.func4, Tryz.ntmps4
  go_wp2_with (first
    | (go_at_call 12; refine (HF.out _).mono ?_; rintro e w1 ⟨rfl, hR1, hf1⟩; have hR1' : Row w1 (w.heap.size + 1) (imgL n) := by simpa using hR1)
    | (go_at_call 7; refine (HOP.out (w.heap.size + 1) w1 hR1').mono ?_; rintro e w2 ⟨hb, tb, cb, mb, g, vs, rfl, hp2, hq2, hf2⟩; obtain ⟨hcz, hfz, hp3, hend⟩ := HST.out hb tb cb mb g vs w1 w2 (by have := hf1.size; simp at this; omega) (hf1.heap (Go.Deep.blk_alloc_new w _) id) (((Fr.refl New w).alloc _).same hf1) hf2 hp2 hq2)
    | (go_at_call 11; refine (HIS.out hb tb cb mb g vs _ hp3).mono ?_; rintro e w4 ⟨rfl, hf4⟩)
    | fail)
  go_ret2
  obtain ⟨F, q1, q2, q3⟩ := hend w4 hf4
  exact ⟨_, F, rfl, q1, q2, q3⟩
end Go.Proofs.YtbagcjlimdilpabGreat

/- What a story's alloc leaves behind. -/
namespace Go.Proofs.YtbagcjlimdilpabGreat
open Go.RowKit Go.Maps

theorem add_plain (g o j : Nat) : (⟨g, o, none⟩ : Addr).add j = ⟨g, o + j, none⟩ := by
  unfold Addr.add
  split
  · subst_vars; rfl
  · rfl
theorem kt_split (l : List Th) (us : List Value) (K : Nat) (h : us.length = l.length) : ktCells l us = ktCells (l.take K) (us.take K) ++ ktCells (l.drop K) (us.drop K) := by
  rw [← ktCells_app _ _ _ _ (by simp; omega), List.take_append_drop, List.take_append_drop]
/-- the cells of the first K things, and of the others, as they are read -/
theorem ThAt.cells {w : World} {g c : Nat} {l : List Th} {us : List Value} (h : ThAt w (.slice (some ⟨g, 0, none⟩) l.length c) l us) (K : Nat) (hK : K ≤ l.length) :
    ((ktCells (l.take K) (us.take K)).length = K * 4 ∧ ∀ j u, (ktCells (l.take K) (us.take K))[j]? = some u → w.cell? ((⟨g, 0, none⟩ : Addr).add j) = some u) ∧
    ((ktCells (l.drop K) (us.drop K)).length = (l.length - K) * 4 ∧ ∀ j u, (ktCells (l.drop K) (us.drop K))[j]? = some u → w.cell? ((⟨g, K * 4, none⟩ : Addr).add j) = some u) ∧ l.length ≤ c ∧ g < w.heap.size := by
  have hl1 : (ktCells (l.take K) (us.take K)).length = K * 4 := by rw [ktCells_len _ _ (by simp; have := h.len; omega)]; simp; omega
  have hl2 : (ktCells (l.drop K) (us.drop K)).length = (l.length - K) * 4 := by rw [ktCells_len _ _ (by simp; have := h.len; omega)]; simp
  have hall := h.own.cells rfl
  rw [kt_split l us K h.len] at hall
  refine ⟨⟨hl1, fun j u hj => ?_⟩, ⟨hl2, fun j u hj => ?_⟩, ?_, ?_⟩
  · refine hall j u ?_
    rw [List.getElem?_append_left (by
      rcases Nat.lt_or_ge j (ktCells (l.take K) (us.take K)).length with h' | h'
      · exact h'
      · rw [List.getElem?_eq_none h'] at hj; cases hj)]
    exact hj
  · have := hall (K * 4 + j) u (by rw [List.getElem?_append_right (by omega), hl1, Nat.add_sub_cancel_left]; exact hj)
    rw [add_plain] at this ⊢
    simpa using this
  · rcases h.own.2 with ⟨e, _⟩ | ⟨g', cap, cur, e, hb, hh, hnc, _⟩
    · cases e
    · cases e; exact hnc
  · exact h.lt (.inl rfl)
theorem kt_mid (l : List Th) (us : List Value) (K : Nat) (h : us.length = l.length) (x : Th) (v : Value) : ktCells (l.take K ++ x :: l.drop K) (us.take K ++ v :: us.drop K) = ktCells (l.take K) (us.take K) ++ ktCell x v ++ ktCells (l.drop K) (us.drop K) := by
  rw [ktCells_app _ _ _ _ (by simp; omega), List.append_assoc]
  rfl
theorem ThAt.one {w : World} {v : Value} {l : List Th} {us : List Value} (h : ThAt w v l us) : ∀ u ∈ us, u.oneCell' = true := fun u hu => by
  obtain ⟨i, hi, rfl⟩ := List.getElem_of_mem hu
  obtain ⟨a, c, e⟩ := own_slice (h.rows i (by rw [← h.len]; exact hi) hi)
  rw [e]
  rfl
theorem Sty.next {sb n hb tb cb mb g : Nat} {vs vn vk : Value} {un uk : List Value} {ws now now' : List Int} {sts : List St} {w w1 : World} (h : Sty sb n hb tb cb mb g vs vn vk un uk ws now sts w) (hf : Fr (fun k => k = mb) w w1) (hp : PH hb tb cb mb g vs ws now' sts w1) :
    w1.heap[sb]? = some (.cells (stArr hb n vn vk now ws) 34 (0, 0)) ∧ ThAt w1 vn (things now) un ∧ ThAt w1 vk (things ws) uk := by
  have hm : ∀ v us l, ThAt w v l us → ∀ k, ThB v us k → ¬ k = mb := fun v us l ht k hk e => by
    subst e
    obtain ⟨D, ⟨es, clock, hm, _⟩, _⟩ := h.ph.cg.mp
    exact ht.noMap hm hk
  exact ⟨hf.heap h.blk (h.ph.mapNe h.blk), h.tn.fr hf (hm _ _ _ h.tn), h.tk.fr hf (hm _ _ _ h.tk)⟩
/-- a heap is not touched by what turns a story's own block -/
theorem PH.story {hb tb cb mb g sb : Nat} {vs : Value} {ws now : List Int} {sts : List St} {w w' : World} {c : Array Value} (h : PH hb tb cb mb g vs ws now sts w) (hb' : w.heap[sb]? = some (.cells c 34 (0, 0))) (hf : Fr (fun k => k = sb) w w') : PH hb tb cb mb g vs ws now sts w' := by
  refine h.fr hf (fun e => type_ne h.hp hb' (by decide) e) (fun e => type_ne h.tg.t.td hb' (by decide) e) (fun e => type_ne h.cg.cg hb' (by decide) e) (fun e => h.mapNe hb' e.symm) (fun e => type_ne h.tg.t.wb hb' (by decide) e) (fun k hk e => ?_)
  obtain ⟨_, c', hc⟩ := own_block h.tg.o hk
  exact type_ne hc hb' (by decide) e
theorem ThAt.story {w w' : World} {v : Value} {l : List Th} {us : List Value} {sb : Nat} {c : Array Value} (h : ThAt w v l us) (hb' : w.heap[sb]? = some (.cells c 34 (0, 0))) (hf : Fr (fun k => k = sb) w w') : ThAt w' v l us :=
  h.fr hf (fun k hk e => by subst e; exact h.no hb' (by decide) (by decide) hk)
/-- one thing more, in its place -/
theorem ThAt.insert {w w' : World} {v v' : Value} {l : List Th} {us : List Value} {K : Nat} {x : Th} {gm : Nat} (h : ThAt w v l us) (hf : Fr New w w') (hgm : w.heap.size ≤ gm) (hr : Row w' gm x.2) (hx : x.2.length = 8 * x.1.span - 1 ∧ 1 ≤ x.1.span ∧ x.1.span ≤ 4 ∧ x.1.ptrs < 8 * x.1.span ∧ x.1.block < 32) (hK : K ≤ l.length) (hn : l.length + 1 ≤ 32)
    (ho : w'.ownsRow 0 53 4 v' (l.length + 1) (ktCells (l.take K ++ x :: l.drop K) (us.take K ++ .slice (some ⟨gm, 0, none⟩) x.2.length x.2.length :: us.drop K))) :
    ThAt w' v' (l.take K ++ x :: l.drop K) (us.take K ++ .slice (some ⟨gm, 0, none⟩) x.2.length x.2.length :: us.drop K) := by
  have hul := h.len
  have hlen : (l.take K ++ x :: l.drop K).length = l.length + 1 := by simp; omega
  have hlt : ∀ u ∈ us, ∀ k, u.ownBlock = some k → k < gm := fun u hu k hk => by
    have := h.lt (k := k) (.inr ⟨u, hu, hk⟩)
    omega
  refine ⟨by rw [hlen]; exact ho, by simp; omega, fun i hi hv => ?_, fun y hy => ?_, ?_, by omega⟩
  · rcases Nat.lt_trichotomy i K with hiK | hiK | hiK
    · have e1 : (l.take K ++ x :: l.drop K)[i] = l[i]'(by omega) := by rw [List.getElem_append_left (by simp; omega), List.getElem_take]
      have e2 : (us.take K ++ .slice (some ⟨gm, 0, none⟩) x.2.length x.2.length :: us.drop K)[i] = us[i]'(by omega) := by rw [List.getElem_append_left (by simp; omega), List.getElem_take]
      rw [e1, e2]
      exact hf.owns (h.rows i (by omega) (by omega)) (fun _ _ h => h)
    · subst hiK
      have e1 : (l.take i ++ x :: l.drop i)[i] = x := by rw [List.getElem_append_right (by simp; omega)]; simp [show min i l.length = i by omega]
      have e2 : (us.take i ++ .slice (some ⟨gm, 0, none⟩) x.2.length x.2.length :: us.drop i)[i] = .slice (some ⟨gm, 0, none⟩) x.2.length x.2.length := by rw [List.getElem_append_right (by simp; omega)]; simp [show min i us.length = i by omega]
      rw [e1, e2]
      exact Row.own hr (Nat.zero_le _) (by unfold maxLen; omega)
    · obtain ⟨j, rfl⟩ : ∃ j, i = K + 1 + j := ⟨i - (K + 1), by omega⟩
      have e1 : (l.take K ++ x :: l.drop K)[K + 1 + j] = l[K + j]'(by rw [hlen] at hi; omega) := by
        rw [List.getElem_append_right (by simp; omega)]
        simp only [List.length_take, show min K l.length = K by omega, show K + 1 + j - K = j + 1 by omega, List.getElem_cons_succ, List.getElem_drop]
      have e2 : (us.take K ++ .slice (some ⟨gm, 0, none⟩) x.2.length x.2.length :: us.drop K)[K + 1 + j] = us[K + j]'(by rw [hlen] at hi; omega) := by
        rw [List.getElem_append_right (by simp; omega)]
        simp only [List.length_take, show min K us.length = K by omega, show K + 1 + j - K = j + 1 by omega, List.getElem_cons_succ, List.getElem_drop]
      rw [e1, e2]
      exact hf.owns (h.rows _ (by rw [hlen] at hi; omega) (by rw [hlen] at hi; omega)) (fun _ _ h => h)
  · rcases List.mem_append.1 hy with hy | hy
    · exact h.fit y (List.mem_of_mem_take hy)
    · rcases List.mem_cons.1 hy with rfl | hy
      · exact hx
      · exact h.fit y (List.mem_of_mem_drop hy)
  · have hap := h.apart
    rw [← List.take_append_drop K us, List.pairwise_append] at hap
    rw [List.pairwise_append]
    refine ⟨hap.1, List.pairwise_cons.2 ⟨fun u hu e => ?_, hap.2.1⟩, fun u hu u' hu' => ?_⟩
    · have := hlt u (List.mem_of_mem_drop hu) gm (by rw [← e]; rfl)
      omega
    · rcases List.mem_cons.1 hu' with rfl | hu'
      · intro e
        have := hlt u (List.mem_of_mem_take hu) gm (by rw [e]; rfl)
        omega
      · exact hap.2.2 u hu u' hu'
theorem alloced_things {now r : List Int} {o : Ob} {l1 l2 : List Ob} (h : Alloced now r o l1 l2) : things r = (things now).take l1.length ++ (o, List.replicate (8 * o.span - 1) 0) :: (things now).drop l1.length := by
  have e1 : things now = l1.map (fun x => (x, objW now x)) ++ l2.map (fun x => (x, objW now x)) := by unfold things; rw [h.was, List.map_append]
  rw [e1]
  have e2 : l1.length = (l1.map (fun x => (x, objW now x))).length := by simp
  rw [e2, List.take_left, List.drop_left]
  unfold things
  rw [h.objs, List.map_append, List.map_cons, h.new]
  congr 1
  · exact List.map_congr_left (fun x hx => by rw [h.words x (List.mem_append_left _ hx)])
  · congr 1
    exact List.map_congr_left (fun x hx => by rw [h.words x (List.mem_append_right _ hx)])
/-- what a story is behind its alloc -/
theorem alloc_end {F : Nat → Prop} {sb n hb tb cb mb g : Nat} {vs vn vk : Value} {un uk : List Value} {ws now r : List Int} {sts : List St} {w wr w1 w6 : World} {c s p gm : Nat} {l1 l2 : List Ob} {v6 : Value}
    (S : Sty sb n hb tb cb mb g vs vn vk un uk ws now sts w) (hF : ∀ k, Foot sb hb tb cb mb g vs vn vk un uk k → F k) (hf : Fr New w wr) (hA : Alloced now r ⟨c, s, p⟩ l1 l2) (hs1 : 1 ≤ s) (hs4 : s ≤ 4) (hp8 : p < 8 * s) (hfr : Fr (fun k => k = mb) wr w1) (hph : PH hb tb cb mb g vs ws r sts w1)
    (hf6 : Fr New w1 w6) (hgm : w1.heap.size ≤ gm) (hrow : Row w6 gm (List.replicate (8 * s - 1) 0))
    (ho : w6.ownsRow w1.heap.size 53 4 v6 ((things now).length + 1) (ktCells ((things now).take l1.length ++ ((⟨c, s, p⟩ : Ob), List.replicate (8 * s - 1) (0 : Int)) :: (things now).drop l1.length) (un.take l1.length ++ .slice (some ⟨gm, 0, none⟩) (8 * s - 1) (8 * s - 1) :: un.drop l1.length))) :
    ∃ F', Story F' sb n ws r sts (w6.setCell ⟨sb, 2, none⟩ v6) ∧ Fr F w (w6.setCell ⟨sb, 2, none⟩ v6) ∧ ∀ k, F' k → F k ∨ w.heap.size ≤ k := by
  obtain ⟨n1, n2, n3⟩ := (S.new hf).next hfr hph
  have hb6 := hf6.heap n1 id
  have hst : Fr (fun k => k = sb) w6 (w6.setCell ⟨sb, 2, none⟩ v6) := (Fr.refl (fun k => k = sb) w6).setCell (p := ⟨sb, 2, none⟩) (fun _ => rfl) _
  have hsz : w.heap.size ≤ w1.heap.size := Nat.le_trans hf.size hfr.size
  have hob : (⟨c, s, p⟩ : Ob) ∈ objs r := by rw [hA.objs]; simp
  have hoi := objs_in hob
  have hnl := nblk_le r.length
  have hth := alloced_things hA
  have hlen32 : (things now).length + 1 ≤ 32 := by
    have h1 : (things r).length = (things now).length + 1 := by rw [hth]; simp; have : l1.length ≤ (things now).length := by rw [things_len, hA.was]; simp
                                                                omega
    have := objs_len r
    rw [← things_len] at this
    omega
  have hK : l1.length ≤ (things now).length := by rw [things_len, hA.was]; simp
  have hT6 : ThAt w6 v6 (things r) (un.take l1.length ++ .slice (some ⟨gm, 0, none⟩) (8 * s - 1) (8 * s - 1) :: un.drop l1.length) := by
    rw [hth]
    have := n2.insert (v' := v6) (K := l1.length) (x := ((⟨c, s, p⟩ : Ob), List.replicate (8 * s - 1) (0 : Int))) hf6 hgm hrow ⟨by simp, hs1, hs4, hp8, by have := hoi.2.2.2.2; simp only at this ⊢; omega⟩ hK hlen32 (by simp only [List.length_replicate]; exact own_le ho (Nat.zero_le _))
    simpa using this
  have hmem : ∀ u ∈ un.take l1.length ++ Value.slice (some ⟨gm, 0, none⟩) (8 * s - 1) (8 * s - 1) :: un.drop l1.length, u ∈ un ∨ u.ownBlock = some gm := fun u hu => by
    rcases List.mem_append.1 hu with hu | hu
    · exact .inl (List.mem_of_mem_take hu)
    · rcases List.mem_cons.1 hu with rfl | hu
      · exact .inr rfl
      · exact .inl (List.mem_of_mem_drop hu)
  have hgs : g < w1.heap.size := lt_of_block hph.tg.t.wb
  refine ⟨Foot sb hb tb cb mb g vs v6 vk (un.take l1.length ++ .slice (some ⟨gm, 0, none⟩) (8 * s - 1) (8 * s - 1) :: un.drop l1.length) uk, ⟨hb, tb, cb, mb, g, vs, v6, vk, _, uk, ⟨?_, (hph.new hf6).story hb6 hst, ?_, hT6.story hb6 hst, (n3.new hf6).story hb6 hst, S.n, fun u hu e => ?_, S.gk, fun u hu u' hu' e => ?_⟩, fun k hk => hk⟩, ?_, fun k hk => ?_⟩
  · rw [heap_setCell_same _ _ 2 _ _ _ hb6]
    unfold stArr
    rw [hA.head 3 (by omega), hA.head 4 (by omega), hA.head 5 (by omega), hA.head 6 (by omega)]
    rfl
  · exact S.hw.to hA.good hA.len (fun q _ h2 => hA.head q h2)
  · rcases hmem u hu with hu | hu
    · exact S.gn u hu e
    · rw [hu] at e
      simp at e
      omega
  · rcases hmem u hu with hu | hu
    · exact S.nk u hu u' hu' e
    · have hlt := n3.lt (k := gm) (.inr ⟨u', hu', by rw [← e]; exact hu⟩)
      omega
  · have h1 : Fr F w w1 := (hf.mono (fun _ _ h => h.elim)).trans hfr (fun j _ e => by subst e; exact hF _ (.inr (.inr (.inr (.inr (.inl rfl))))))
    exact (h1.same hf6).trans hst (fun j _ e => by subst e; exact hF _ (.inl rfl))
  · rcases hk with hk | hk | hk | hk | hk | hk | hk | hk | hk
    · exact .inl (hF k (.inl hk))
    · exact .inl (hF k (.inr (.inl hk)))
    · exact .inl (hF k (.inr (.inr (.inl hk))))
    · exact .inl (hF k (.inr (.inr (.inr (.inl hk)))))
    · exact .inl (hF k (.inr (.inr (.inr (.inr (.inl hk))))))
    · exact .inl (hF k (.inr (.inr (.inr (.inr (.inr (.inl hk)))))))
    · exact .inl (hF k (.inr (.inr (.inr (.inr (.inr (.inr (.inl hk))))))))
    · rcases hk with hk | ⟨u, hu, hk⟩
      · have := (own_block ho hk).1
        exact .inr (by omega)
      · rcases hmem u hu with hu | hu
        · exact .inl (hF k (.inr (.inr (.inr (.inr (.inr (.inr (.inr (.inl (.inr ⟨u, hu, hk⟩))))))))))
        · rw [hu] at hk
          simp at hk
          exact .inr (by omega)
    · exact .inl (hF k (.inr (.inr (.inr (.inr (.inr (.inr (.inr (.inr hk)))))))))
end Go.Proofs.YtbagcjlimdilpabGreat

/- The walk of held: does anything hold it? -/
namespace Go.Proofs.YtbagcjlimdilpabGreat
open Go.RowKit Go.Maps

/-- one of the first i things holds x -/
def ThHeld (l : List Th) (x : Int) (i : Nat) : Prop := ∃ j, ∃ hj : j < l.length, j < i ∧ ∃ p, p < (l[j]).1.ptrs ∧ wd (l[j]).2 p = x
set_option maxHeartbeats 1000000 in
set_option maxRecDepth 100000 in
theorem kheld_any (v : Value) (l : List Th) (us : List Value) (r0 r1 r2 r3 : Int) (x : Nat) (hx : x ≤ 64) (w : World) (ht : ThAt w v l us) :
    Calls Tryz.prog 16 #[shV v r0 r1 r2 r3, .int .i64 (x : Int)] w fun e w' => ∃ b, e = .returned (.bool b) ∧ (b = true ↔ (∃ k, k < 4 ∧ root4 r0 r1 r2 r3 k = x) ∨ ThHeld l x l.length) ∧ Fr New w w' := by
  have HT : Hid (∀ wr, Fr New w wr → ThAt wr v l us) := fun wr hf => ht.new hf
  have hl32 := ht.n
  have HFIT : Hid (∀ y ∈ l, y.2.length = 8 * y.1.span - 1 ∧ 1 ≤ y.1.span ∧ y.1.span ≤ 4 ∧ y.1.ptrs < 8 * y.1.span ∧ y.1.block < 32) := ht.fit
  obtain ⟨av, cv, rfl⟩ := ht.slice
  clear ht
  have hwx : IntKind.u64.wrap (x : Int) = (x : Int) := by rw [IntKind.wrap_u64]; omega
  go_enter Tryz.func16, Tryz.ntmps16
  go_wp2
  have hsb : (w.alloc (.cells #[.slice av l.length cv, .int .i64 r0, .int .i64 r1, .int .i64 r2, .int .i64 r3] 32)).heap[w.heap.size]? = some (.cells #[.slice av l.length cv, .int .i64 r0, .int .i64 r1, .int .i64 r2, .int .i64 r3] 32 (0, 0)) := Go.Deep.blk_alloc_new w _
  have hf1 : Fr New w (w.alloc (.cells #[.slice av l.length cv, .int .i64 r0, .int .i64 r1, .int .i64 r2, .int .i64 r3] 32)) := (Fr.refl New w).alloc _
  obtain ⟨w1, hw1⟩ : ∃ w1, w1 = w.alloc (.cells #[.slice av l.length cv, .int .i64 r0, .int .i64 r1, .int .i64 r2, .int .i64 r3] 32) := ⟨_, rfl⟩
  obtain ⟨sb, hsbe⟩ : ∃ sb, sb = w.heap.size := ⟨_, rfl⟩
  rw [← hw1, ← hsbe] at hsb
  rw [← hw1] at hf1
  rw [← hw1, ← hsbe]
  have HSB : Hid (w1.heap[sb]? = some (.cells #[.slice av l.length cv, .int .i64 r0, .int .i64 r1, .int .i64 r2, .int .i64 r3] 32 (0, 0))) := hsb
  have HF1 : Hid (Fr New w w1) := hf1
  have hc0 : w1.cell? ⟨sb, 0, none⟩ = some (.slice av l.length cv) := ((block_cells hsb).1 0).trans rfl
  have HT1 : Hid (ThAt w1 (.slice av l.length cv) l us) := HT.out w1 hf1
  clear hw1 hsbe hsb hf1 HT
  go_loopg [5] 4 (fun gh t wr => ∃ k : Nat, k ≤ 4 ∧ gh = 4 - k ∧ t = .int .i64 k ∧ wr = w1 ∧ ∀ j, j < k → root4 r0 r1 r2 r3 j ≠ x)
  case atStart => exact ⟨0, by omega, rfl, rfl, rfl, fun j hj => by omega⟩
  case round =>
    obtain ⟨k, hk4, rfl, rfl, hwr, hno⟩ := hrel
    subst hwr
    have HNO : Hid (∀ j, j < k → root4 r0 r1 r2 r3 j ≠ x) := hno
    clear hno
    by_cases hk : k < 4
    · have hrc := root_cells HSB.out k hk
      obtain ⟨y, hy⟩ : ∃ y, y = root4 r0 r1 r2 r3 k := ⟨_, rfl⟩
      rw [← hy] at hrc
      have HY : Hid (y = root4 r0 r1 r2 r3 k) := hy
      clear hy
      by_cases c : y = x
      · have hxy : (y == (x : Int)) = true := by simpa using c
        have C : Hid (y = x) := c
        clear c
        go_wp2
        go_ret
        exact ⟨true, rfl, ⟨fun _ => .inl ⟨k, hk, by rw [← HY.out]; exact C.out⟩, fun _ => rfl⟩, HF1.out⟩
      · have hxy : (y == (x : Int)) = false := by simpa using c
        go_wp2
        go_roundg (4 - (k + 1))
        case measure => omega
        case rel => exact ⟨k + 1, by omega, rfl, by go_num, rfl, fun j hj => by
          rcases (show j < k ∨ j = k by omega) with h' | rfl
          · exact HNO.out j h'
          · rw [← HY.out]; exact c⟩
    · obtain rfl : k = 4 := by omega
      clear hk hk4
      go_wp2
      go_loopg [6] l.length (fun gh t wq => ∃ i : Nat, i ≤ l.length ∧ gh = l.length - i ∧ t = .int .i64 i ∧ wq = wr ∧ ¬ ThHeld l x i)
      case atStart => exact ⟨0, by omega, rfl, rfl, rfl, fun ⟨_, _, hj, _⟩ => by omega⟩
      case round =>
        rename_i wr0 _ _
        obtain ⟨i, hil, rfl, rfl, hwr, hni⟩ := hrel
        subst hwr
        have HNI : Hid (¬ ThHeld l x i) := hni
        clear hni
        by_cases hi : i < l.length
        · have hd0 : decide ((i : Int) < (l.length : Int)) = true := by simp; omega
          obtain ⟨g2, cg2, gi2, ci2, hv2, hg2, d0, d1, d2, d3, hr2, _, _, hgi2⟩ := HT1.out.at' i hi
          cases hv2
          have hfi := HFIT.out l[i] (List.getElem_mem _)
          obtain ⟨xs, hxs⟩ : ∃ xs, xs = l[i] := ⟨_, rfl⟩
          have HX : Hid (xs = l[i]) := hxs
          rw [← hxs] at d0 d1 d2 d3 hr2 hfi
          clear hxs
          obtain ⟨⟨ob, os, op⟩, ow⟩ := xs
          simp only at d0 d1 d2 d3 hr2 hfi
          obtain ⟨hl1, hl2, hl3, hl4, _⟩ := hfi
          have hopw : op ≤ ow.length := by omega
          obtain ⟨m, hm⟩ : ∃ m : Nat, m = ow.length := ⟨_, rfl⟩
          rw [← hm] at d3 hopw
          have HM : Hid (m = ow.length) := hm
          have HR2 : Hid (RowU _ (some ⟨gi2, 0, none⟩) ow) := hr2
          clear hm hl1 hr2
          go_wp2
          go_loopg [7] op (fun gh t wq => ∃ p : Nat, p ≤ op ∧ gh = op - p ∧ t = .int .i64 p ∧ wq = wr ∧ ∀ q, q < p → wd ow q ≠ x)
          case atStart => exact ⟨0, by omega, rfl, rfl, rfl, fun q hq => by omega⟩
          case round =>
            obtain ⟨p, hpp, rfl, rfl, hwr, hne⟩ := hrel
            subst hwr
            have HNE : Hid (∀ q, q < p → wd ow q ≠ x) := hne
            clear hne
            by_cases hp : p < op
            · obtain ⟨ad, hade, hcp⟩ := HR2.out p (by have := HM.out; omega)
              cases hade
              rw [add_plain, Nat.zero_add] at hcp
              obtain ⟨y, hy⟩ : ∃ y, y = wd ow p := ⟨_, rfl⟩
              have hcp' : wr.cell? ⟨gi2, p, none⟩ = some (.int .u64 y) := by rw [hy]; exact hcp
              have HY : Hid (y = wd ow p) := hy
              have hpm : p < m := by omega
              clear hcp hy
              by_cases c : y = x
              · have hxy : (y == (x : Int)) = true := by simpa using c
                have C : Hid (y = x) := c
                clear c
                go_wp2
                go_ret
                exact ⟨true, rfl, ⟨fun _ => .inr ⟨i, hi, hi, p, by rw [← HX.out]; exact hp, by rw [← HX.out, ← HY.out]; exact C.out⟩, fun _ => rfl⟩, HF1.out⟩
              · have hxy : (y == (x : Int)) = false := by simpa using c
                go_wp2
                go_roundg (op - (p + 1))
                case measure => omega
                case rel => exact ⟨p + 1, by omega, rfl, by go_num, rfl, fun q hq => by
                  rcases (show q < p ∨ q = p by omega) with h' | rfl
                  · exact HNE.out q h'
                  · rw [← HY.out]; exact c⟩
            · obtain rfl : p = op := by omega
              have HNN : Hid (¬ ThHeld l x (i + 1)) := by
                rintro ⟨j, hj, hji, q, hq, e⟩
                by_cases hij : j = i
                · subst hij
                  rw [← HX.out] at hq e
                  exact HNE.out q hq e
                · exact HNI.out ⟨j, hj, by omega, q, hq, e⟩
              clear hp hpp
              go_wp2
              go_roundg (l.length - (i + 1))
              case measure => omega
              case rel => exact ⟨i + 1, by omega, rfl, by go_num, rfl, HNN.out⟩
        · obtain rfl : i = l.length := by omega
          have hd0 : decide ((l.length : Int) < (l.length : Int)) = false := by simp
          clear hi hil
          go_wp2
          go_ret
          refine ⟨false, rfl, ⟨(fun h => by cases h), fun h => ?_⟩, HF1.out⟩
          rcases h with ⟨k, hk, e⟩ | h
          · exact absurd e (HNO.out k hk)
          · exact absurd h HNI.out
end Go.Proofs.YtbagcjlimdilpabGreat

