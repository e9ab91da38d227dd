/- Mathematics of a stop: what is left opens as what was, or as what is; and so once more. -/
import Derived.Test.YtbagcjlimdilpaaGreatKtKpC
namespace Go.Proofs.YtbagcjlimdilpaaGreat

theorem flatR_at : ∀ (rs : List (Int × Int)) (i : Nat) (hi : i < rs.length), wd (flatR rs) (2 * i) = (rs[i]).1 ∧ wd (flatR rs) (2 * i + 1) = (rs[i]).2
  | [], i, hi => by simp at hi
  | r :: rs, 0, _ => by simp [flatR, wd]
  | r :: rs, i + 1, hi => by
    have := flatR_at rs i (by simpa using hi)
    have e : flatR (r :: rs) = r.1 :: r.2 :: flatR rs := rfl
    rw [e]
    simpa [wd, show 2 * (i + 1) = 2 * i + 1 + 1 by omega] using this
theorem recs_pos {ws now : List Int} (h : HW ws now) : 1 ≤ (recsOf ws (nextS now)).length := by
  have hL := h.gw.len
  have : ((2 : Int), wd (nextS now) 2) ∈ recsOf ws (nextS now) := recs_mem.2 ⟨2, by omega, by
    rw [nextS_wd (by have := h.len; omega), if_neg (by omega), if_pos rfl, h.two, IntKind.wrap_u64]
    omega, rfl⟩
  exact List.length_pos_of_mem this
theorem asking_recs {ws now im : List Int} (a : Asking ws (nextS now) (recsOf ws (nextS now)) im) : logRs im (recsOf ws (nextS now)).length = recsOf ws (nextS now) := by
  refine List.ext_getElem (by rw [logRs_len]) (fun i h1 h2 => ?_)
  have hf := flatR_at (recsOf ws (nextS now)) i h2
  simp only [logRs, List.getElem_map, List.getElem_range]
  rw [a.log (2 * i) (by omega), show 11 + 2 * i = 10 + (2 * i + 1) by omega, a.log (2 * i + 1) (by omega), hf.1, hf.2]
theorem asking_asks {ws now im : List Int} (h : HW ws now) (h48 : (recsOf ws (nextS now)).length ≤ 48) (a : Asking ws (nextS now) (recsOf ws (nextS now)) im) : asksS im = ((recsOf ws (nextS now)).length, true) := by
  have hp := recs_pos h
  have hn : (wd im 8).toNat = (recsOf ws (nextS now)).length := by rw [a.num]; omega
  have hr := asking_recs a
  have hw : ∀ i (hi : i < (recsOf ws (nextS now)).length), wd im (10 + 2 * i) = ((recsOf ws (nextS now))[i]).1 ∧ wd im (11 + 2 * i) = ((recsOf ws (nextS now))[i]).2 := fun i hi => by
    have hf := flatR_at (recsOf ws (nextS now)) i hi
    rw [a.log (2 * i) (by omega), show 11 + 2 * i = 10 + (2 * i + 1) by omega, a.log (2 * i + 1) (by omega), hf.1, hf.2]
    exact ⟨rfl, rfl⟩
  rw [asks_right (by rw [a.num]; omega) (by rw [a.num]; omega) (fun i hi => by
    rw [hn] at hi
    obtain ⟨q, e1, e2, e3, _⟩ := recs_out h _ (List.getElem_mem hi)
    rw [(hw i hi).1, e1, okAt_iff, a.len]
    omega), hn]
  have : logWords im (recsOf ws (nextS now)).length = ((recsOf ws (nextS now)).length : Int) :: flatR (recsOf ws (nextS now)) := by
    unfold logWords
    rw [a.num]
    congr 1
    have e : flatR (recsOf ws (nextS now)) = flatR (logRs im (recsOf ws (nextS now)).length) := by rw [hr]
    rw [e]
    unfold flatR logRs
    rw [List.flatMap_map]
  rw [this, a.sum]
  simp [enterSum]
theorem asking_open {ws now im : List Int} (h : HW ws now) (h48 : (recsOf ws (nextS now)).length ≤ 48) (a : Asking ws (nextS now) (recsOf ws (nextS now)) im) : Out (openW im) (nextS now) ∧ openSt im = carrySt (recsOf ws (nextS now)) ∧ loggedS im = openW im := by
  have hL := h.gw.len
  have hp := recs_pos h
  have ha := asking_asks h h48 a
  have hr := asking_recs a
  have hd : doneS im (recsOf ws (nextS now)).length = putsW im (recsOf ws (nextS now)) := by
    rw [← logRs_done, hr]
  have hw : openW im = (putsW im (recsOf ws (nextS now))).set 8 0 := by
    unfold openW
    rw [ha, if_neg (by simp only; omega), hd]
  refine ⟨⟨by rw [openW_len, a.len, nextS_len]; exact h.len.symm, ?_, fun q hq => ?_⟩, ?_, ?_⟩
  · rw [hw, wd_set (by rw [putsW_len, a.len]; omega), if_pos rfl]
  · rw [hw, wd_set (by rw [putsW_len, a.len]; omega), if_neg (by omega)]
    exact putsW_recs a.len (by rw [nextS_len]; exact h.len) (a.out q hq)
  · unfold openSt carrySt
    rw [ha, if_neg (by simp only; omega), ← logRs_puts, hr]
    simp
  · unfold loggedS
    rw [ha, hw]
    simp only [if_true, hd]
/-- a stop within what Open does leaves a log that asks, or the new words -/
theorem asking_again {ws now im : List Int} (h : HW ws now) (h48 : (recsOf ws (nextS now)).length ≤ 48) (a : Asking ws (nextS now) (recsOf ws (nextS now)) im) (n : Nat) (hn : n ≤ (openSt im).length) (P : Nat → Bool) : Asking ws (nextS now) (recsOf ws (nextS now)) (leftW im (openSt im) (lastF (openSt im) n) P n) ∨ Out (leftW im (openSt im) (lastF (openSt im) n) P n) (nextS now) := by
  have hL := h.gw.len
  have hro := recs_out h
  have hd : ∀ q, q < ws.length → wd (nextS now) q ≠ wd ws q → ∃ j, ∃ hj : j < (recsOf ws (nextS now)).length, ((recsOf ws (nextS now))[j]).1 = (q : Int) := fun q hq hne => by
    obtain ⟨j, hj, e⟩ := List.getElem_of_mem (recs_mem.2 ⟨q, hq, hne, rfl⟩ : ((q : Int), wd (nextS now) q) ∈ recsOf ws (nextS now))
    exact ⟨j, hj, by rw [e]⟩
  rw [(asking_open h h48 a).2.1] at hn ⊢
  obtain ⟨rs, hrs⟩ : ∃ rs, rs = recsOf ws (nextS now) := ⟨_, rfl⟩
  rw [← hrs] at a hn h48 hro ⊢
  simp only [← hrs] at hd
  have hC : ∀ i, stq (carrySt rs) (rs.length + i) = stq [⟨2, 0, 0⟩, ⟨1, 8, 0⟩, ⟨2, 0, 0⟩] i := fun i => by
    unfold carrySt
    rw [stq_right (by rw [putsSt_len]; omega), putsSt_len]
    congr 1
    omega
  have hP : ∀ j (hj : j < rs.length), stq (carrySt rs) j = ⟨1, (rs[j]).1, (rs[j]).2⟩ := fun j hj => by
    unfold carrySt
    rw [stq_left (by rw [putsSt_len]; exact hj)]
    exact stq_puts hj
  have hcl : (carrySt rs).length = rs.length + 3 := by unfold carrySt; simp [putsSt_len]
  rw [hcl] at hn
  have hk : ∀ {i q : Nat}, PutAt (carrySt rs) i q → (i < rs.length ∧ (q < 8 ∨ 106 ≤ q) ∧ (stq (carrySt rs) i).v = wd (nextS now) q) ∨ (i = rs.length + 1 ∧ q = 8 ∧ (stq (carrySt rs) i).v = 0) := fun {i q} hp => by
    obtain ⟨h1, h2⟩ := hp
    by_cases c1 : i < rs.length
    · obtain ⟨q', e1, e2, _, e3⟩ := hro _ (List.getElem_mem c1)
      rw [hP i c1] at h2 ⊢
      simp only at h2 ⊢
      obtain rfl : q' = q := by omega
      exact .inl ⟨c1, e2, e3⟩
    · obtain ⟨j, rfl⟩ : ∃ j, i = rs.length + j := ⟨i - rs.length, by omega⟩
      rw [hC] at h1 h2 ⊢
      match j, h1, h2 with
      | 0, h1, _ => simp [stq] at h1
      | 1, _, h2 => simp [stq] at h2; exact .inr ⟨rfl, by omega, rfl⟩
      | 2, h1, _ => simp [stq] at h1
      | j + 3, h1, _ => simp [stq] at h1
  obtain ⟨im', him⟩ : ∃ im', im' = leftW im (carrySt rs) (lastF (carrySt rs) n) P n := ⟨_, rfl⟩
  rw [← him]
  have hlen : im'.length = ws.length := by rw [him, leftW_len]; exact a.len
  have hout : ∀ q, q < 8 ∨ 106 ≤ q → wd im' q = wd ws q ∨ wd im' q = wd (nextS now) q := fun q hq => by
    rw [him]
    rcases left_or (ws := im) (l := carrySt rs) (last := lastF (carrySt rs) n) (P := P) (q := q) (v := wd (nextS now) q) (n := n) (fun i hi hp => by
      rcases hk hp with hx | hx
      · exact hx.2.2
      · omega) with e | e
    · rw [e]; exact a.out q hq
    · exact .inr e
  have hlog : ∀ q, 8 < q → q < 106 → wd im' q = wd im q := fun q h1 h2 => by
    rw [him, left_no 0 (by omega) (fun i _ hi hp => by rcases hk hp with hx | hx <;> omega)]
    rfl
  by_cases c1 : n ≤ rs.length + 1
  · left
    refine ⟨hlen, ?_, (hlog 9 (by omega) (by omega)).trans a.sum, fun i hi => (hlog _ (by omega) (by omega)).trans (a.log i hi), hout⟩
    rw [him, left_no 0 (by omega) (fun i _ hi hp => by rcases hk hp with hx | hx <;> omega)]
    exact a.num
  · have hlast : rs.length ≤ lastF (carrySt rs) n := last_ge (by have := hC 0; rw [Nat.add_zero] at this; rw [this]; rfl) n (by omega)
    have hnew : ∀ q, q < 8 ∨ 106 ≤ q → wd im' q = wd (nextS now) q := fun q hq => by
      by_cases hql : q < ws.length
      · by_cases hne : wd (nextS now) q = wd ws q
        · rcases hout q hq with e | e
          · rw [e, hne]
          · exact e
        · obtain ⟨j, hj, ej⟩ := hd q hql hne
          rw [him]
          refine left_yes (fun i hi hp => ?_) j (by omega) ⟨by rw [hP j hj], by rw [hP j hj]; exact ej⟩ (.inl (by omega)) (by rw [a.len]; exact hql)
          rcases hk hp with hx | hx
          · exact hx.2.2
          · omega
      · rw [wd_out (by omega), wd_out (by rw [nextS_len]; have := h.len; omega)]
    have h8 : wd im' 8 = (rs.length : Int) ∨ wd im' 8 = 0 := by
      rw [him]
      rcases left_or (ws := im) (l := carrySt rs) (last := lastF (carrySt rs) n) (P := P) (q := 8) (v := 0) (n := n) (fun i hi hp => by
        rcases hk hp with hx | hx
        · omega
        · exact hx.2.2) with e | e
      · rw [e]; exact .inl a.num
      · exact .inr e
    rcases h8 with h8 | h8
    · left
      exact ⟨hlen, h8, (hlog 9 (by omega) (by omega)).trans a.sum, fun i hi => (hlog _ (by omega) (by omega)).trans (a.log i hi), hout⟩
    · right
      exact ⟨by rw [hlen, nextS_len]; exact h.len.symm, h8, hnew⟩
/-- words with an empty log, open as they are -/
theorem open_self {a : List Int} (h : HW a a) : OpenOk a ∧ openW a = a ∧ openSt a = [] := open_good h.gw h.sum
theorem logged_self {a : List Int} (h : HW a a) : loggedS a = a := logged_same h.gw.log (by have := h.gw.len; omega)
/-- how a stop opens -/
structure Opens (im a : List Int) : Prop where
  ok : OpenOk im
  open' : openW im = a
  hw : HW a a
  logged : loggedS im = a
theorem opens_self {a : List Int} (h : HW a a) : Opens a a := ⟨(open_self h).1, (open_self h).2.1, h, logged_self h⟩
theorem opens_asking {ws now im : List Int} (h : HW ws now) (h48 : (recsOf ws (nextS now)).length ≤ 48) (a : Asking ws (nextS now) (recsOf ws (nextS now)) im) : Opens im (openW im) ∧ Like (openW im) now := by
  obtain ⟨o, e, el⟩ := asking_open h h48 a
  obtain ⟨w, lk⟩ := out_now h o
  have ha := asking_asks h h48 a
  refine ⟨⟨⟨by rw [a.len]; exact h.gw.n0, by rw [ha], check_good w.gw w.sum⟩, rfl, w, el⟩, lk⟩
/-- WHATEVER IS LOST: what was committed, or what was to be -/
theorem stop_opens {ws now im : List Int} (h : HW ws now) (h48 : (recsOf ws (nextS now)).length ≤ 48) (s : Stop ws (nextS now) im) : ∃ a, Opens im a ∧ ((Like a ws ∧ Out im ws ∧ openSt im = []) ∨ (Like a now ∧ (Asking ws (nextS now) (recsOf ws (nextS now)) im ∨ (Out im (nextS now) ∧ openSt im = [])))) := by
  rcases s with o | a | o
  · obtain ⟨w, lk⟩ := out_was h o
    exact ⟨im, opens_self w, .inl ⟨lk, o, (open_self w).2.2⟩⟩
  · obtain ⟨o, lk⟩ := opens_asking h h48 a
    exact ⟨openW im, o, .inr ⟨lk, .inl a⟩⟩
  · obtain ⟨w, lk⟩ := out_now h o
    exact ⟨im, opens_self w, .inr ⟨lk, .inr ⟨o, (open_self w).2.2⟩⟩⟩
/-- .. and once more while Open recovers -/
theorem stop_twice {ws now im : List Int} (h : HW ws now) (h48 : (recsOf ws (nextS now)).length ≤ 48) (s : Stop ws (nextS now) im) (n : Nat) (hn : n ≤ (openSt im).length) (P : Nat → Bool) :
    ∃ a b, Opens im a ∧ Opens (leftW im (openSt im) (lastF (openSt im) n) P n) b ∧ ((Like a ws ∧ Like b ws) ∨ (Like a now ∧ Like b now)) := by
  obtain ⟨a, o, hc⟩ := stop_opens h h48 s
  rcases hc with ⟨lk, ou, e⟩ | ⟨lk, as1 | ⟨ou, e⟩⟩
  · rw [e] at hn ⊢
    obtain rfl : n = 0 := by simpa using hn
    exact ⟨a, a, o, o, .inl ⟨lk, lk⟩⟩
  · rcases asking_again h h48 as1 n hn P with x | x
    · obtain ⟨o2, lk2⟩ := opens_asking h h48 x
      exact ⟨a, _, o, o2, .inr ⟨lk, lk2⟩⟩
    · obtain ⟨w2, lk2⟩ := out_now h x
      exact ⟨a, _, o, opens_self w2, .inr ⟨lk, lk2⟩⟩
  · rw [e] at hn ⊢
    obtain rfl : n = 0 := by simpa using hn
    exact ⟨a, a, o, o, .inr ⟨lk, lk⟩⟩
end Go.Proofs.YtbagcjlimdilpaaGreat
