/- Texts that follow one another, joined. -/
import Derived.Test.YtbagcjlimdilpabGreatKtKpC
/- Mathematics of a stop: what is left opens as what was, or as what is; and so once more. -/
namespace Go.Proofs.YtbagcjlimdilpabGreat

theorem flatR_at : ∀ (rs : List (Int × Int)) (i : Nat) (hi : i < rs.length), wd (flatR rs) (2 * i) = (rs[i]).1 ∧ wd (flatR rs) (2 * i + 1) = (rs[i]).2
  | [], i, hi => by simp at hi
  | r :: rs, 0, _ => by simp [flatR, wd]
  | r :: rs, i + 1, hi => by
    have := flatR_at rs i (by simpa using hi)
    have e : flatR (r :: rs) = r.1 :: r.2 :: flatR rs := rfl
    rw [e]
    simpa [wd, show 2 * (i + 1) = 2 * i + 1 + 1 by omega] using this
theorem recs_pos {ws now : List Int} (h : HW ws now) : 1 ≤ (recsOf ws (nextS now)).length := by
  have hL := h.gw.len
  have : ((2 : Int), wd (nextS now) 2) ∈ recsOf ws (nextS now) := recs_mem.2 ⟨2, by omega, by
    rw [nextS_wd (by have := h.len; omega), if_neg (by omega), if_pos rfl, h.two, IntKind.wrap_u64]
    omega, rfl⟩
  exact List.length_pos_of_mem this
theorem asking_recs {ws now im : List Int} (a : Asking ws (nextS now) (recsOf ws (nextS now)) im) : logRs im (recsOf ws (nextS now)).length = recsOf ws (nextS now) := by
  refine List.ext_getElem (by rw [logRs_len]) (fun i h1 h2 => ?_)
  have hf := flatR_at (recsOf ws (nextS now)) i h2
  simp only [logRs, List.getElem_map, List.getElem_range]
  rw [a.log (2 * i) (by omega), show 11 + 2 * i = 10 + (2 * i + 1) by omega, a.log (2 * i + 1) (by omega), hf.1, hf.2]
theorem asking_asks {ws now im : List Int} (h : HW ws now) (h48 : (recsOf ws (nextS now)).length ≤ 48) (a : Asking ws (nextS now) (recsOf ws (nextS now)) im) : asksS im = ((recsOf ws (nextS now)).length, true) := by
  have hp := recs_pos h
  have hn : (wd im 8).toNat = (recsOf ws (nextS now)).length := by rw [a.num]; omega
  have hr := asking_recs a
  have hw : ∀ i (hi : i < (recsOf ws (nextS now)).length), wd im (10 + 2 * i) = ((recsOf ws (nextS now))[i]).1 ∧ wd im (11 + 2 * i) = ((recsOf ws (nextS now))[i]).2 := fun i hi => by
    have hf := flatR_at (recsOf ws (nextS now)) i hi
    rw [a.log (2 * i) (by omega), show 11 + 2 * i = 10 + (2 * i + 1) by omega, a.log (2 * i + 1) (by omega), hf.1, hf.2]
    exact ⟨rfl, rfl⟩
  rw [asks_right (by rw [a.num]; omega) (by rw [a.num]; omega) (fun i hi => by
    rw [hn] at hi
    obtain ⟨q, e1, e2, e3, _⟩ := recs_out h _ (List.getElem_mem hi)
    rw [(hw i hi).1, e1, okAt_iff, a.len]
    omega), hn]
  have : logWords im (recsOf ws (nextS now)).length = ((recsOf ws (nextS now)).length : Int) :: flatR (recsOf ws (nextS now)) := by
    unfold logWords
    rw [a.num]
    congr 1
    have e : flatR (recsOf ws (nextS now)) = flatR (logRs im (recsOf ws (nextS now)).length) := by rw [hr]
    rw [e]
    unfold flatR logRs
    rw [List.flatMap_map]
  rw [this, a.sum]
  simp [enterSum]
theorem asking_open {ws now im : List Int} (h : HW ws now) (h48 : (recsOf ws (nextS now)).length ≤ 48) (a : Asking ws (nextS now) (recsOf ws (nextS now)) im) : Out (openW im) (nextS now) ∧ openSt im = carrySt (recsOf ws (nextS now)) ∧ loggedS im = openW im := by
  have hL := h.gw.len
  have hp := recs_pos h
  have ha := asking_asks h h48 a
  have hr := asking_recs a
  have hd : doneS im (recsOf ws (nextS now)).length = putsW im (recsOf ws (nextS now)) := by
    rw [← logRs_done, hr]
  have hw : openW im = (putsW im (recsOf ws (nextS now))).set 8 0 := by
    unfold openW
    rw [ha, if_neg (by simp only; omega), hd]
  refine ⟨⟨by rw [openW_len, a.len, nextS_len]; exact h.len.symm, ?_, fun q hq => ?_⟩, ?_, ?_⟩
  · rw [hw, wd_set (by rw [putsW_len, a.len]; omega), if_pos rfl]
  · rw [hw, wd_set (by rw [putsW_len, a.len]; omega), if_neg (by omega)]
    exact putsW_recs a.len (by rw [nextS_len]; exact h.len) (a.out q hq)
  · unfold openSt carrySt
    rw [ha, if_neg (by simp only; omega), ← logRs_puts, hr]
    simp
  · unfold loggedS
    rw [ha, hw]
    simp only [if_true, hd]
/-- a stop within what Open does leaves a log that asks, or the new words -/
theorem asking_again {ws now im : List Int} (h : HW ws now) (h48 : (recsOf ws (nextS now)).length ≤ 48) (a : Asking ws (nextS now) (recsOf ws (nextS now)) im) (n : Nat) (hn : n ≤ (openSt im).length) (P : Nat → Bool) : Asking ws (nextS now) (recsOf ws (nextS now)) (leftW im (openSt im) (lastF (openSt im) n) P n) ∨ Out (leftW im (openSt im) (lastF (openSt im) n) P n) (nextS now) := by
  have hL := h.gw.len
  have hro := recs_out h
  have hd : ∀ q, q < ws.length → wd (nextS now) q ≠ wd ws q → ∃ j, ∃ hj : j < (recsOf ws (nextS now)).length, ((recsOf ws (nextS now))[j]).1 = (q : Int) := fun q hq hne => by
    obtain ⟨j, hj, e⟩ := List.getElem_of_mem (recs_mem.2 ⟨q, hq, hne, rfl⟩ : ((q : Int), wd (nextS now) q) ∈ recsOf ws (nextS now))
    exact ⟨j, hj, by rw [e]⟩
  rw [(asking_open h h48 a).2.1] at hn ⊢
  obtain ⟨rs, hrs⟩ : ∃ rs, rs = recsOf ws (nextS now) := ⟨_, rfl⟩
  rw [← hrs] at a hn h48 hro ⊢
  simp only [← hrs] at hd
  have hC : ∀ i, stq (carrySt rs) (rs.length + i) = stq [⟨2, 0, 0⟩, ⟨1, 8, 0⟩, ⟨2, 0, 0⟩] i := fun i => by
    unfold carrySt
    rw [stq_right (by rw [putsSt_len]; omega), putsSt_len]
    congr 1
    omega
  have hP : ∀ j (hj : j < rs.length), stq (carrySt rs) j = ⟨1, (rs[j]).1, (rs[j]).2⟩ := fun j hj => by
    unfold carrySt
    rw [stq_left (by rw [putsSt_len]; exact hj)]
    exact stq_puts hj
  have hcl : (carrySt rs).length = rs.length + 3 := by unfold carrySt; simp [putsSt_len]
  rw [hcl] at hn
  have hk : ∀ {i q : Nat}, PutAt (carrySt rs) i q → (i < rs.length ∧ (q < 8 ∨ 106 ≤ q) ∧ (stq (carrySt rs) i).v = wd (nextS now) q) ∨ (i = rs.length + 1 ∧ q = 8 ∧ (stq (carrySt rs) i).v = 0) := fun {i q} hp => by
    obtain ⟨h1, h2⟩ := hp
    by_cases c1 : i < rs.length
    · obtain ⟨q', e1, e2, _, e3⟩ := hro _ (List.getElem_mem c1)
      rw [hP i c1] at h2 ⊢
      simp only at h2 ⊢
      obtain rfl : q' = q := by omega
      exact .inl ⟨c1, e2, e3⟩
    · obtain ⟨j, rfl⟩ : ∃ j, i = rs.length + j := ⟨i - rs.length, by omega⟩
      rw [hC] at h1 h2 ⊢
      match j, h1, h2 with
      | 0, h1, _ => simp [stq] at h1
      | 1, _, h2 => simp [stq] at h2; exact .inr ⟨rfl, by omega, rfl⟩
      | 2, h1, _ => simp [stq] at h1
      | j + 3, h1, _ => simp [stq] at h1
  obtain ⟨im', him⟩ : ∃ im', im' = leftW im (carrySt rs) (lastF (carrySt rs) n) P n := ⟨_, rfl⟩
  rw [← him]
  have hlen : im'.length = ws.length := by rw [him, leftW_len]; exact a.len
  have hout : ∀ q, q < 8 ∨ 106 ≤ q → wd im' q = wd ws q ∨ wd im' q = wd (nextS now) q := fun q hq => by
    rw [him]
    rcases left_or (ws := im) (l := carrySt rs) (last := lastF (carrySt rs) n) (P := P) (q := q) (v := wd (nextS now) q) (n := n) (fun i hi hp => by
      rcases hk hp with hx | hx
      · exact hx.2.2
      · omega) with e | e
    · rw [e]; exact a.out q hq
    · exact .inr e
  have hlog : ∀ q, 8 < q → q < 106 → wd im' q = wd im q := fun q h1 h2 => by
    rw [him, left_no 0 (by omega) (fun i _ hi hp => by rcases hk hp with hx | hx <;> omega)]
    rfl
  by_cases c1 : n ≤ rs.length + 1
  · left
    refine ⟨hlen, ?_, (hlog 9 (by omega) (by omega)).trans a.sum, fun i hi => (hlog _ (by omega) (by omega)).trans (a.log i hi), hout⟩
    rw [him, left_no 0 (by omega) (fun i _ hi hp => by rcases hk hp with hx | hx <;> omega)]
    exact a.num
  · have hlast : rs.length ≤ lastF (carrySt rs) n := last_ge (by have := hC 0; rw [Nat.add_zero] at this; rw [this]; rfl) n (by omega)
    have hnew : ∀ q, q < 8 ∨ 106 ≤ q → wd im' q = wd (nextS now) q := fun q hq => by
      by_cases hql : q < ws.length
      · by_cases hne : wd (nextS now) q = wd ws q
        · rcases hout q hq with e | e
          · rw [e, hne]
          · exact e
        · obtain ⟨j, hj, ej⟩ := hd q hql hne
          rw [him]
          refine left_yes (fun i hi hp => ?_) j (by omega) ⟨by rw [hP j hj], by rw [hP j hj]; exact ej⟩ (.inl (by omega)) (by rw [a.len]; exact hql)
          rcases hk hp with hx | hx
          · exact hx.2.2
          · omega
      · rw [wd_out (by omega), wd_out (by rw [nextS_len]; have := h.len; omega)]
    have h8 : wd im' 8 = (rs.length : Int) ∨ wd im' 8 = 0 := by
      rw [him]
      rcases left_or (ws := im) (l := carrySt rs) (last := lastF (carrySt rs) n) (P := P) (q := 8) (v := 0) (n := n) (fun i hi hp => by
        rcases hk hp with hx | hx
        · omega
        · exact hx.2.2) with e | e
      · rw [e]; exact .inl a.num
      · exact .inr e
    rcases h8 with h8 | h8
    · left
      exact ⟨hlen, h8, (hlog 9 (by omega) (by omega)).trans a.sum, fun i hi => (hlog _ (by omega) (by omega)).trans (a.log i hi), hout⟩
    · right
      exact ⟨by rw [hlen, nextS_len]; exact h.len.symm, h8, hnew⟩
/-- words with an empty log, open as they are -/
theorem open_self {a : List Int} (h : HW a a) : OpenOk a ∧ openW a = a ∧ openSt a = [] := open_good h.gw h.sum
theorem logged_self {a : List Int} (h : HW a a) : loggedS a = a := logged_same h.gw.log (by have := h.gw.len; omega)
/-- how a stop opens -/
structure Opens (im a : List Int) : Prop where
  ok : OpenOk im
  open' : openW im = a
  hw : HW a a
  logged : loggedS im = a
theorem opens_self {a : List Int} (h : HW a a) : Opens a a := ⟨(open_self h).1, (open_self h).2.1, h, logged_self h⟩
theorem opens_asking {ws now im : List Int} (h : HW ws now) (h48 : (recsOf ws (nextS now)).length ≤ 48) (a : Asking ws (nextS now) (recsOf ws (nextS now)) im) : Opens im (openW im) ∧ Like (openW im) now := by
  obtain ⟨o, e, el⟩ := asking_open h h48 a
  obtain ⟨w, lk⟩ := out_now h o
  have ha := asking_asks h h48 a
  refine ⟨⟨⟨by rw [a.len]; exact h.gw.n0, by rw [ha], check_good w.gw w.sum⟩, rfl, w, el⟩, lk⟩
/-- WHATEVER IS LOST: what was committed, or what was to be -/
theorem stop_opens {ws now im : List Int} (h : HW ws now) (h48 : (recsOf ws (nextS now)).length ≤ 48) (s : Stop ws (nextS now) im) : ∃ a, Opens im a ∧ ((Like a ws ∧ Out im ws ∧ openSt im = []) ∨ (Like a now ∧ (Asking ws (nextS now) (recsOf ws (nextS now)) im ∨ (Out im (nextS now) ∧ openSt im = [])))) := by
  rcases s with o | a | o
  · obtain ⟨w, lk⟩ := out_was h o
    exact ⟨im, opens_self w, .inl ⟨lk, o, (open_self w).2.2⟩⟩
  · obtain ⟨o, lk⟩ := opens_asking h h48 a
    exact ⟨openW im, o, .inr ⟨lk, .inl a⟩⟩
  · obtain ⟨w, lk⟩ := out_now h o
    exact ⟨im, opens_self w, .inr ⟨lk, .inr ⟨o, (open_self w).2.2⟩⟩⟩
/-- .. and once more while Open recovers -/
theorem stop_twice {ws now im : List Int} (h : HW ws now) (h48 : (recsOf ws (nextS now)).length ≤ 48) (s : Stop ws (nextS now) im) (n : Nat) (hn : n ≤ (openSt im).length) (P : Nat → Bool) :
    ∃ a b, Opens im a ∧ Opens (leftW im (openSt im) (lastF (openSt im) n) P n) b ∧ ((Like a ws ∧ Like b ws) ∨ (Like a now ∧ Like b now)) := by
  obtain ⟨a, o, hc⟩ := stop_opens h h48 s
  rcases hc with ⟨lk, ou, e⟩ | ⟨lk, as1 | ⟨ou, e⟩⟩
  · rw [e] at hn ⊢
    obtain rfl : n = 0 := by simpa using hn
    exact ⟨a, a, o, o, .inl ⟨lk, lk⟩⟩
  · rcases asking_again h h48 as1 n hn P with x | x
    · obtain ⟨o2, lk2⟩ := opens_asking h h48 x
      exact ⟨a, _, o, o2, .inr ⟨lk, lk2⟩⟩
    · obtain ⟨w2, lk2⟩ := out_now h x
      exact ⟨a, _, o, opens_self w2, .inr ⟨lk, lk2⟩⟩
  · rw [e] at hn ⊢
    obtain rfl : n = 0 := by simpa using hn
    exact ⟨a, a, o, o, .inr ⟨lk, lk⟩⟩
end Go.Proofs.YtbagcjlimdilpabGreat

/- Mathematics of a repair of good words: what is reached stays. -/
namespace Go.Proofs.YtbagcjlimdilpabGreat

/-- what Repair leaves of good words: the objects that are reached -/
structure Mended (a r : List Int) : Prop where
  mem : ∀ o, o ∈ objs r ↔ o ∈ objs a ∧ RB a (objs a) o
  words : ∀ o ∈ objs r, objW r o = objW a o
  roots : ∀ k, k < 4 → wd r (3 + k) = wd a (3 + k)
  len : r.length = a.length
theorem mend_word {a w3 : List Int} (g : Good a) (z3 : Zeroed a w3 (fixZ a (objs a))) {o : Ob} (ho : o ∈ objs a) (hr : RB a (objs a) o) {i : Nat} (hi : i < 8 * o.span - 1) : wd w3 (pl o i) = wd a (pl o i) := by
  by_cases hz : fixZ a (objs a) (pl o i)
  · rw [z3.yes _ hz]
    rcases hz with (hx | hx) | hx
    · have := hx.2.1
      unfold pl at this
      omega
    · obtain ⟨j, hj, _, _, p', hp', e, hn⟩ := hx
      rcases g.ptr _ (List.getElem_mem hj) p' hp' with h0 | h0
      · rw [e]; exact h0.symm
      · rw [e] at hn
        exact absurd h0 (idx_not_hnd.1 hn)
    · obtain ⟨j, hj, _, hnr, b', hb', e⟩ := hx
      exfalso
      have ht := g.tiles
      rcases pair_mem ht.apart ho (List.getElem_mem hj) with he | he | he
      · exact hnr (rb_at hr hj he)
      · unfold pl at e; omega
      · unfold pl at e; omega
  · exact z3.no _ hz
theorem mend_root {a w3 : List Int} (g : Good a) (z3 : Zeroed a w3 (fixZ a (objs a))) {k : Nat} (hk : k < 4) : wd w3 (3 + k) = wd a (3 + k) := by
  rcases fix_root z3 hk with ⟨hx, h0⟩ | ⟨_, he⟩
  · rcases g.root k hk with h | h
    · rw [h0, h]
    · exact absurd h (idx_not_hnd.1 hx)
  · exact he
theorem sound_hw {r : List Int} (s : Sound r) : HW r r :=
  have g : Good r := ⟨s.n0, s.bad, s.magic, s.n, s.log, fun k hk => (s.root k hk).imp id idx_hnd.1, fun o ho p hp => by
    obtain ⟨i, hi, rfl⟩ := List.getElem_of_mem ho
    exact (s.ptr i hi p hp).imp id idx_hnd.1⟩
  ⟨g, g, s.sum, rfl, fun _ _ _ => rfl⟩
theorem repair_good {im a r : List Int} {e : Int} (hr : RepairIs im r e) (ho : Opens im a) : e = 0 ∧ Mended a r ∧ HW r r := by
  have hlen : a.length = im.length := by rw [← ho.logged, loggedS_len]
  have h0 : e = 0 := by
    rcases hr with ⟨h, _⟩ | ⟨_, ⟨h, _⟩ | ⟨_, h, _⟩⟩
    · exact absurd h ho.ok.1
    · exfalso
      apply h
      unfold headOk
      rw [ho.logged, ← hlen]
      exact ⟨ho.hw.gw.magic, ho.hw.gw.n⟩
    · exact h
  subst h0
  have hw := sound_hw (repair_is_sound hr)
  refine ⟨rfl, ?_, hw⟩
  rcases hr with ⟨h, _⟩ | ⟨_, ⟨_, h, _⟩ | ⟨_, _, w2, w3, z2, z3, rfl⟩⟩
  · exact absurd h ho.ok.1
  · cases h
  rw [ho.logged, ho.hw.gw.bad] at z2
  obtain rfl : w2 = a := Zeroed.one z2 (zeroed_self a (fun q hq => by simp at hq))
  have g := ho.hw.gw
  have hL := g.len
  have h7 : 7 < w3.length := by rw [z3.len]; omega
  have hwd : ∀ q, q ≠ 7 → wd (w3.set 7 (sumL (w3.take 7))) q = wd w3 q := fun q hq => by rw [wd_set h7, if_neg hq]
  have hob : objs (w3.set 7 (sumL (w3.take 7))) = objs w3 := (objs_congr (by simp) (fun c => hwd _ (by omega))).1
  obtain ⟨hb3, hmem⟩ := walk_fixed z3 (n := nblk w2.length) rfl (nblk w2.length) 0 (by omega) (fun o ho => ho) g.bad
  have hmem3 : ∀ o, o ∈ objs w3 ↔ o ∈ objs w2 ∧ RB w2 (objs w2) o := fun o => by
    have := hmem o
    unfold objs
    rw [z3.len]
    exact this
  refine ⟨fun o => by rw [hob]; exact hmem3 o, fun o ho' => ?_, fun k hk => by rw [hwd _ (by omega)]; exact mend_root g z3 hk, by rw [List.length_set]; exact z3.len⟩
  rw [hob] at ho'
  obtain ⟨h1, h2⟩ := (hmem3 o).1 ho'
  refine objW_congr (fun i hi => ?_)
  rw [hwd _ (by unfold pl; omega)]
  exact mend_word g z3 h1 h2 hi
theorem asc_eq : ∀ {l m : List Ob}, l.Pairwise (fun o o' => o.block < o'.block) → m.Pairwise (fun o o' => o.block < o'.block) → (∀ o, o ∈ l ↔ o ∈ m) → l = m
  | [], [], _, _, _ => rfl
  | [], y :: m, _, _, h => by have := (h y).2 (by simp); cases this
  | x :: l, [], _, _, h => by have := (h x).1 (by simp); cases this
  | x :: l, y :: m, hl, hm, h => by
    obtain ⟨l1, l2⟩ := List.pairwise_cons.1 hl
    obtain ⟨m1, m2⟩ := List.pairwise_cons.1 hm
    have hxy : x = y := by
      rcases List.mem_cons.1 ((h x).1 (by simp)) with e | e
      · exact e
      · rcases List.mem_cons.1 ((h y).2 (by simp)) with e' | e'
        · exact e'.symm
        · have := m1 x e; have := l1 y e'; omega
    subst hxy
    congr 1
    refine asc_eq l2 m2 (fun o => ?_)
    constructor
    · intro ho
      rcases List.mem_cons.1 ((h o).1 (List.mem_cons_of_mem _ ho)) with e | e
      · subst e; have := l1 o ho; omega
      · exact e
    · intro ho
      rcases List.mem_cons.1 ((h o).2 (List.mem_cons_of_mem _ ho)) with e | e
      · subst e; have := m1 o ho; omega
      · exact e
theorem asc_pair {l : List Ob} (h : Asc l) : l.Pairwise (fun o o' => o.block < o'.block) := by
  rw [List.pairwise_iff_getElem]
  exact fun i j hi hj hij => h i j hi hj hij
/-- the objects behind a repair, as a part of those ahead of it: those that are marked -/
theorem mended_objs {a r : List Int} (m : Mended a r) {out : List Bool} (hl : out.length = (objs a).length) (hm : ∀ i, out[i]? = some true ↔ Reach a (objs a) i) : objs r = (((objs a).zip out).filter (fun x => x.2)).map (fun x => x.1) := by
  refine asc_eq (asc_pair (objs_asc r)) ?_ (fun o => ?_)
  · have hp : ((objs a).zip out).Pairwise (fun x y => x.1.block < y.1.block) := by
      have := asc_pair (objs_asc a)
      rw [← List.map_fst_zip (l₁ := objs a) (l₂ := out) (by omega)] at this
      rwa [List.pairwise_map] at this
    rw [List.pairwise_map]
    exact hp.filter _
  · rw [m.mem]
    simp only [List.mem_map, List.mem_filter]
    constructor
    · rintro ⟨_, i, hi, rfl, hr⟩
      have ho := (hm i).2 hr
      have hio : i < out.length := by omega
      rw [List.getElem?_eq_getElem hio] at ho
      refine ⟨((objs a)[i], out[i]), ⟨?_, by simpa using ho⟩, rfl⟩
      rw [← List.getElem_zip (l := objs a) (l' := out) (h := by simp; omega)]
      exact List.getElem_mem _
    · rintro ⟨x, ⟨hx, hb⟩, rfl⟩
      obtain ⟨i, hi, e⟩ := List.getElem_of_mem hx
      have hi1 : i < (objs a).length := by simp at hi; omega
      have hi2 : i < out.length := by omega
      rw [List.getElem_zip] at e
      subst e
      exact ⟨List.getElem_mem _, i, hi1, rfl, (hm i).1 (by rw [List.getElem?_eq_getElem hi2]; simpa using hb)⟩
end Go.Proofs.YtbagcjlimdilpabGreat

