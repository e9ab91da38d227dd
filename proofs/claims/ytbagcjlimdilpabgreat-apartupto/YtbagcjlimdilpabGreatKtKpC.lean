/- Mathematics of a stop: what is left of words and stores, and how it opens. -/
import Derived.Test.YtbagcjlimdilpabGreatKtJ15
import Derived.Test.YtbagcjlimdilpabGreatKtJ16
namespace Go.Proofs.YtbagcjlimdilpabGreat

/-- outside the log the words of b; the log empty -/
structure Out (a b : List Int) : Prop where
  len : a.length = b.length
  log : wd a 8 = 0
  out : ∀ q, q < 8 ∨ 106 ≤ q → wd a q = wd b q
/-- .. of what was committed -/
theorem out_was {ws now a : List Int} (h : HW ws now) (o : Out a ws) : HW a a ∧ Like a ws := by
  have hL := h.gw.len
  obtain ⟨g, _, _⟩ := h.gw.congr o.len (o.out 0 (by omega)) (o.out 1 (by omega)) o.log (fun r hr => o.out _ (by omega)) (fun q hq => o.out q (by omega))
  refine ⟨⟨g, g, ?_, rfl, fun _ _ _ => rfl⟩, like_of o.len (fun r hr => o.out _ (by omega)) (fun q hq => o.out q (by omega))⟩
  rw [o.out 7 (by omega), h.sum]
  congr 1
  exact (take_ext 7 (by have := o.len; omega) (by omega) (fun q hq => o.out q (by omega))).symm
/-- .. of what is there now -/
theorem out_now {ws now a : List Int} (h : HW ws now) (o : Out a (nextS now)) : HW a a ∧ Like a now := by
  have hL := h.gw.len
  have hnx := fun q => nextS_wd (now := now) (by have := h.len; omega) q
  have hlen : a.length = now.length := o.len.trans (nextS_len now)
  have hlow : ∀ q, q < 8 ∨ 106 ≤ q → q ≠ 7 → q ≠ 2 → wd a q = wd now q := fun q hq h7 h2 => by rw [o.out q hq, hnx, if_neg h7, if_neg h2]
  obtain ⟨g, _, _⟩ := h.gn.congr hlen (hlow 0 (by omega) (by omega) (by omega)) (hlow 1 (by omega) (by omega) (by omega)) o.log (fun r hr => hlow _ (by omega) (by omega) (by omega)) (fun q hq => hlow q (by omega) (by omega) (by omega))
  refine ⟨⟨g, g, ?_, rfl, fun _ _ _ => rfl⟩, like_of hlen (fun r hr => hlow _ (by omega) (by omega) (by omega)) (fun q hq => hlow q (by omega) (by omega) (by omega))⟩
  rw [o.out 7 (by omega), hnx, if_pos rfl]
  congr 1
  refine take_ext 7 (by simp [countS]; have := h.len; omega) (by rw [hlen]; have := h.len; omega) (fun q hq => ?_)
  rw [o.out q (by omega), hnx, if_neg (by omega)]
  unfold countS
  rw [wd_set (by have := h.len; omega)]

/-- the i-th store -/
def stq (l : List St) (i : Nat) : St := l.getD i ⟨0, 0, 0⟩
/-- the last flush among the first i -/
def lastF (l : List St) : Nat → Nat
  | 0 => 0
  | i + 1 => if (stq l i).k = 2 then i else lastF l i
theorem last_ge {l : List St} {j : Nat} (hj : (stq l j).k = 2) : ∀ n, j < n → j ≤ lastF l n
  | 0, h => by omega
  | n + 1, h => by
    unfold lastF
    split
    · omega
    · rename_i hne
      by_cases hjn : j = n
      · subst hjn; exact absurd hj hne
      · exact last_ge hj n (by omega)
/-- is the i-th store there, if it is a put at q? -/
def PutAt (l : List St) (i q : Nat) : Prop := (stq l i).k = 1 ∧ (stq l i).at' = (q : Int)
/-- what is left: the first n stores, those ahead of 'last' and those that P says -/
def leftW (ws : List Int) (l : List St) (last : Nat) (P : Nat → Bool) : Nat → List Int
  | 0 => ws
  | i + 1 => if (stq l i).k = 1 ∧ 0 ≤ (stq l i).at' ∧ (stq l i).at' < (ws.length : Int) ∧ (i < last ∨ P i = true) then (leftW ws l last P i).set (stq l i).at'.toNat (stq l i).v else leftW ws l last P i
theorem leftW_len (ws : List Int) (l : List St) (last : Nat) (P : Nat → Bool) : ∀ n, (leftW ws l last P n).length = ws.length
  | 0 => rfl
  | n + 1 => by
    unfold leftW
    split
    · rw [List.length_set]; exact leftW_len ws l last P n
    · exact leftW_len ws l last P n
section
variable {ws : List Int} {l : List St} {last : Nat} {P : Nat → Bool} {q : Nat} {v : Int}
theorem left_step (n : Nat) : wd (leftW ws l last P (n + 1)) q = wd (leftW ws l last P n) q ∨ (PutAt l n q ∧ wd (leftW ws l last P (n + 1)) q = (stq l n).v) := by
  rw [show leftW ws l last P (n + 1) = if (stq l n).k = 1 ∧ 0 ≤ (stq l n).at' ∧ (stq l n).at' < (ws.length : Int) ∧ (n < last ∨ P n = true) then (leftW ws l last P n).set (stq l n).at'.toNat (stq l n).v else leftW ws l last P n from rfl]
  split
  · rename_i h
    rw [wd_set (by rw [leftW_len]; omega)]
    by_cases hq : q = (stq l n).at'.toNat
    · rw [if_pos hq]; exact .inr ⟨⟨h.1, by omega⟩, rfl⟩
    · rw [if_neg hq]; exact .inl rfl
  · exact .inl rfl
theorem left_hit (n : Nat) (hp : PutAt l n q) (hq : q < ws.length) (ha : n < last ∨ P n = true) : wd (leftW ws l last P (n + 1)) q = (stq l n).v := by
  obtain ⟨h1, h2⟩ := hp
  rw [show leftW ws l last P (n + 1) = if (stq l n).k = 1 ∧ 0 ≤ (stq l n).at' ∧ (stq l n).at' < (ws.length : Int) ∧ (n < last ∨ P n = true) then (leftW ws l last P n).set (stq l n).at'.toNat (stq l n).v else leftW ws l last P n from rfl]
  rw [if_pos ⟨h1, by omega, by omega, ha⟩, wd_set (by rw [leftW_len]; omega), if_pos (by omega)]
/-- nothing is put there -/
theorem left_no : ∀ {n : Nat} (m : Nat), m ≤ n → (∀ i, m ≤ i → i < n → ¬ PutAt l i q) → wd (leftW ws l last P n) q = wd (leftW ws l last P m) q := by
  intro n
  induction n with
  | zero => intro m hm _; obtain rfl : m = 0 := by omega
            rfl
  | succ n ih =>
    intro m hm h
    by_cases he : m = n + 1
    · subst he; rfl
    · rcases left_step (ws := ws) (l := l) (last := last) (P := P) (q := q) n with e | ⟨hp, _⟩
      · rw [e]; exact ih m (by omega) (fun i h1 h2 => h i h1 (by omega))
      · exact absurd hp (h n (by omega) (by omega))
/-- only v is put there -/
theorem left_or : ∀ {n : Nat}, (∀ i, i < n → PutAt l i q → (stq l i).v = v) → wd (leftW ws l last P n) q = wd ws q ∨ wd (leftW ws l last P n) q = v := by
  intro n
  induction n with
  | zero => intro _; exact .inl rfl
  | succ n ih =>
    intro h
    rcases left_step (ws := ws) (l := l) (last := last) (P := P) (q := q) n with e | ⟨hp, e⟩
    · rw [e]; exact ih (fun i hi => h i (by omega))
    · exact .inr (e.trans (h n (by omega) hp))
/-- only v is put there, and one of these is there -/
theorem left_yes : ∀ {n : Nat}, (∀ i, i < n → PutAt l i q → (stq l i).v = v) → ∀ i, i < n → PutAt l i q → (i < last ∨ P i = true) → q < ws.length → wd (leftW ws l last P n) q = v := by
  intro n
  induction n with
  | zero => intro _ i hi; omega
  | succ n ih =>
    intro h i hi hp ha hq
    by_cases he : i = n
    · subst he
      rw [left_hit i hp hq ha]
      exact h i hi hp
    · rcases left_step (ws := ws) (l := l) (last := last) (P := P) (q := q) n with e | ⟨hp', e⟩
      · rw [e]; exact ih (fun i hi => h i (by omega)) i (by omega) hp ha hq
      · exact e.trans (h n (by omega) hp')
end
/-- all is there -/
theorem left_all {ws : List Int} {l : List St} {P : Nat → Bool} (last : Nat) (hP : ∀ i, P i = true) (hin : ∀ i, i < l.length → (stq l i).k = 1 → 0 ≤ (stq l i).at' ∧ (stq l i).at' < (ws.length : Int)) : leftW ws l last P l.length = (l.filter (fun s => s.k == 1)).foldl (fun a s => a.set s.at'.toNat s.v) ws := by
  have : ∀ n, n ≤ l.length → leftW ws l last P n = ((l.take n).filter (fun s => s.k == 1)).foldl (fun a s => a.set s.at'.toNat s.v) ws := by
    intro n
    induction n with
    | zero => intro _; rfl
    | succ n ih =>
      intro hn
      have hs : stq l n = l[n] := by unfold stq; simp [List.getD, show n < l.length by omega]
      rw [show leftW ws l last P (n + 1) = if (stq l n).k = 1 ∧ 0 ≤ (stq l n).at' ∧ (stq l n).at' < (ws.length : Int) ∧ (n < last ∨ P n = true) then (leftW ws l last P n).set (stq l n).at'.toNat (stq l n).v else leftW ws l last P n from rfl]
      rw [List.take_succ_eq_append_getElem (by omega), List.filter_append, List.foldl_append, ← ih (by omega)]
      by_cases h1 : (stq l n).k = 1
      · rw [if_pos ⟨h1, (hin n (by omega) h1).1, (hin n (by omega) h1).2, .inr (hP n)⟩]
        rw [hs] at h1 ⊢
        simp [h1]
      · rw [if_neg (fun h => h1 h.1)]
        rw [hs] at h1
        simp [h1]
  have h := this l.length (Nat.le_refl _)
  rwa [List.take_length] at h
theorem filt_puts (rs : List (Int × Int)) : (putsSt rs).filter (fun s => s.k == 1) = putsSt rs := by
  rw [List.filter_eq_self]
  intro s hs
  simp only [putsSt, List.mem_map] at hs
  obtain ⟨r, _, rfl⟩ := hs
  rfl
theorem fold_puts (rs : List (Int × Int)) (a : List Int) : (putsSt rs).foldl (fun a s => a.set s.at'.toNat s.v) a = putsW a rs := by
  unfold putsSt putsW
  rw [List.foldl_map]
/-- all stores of a Commit make its words -/
theorem all_stores (ws now : List Int) : ((pcommitSt ws now).filter (fun s => s.k == 1)).foldl (fun a s => a.set s.at'.toNat s.v) ws = pcommitW ws now := by
  unfold pcommitSt enterSt carrySt
  simp only [List.filter_append, filt_puts, List.foldl_append, fold_puts]
  rfl

/-- the stores of a Commit, one by one -/
structure Sts (l : List St) (rs : List (Int × Int)) : Prop where
  len : l.length = 3 * rs.length + 7
  log : ∀ i, i < 2 * rs.length → stq l i = ⟨1, ((10 + i : Nat) : Int), wd (flatR rs) i⟩
  sum : stq l (2 * rs.length) = ⟨1, 9, enterSum rs⟩
  f1 : stq l (2 * rs.length + 1) = ⟨2, 0, 0⟩
  num : stq l (2 * rs.length + 2) = ⟨1, 8, (rs.length : Int)⟩
  f2 : stq l (2 * rs.length + 3) = ⟨2, 0, 0⟩
  put : ∀ j (hj : j < rs.length), stq l (2 * rs.length + 4 + j) = ⟨1, (rs[j]).1, (rs[j]).2⟩
  f3 : stq l (3 * rs.length + 4) = ⟨2, 0, 0⟩
  zero : stq l (3 * rs.length + 5) = ⟨1, 8, 0⟩
  f4 : stq l (3 * rs.length + 6) = ⟨2, 0, 0⟩
theorem stq_left {a b : List St} {i : Nat} (h : i < a.length) : stq (a ++ b) i = stq a i := by
  unfold stq; simp only [List.getD]; rw [List.getElem?_append_left h]
theorem stq_right {a b : List St} {i : Nat} (h : a.length ≤ i) : stq (a ++ b) i = stq b (i - a.length) := by
  unfold stq; simp only [List.getD]; rw [List.getElem?_append_right h]
theorem putsSt_len (rs : List (Int × Int)) : (putsSt rs).length = rs.length := by simp [putsSt]
theorem stq_puts {rs : List (Int × Int)} {i : Nat} (h : i < rs.length) : stq (putsSt rs) i = ⟨1, (rs[i]).1, (rs[i]).2⟩ := by
  unfold stq putsSt; simp [List.getD, h]
theorem stq_logPs {ls : List Int} {n i : Nat} (h : i < n) : stq (putsSt (logPs ls n)) i = ⟨1, ((10 + i : Nat) : Int), wd ls i⟩ := by
  rw [stq_puts (by rw [logPs_len]; exact h)]
  simp [logPs]
theorem sts_of (ws now : List Int) : Sts (pcommitSt ws now) (recsOf ws (nextS now)) := by
  unfold pcommitSt
  obtain ⟨rs, hrs⟩ : ∃ rs, rs = recsOf ws (nextS now) := ⟨_, rfl⟩
  rw [← hrs]
  have h1 : (putsSt (logPs (flatR rs) (2 * rs.length))).length = 2 * rs.length := by rw [putsSt_len, logPs_len]
  have he : (enterSt rs).length = 2 * rs.length + 4 := by unfold enterSt; simp [h1]
  have hc : (carrySt rs).length = rs.length + 3 := by unfold carrySt; simp [putsSt_len]
  have hE : ∀ i, stq (enterSt rs) (2 * rs.length + i) = stq [⟨1, 9, enterSum rs⟩, ⟨2, 0, 0⟩, ⟨1, 8, (rs.length : Int)⟩, ⟨2, 0, 0⟩] i := fun i => by
    unfold enterSt
    rw [stq_right (by omega), h1]
    congr 1
    omega
  have hC : ∀ i, stq (carrySt rs) (rs.length + i) = stq [⟨2, 0, 0⟩, ⟨1, 8, 0⟩, ⟨2, 0, 0⟩] i := fun i => by
    unfold carrySt
    rw [stq_right (by rw [putsSt_len]; omega), putsSt_len]
    congr 1
    omega
  have hR : ∀ i, stq (enterSt rs ++ carrySt rs) (2 * rs.length + 4 + i) = stq (carrySt rs) i := fun i => by
    rw [stq_right (by omega), he]
    congr 1
    omega
  refine ⟨by simp [he, hc]; omega, fun i hi => ?_, ?_, ?_, ?_, ?_, fun j hj => ?_, ?_, ?_, ?_⟩
  · rw [stq_left (by omega)]
    unfold enterSt
    rw [stq_left (by omega)]
    exact stq_logPs hi
  · rw [stq_left (by omega)]; exact hE 0
  · rw [stq_left (by omega)]; exact hE 1
  · rw [stq_left (by omega)]; exact hE 2
  · rw [stq_left (by omega)]; exact hE 3
  · rw [hR]
    unfold carrySt
    rw [stq_left (by rw [putsSt_len]; exact hj)]
    exact stq_puts hj
  · rw [show 3 * rs.length + 4 = 2 * rs.length + 4 + (rs.length + 0) by omega, hR]; exact hC 0
  · rw [show 3 * rs.length + 5 = 2 * rs.length + 4 + (rs.length + 1) by omega, hR]; exact hC 1
  · rw [show 3 * rs.length + 6 = 2 * rs.length + 4 + (rs.length + 2) by omega, hR]; exact hC 2

/-- a log that asks for the records rs; outside it old or new words -/
structure Asking (ws nx : List Int) (rs : List (Int × Int)) (im : List Int) : Prop where
  len : im.length = ws.length
  num : wd im 8 = (rs.length : Int)
  sum : wd im 9 = enterSum rs
  log : ∀ i, i < 2 * rs.length → wd im (10 + i) = wd (flatR rs) i
  out : ∀ q, q < 8 ∨ 106 ≤ q → wd im q = wd ws q ∨ wd im q = wd nx q
/-- what a stop leaves: the old words, or the new ones, or a log that asks for them -/
def Stop (ws nx : List Int) (im : List Int) : Prop := Out im ws ∨ Asking ws nx (recsOf ws nx) im ∨ Out im nx

theorem recs_out {ws now : List Int} (h : HW ws now) : ∀ r ∈ recsOf ws (nextS now), ∃ q : Nat, r.1 = (q : Int) ∧ (q < 8 ∨ 106 ≤ q) ∧ q < ws.length ∧ r.2 = wd (nextS now) q := fun r hr => by
  obtain ⟨q, h1, h2, rfl⟩ := recs_mem.1 hr
  refine ⟨q, rfl, ?_, h1, rfl⟩
  by_cases hq : q < 8 ∨ 106 ≤ q
  · exact hq
  · exfalso
    have hL := h.gw.len
    rw [nextS_wd (by have := h.len; omega), if_neg (by omega), if_neg (by omega)] at h2
    exact h2 (h.same q (by omega) (by omega))
theorem put_kind {ws now : List Int} {l : List St} (h : HW ws now) (hs : Sts l (recsOf ws (nextS now))) {i q : Nat} (hp : PutAt l i q) : (i < 2 * (recsOf ws (nextS now)).length ∧ q = 10 + i) ∨ (i = 2 * (recsOf ws (nextS now)).length ∧ q = 9) ∨ (i = 2 * (recsOf ws (nextS now)).length + 2 ∧ q = 8) ∨ (i = 3 * (recsOf ws (nextS now)).length + 5 ∧ q = 8) ∨ (2 * (recsOf ws (nextS now)).length + 4 ≤ i ∧ i < 3 * (recsOf ws (nextS now)).length + 4 ∧ (q < 8 ∨ 106 ≤ q) ∧ (stq l i).v = wd (nextS now) q) := by
  obtain ⟨rs, hrs⟩ : ∃ rs, rs = recsOf ws (nextS now) := ⟨_, rfl⟩
  have hro := recs_out h
  rw [← hrs] at hs hro ⊢
  obtain ⟨h1, h2⟩ := hp
  by_cases c1 : i < 2 * rs.length
  · rw [hs.log i c1] at h2; simp at h2; left; omega
  · by_cases c2 : i = 2 * rs.length
    · subst c2; rw [hs.sum] at h2; simp at h2; right; left; omega
    · by_cases c3 : i = 2 * rs.length + 1
      · subst c3; rw [hs.f1] at h1; simp at h1
      · by_cases c4 : i = 2 * rs.length + 2
        · subst c4; rw [hs.num] at h2; simp at h2; right; right; left; omega
        · by_cases c5 : i = 2 * rs.length + 3
          · subst c5; rw [hs.f2] at h1; simp at h1
          · by_cases c6 : i < 3 * rs.length + 4
            · obtain ⟨j, rfl⟩ : ∃ j, i = 2 * rs.length + 4 + j := ⟨i - (2 * rs.length + 4), by omega⟩
              have hj : j < rs.length := by omega
              obtain ⟨q', e1, e2, _, e3⟩ := hro _ (List.getElem_mem hj)
              rw [hs.put j hj] at h2 ⊢
              simp only at h2 ⊢
              obtain rfl : q' = q := by omega
              exact .inr (.inr (.inr (.inr ⟨by omega, by omega, e2, e3⟩)))
            · by_cases c7 : i = 3 * rs.length + 4
              · subst c7; rw [hs.f3] at h1; simp at h1
              · by_cases c8 : i = 3 * rs.length + 5
                · subst c8; rw [hs.zero] at h2; simp at h2; right; right; right; left; omega
                · by_cases c9 : i = 3 * rs.length + 6
                  · subst c9; rw [hs.f4] at h1; simp at h1
                  · have : stq l i = ⟨0, 0, 0⟩ := by unfold stq; simp [List.getD, show l.length ≤ i by have := hs.len; omega]
                    rw [this] at h1; simp at h1
theorem stop_left {ws now : List Int} {l : List St} (h : HW ws now) (hs : Sts l (recsOf ws (nextS now))) (h48 : (recsOf ws (nextS now)).length ≤ 48) (n : Nat) (P : Nat → Bool) : Stop ws (nextS now) (leftW ws l (lastF l n) P n) := by
  have hk := @put_kind ws now l h hs
  have hL := h.gw.len
  have hro := recs_out h
  have hd : ∀ q, q < ws.length → wd (nextS now) q ≠ wd ws q → ∃ j, ∃ hj : j < (recsOf ws (nextS now)).length, ((recsOf ws (nextS now))[j]).1 = (q : Int) := fun q hq hne => by
    obtain ⟨j, hj, e⟩ := List.getElem_of_mem (recs_mem.2 ⟨q, hq, hne, rfl⟩ : ((q : Int), wd (nextS now) q) ∈ recsOf ws (nextS now))
    exact ⟨j, hj, by rw [e]⟩
  have hlr : (nextS now).length = ws.length := by rw [nextS_len]; exact h.len
  obtain ⟨im, him⟩ : ∃ im, im = leftW ws l (lastF l n) P n := ⟨_, rfl⟩
  rw [← him]
  have hlen : im.length = ws.length := by rw [him]; exact leftW_len ..
  have hout : ∀ q, q < 8 ∨ 106 ≤ q → wd im q = wd ws q ∨ wd im q = wd (nextS now) q := fun q hq => by
    rw [him]
    refine left_or (fun i hi hp => ?_)
    rcases hk hp with hx | hx | hx | hx | hx
    · omega
    · omega
    · omega
    · omega
    · exact hx.2.2.2
  obtain ⟨K, hK⟩ : ∃ K, K = (recsOf ws (nextS now)).length := ⟨_, rfl⟩
  rw [← hK] at h48
  simp only [← hK] at hk
  by_cases c1 : n ≤ 2 * K + 2
  · left
    refine ⟨hlen, ?_, fun q hq => ?_⟩
    · rw [him, left_no 0 (by omega) (fun i _ hi hp => by rcases hk hp with hx | hx | hx | hx | hx <;> omega)]
      exact h.gw.log
    · rw [him, left_no 0 (by omega) (fun i _ hi hp => by rcases hk hp with hx | hx | hx | hx | hx <;> omega)]
      rfl
  · have hlast1 : 2 * K + 1 ≤ lastF l n := last_ge (by have := hs.f1; rw [← hK] at this; rw [this]) n (by omega)
    have hlog : ∀ i, i < 2 * K → wd im (10 + i) = wd (flatR (recsOf ws (nextS now))) i := fun i hi => by
      have hsi := hs.log i (by omega)
      rw [him]
      refine left_yes (fun j hj hp => ?_) i (by omega) ⟨by rw [hsi], by rw [hsi]⟩ (.inl (by omega)) (by omega)
      rcases hk hp with hx | hx | hx | hx | hx
      · obtain rfl : j = i := by omega
        rw [hsi]
      all_goals omega
    have hsum : wd im 9 = enterSum (recsOf ws (nextS now)) := by
      have hsi := hs.sum
      rw [← hK] at hsi
      rw [him]
      refine left_yes (fun j hj hp => ?_) (2 * K) (by omega) ⟨by rw [hsi], by rw [hsi]; rfl⟩ (.inl (by omega)) (by omega)
      rcases hk hp with hx | hx | hx | hx | hx
      · omega
      · obtain rfl : j = 2 * K := by omega
        rw [hsi]
      all_goals omega
    have hnum := hs.num
    rw [← hK] at hnum
    have hv8 : ∀ m, m ≤ 3 * K + 5 → ∀ i, i < m → PutAt l i 8 → (stq l i).v = (K : Int) := fun m hm i hi hp => by
      rcases hk hp with hx | hx | hx | hx | hx
      · omega
      · omega
      · rw [hx.1, hnum]
      · omega
      · omega
    by_cases c2 : n ≤ 3 * K + 5
    · by_cases c3 : n = 2 * K + 3
      · have h8 : wd im 8 = wd ws 8 ∨ wd im 8 = (K : Int) := by
          rw [him]
          exact left_or (hv8 n (by omega))
        rcases h8 with h8 | h8
        · left
          refine ⟨hlen, h8.trans h.gw.log, fun q hq => ?_⟩
          rw [him, left_no 0 (by omega) (fun i _ hi hp => by rcases hk hp with hx | hx | hx | hx | hx <;> omega)]
          rfl
        · right; left
          exact ⟨hlen, by rw [← hK]; exact h8, hsum, by rw [← hK]; exact hlog, hout⟩
      · right; left
        refine ⟨hlen, ?_, hsum, by rw [← hK]; exact hlog, hout⟩
        rw [← hK, him]
        have hlast2 : 2 * K + 3 ≤ lastF l n := last_ge (by have := hs.f2; rw [← hK] at this; rw [this]) n (by omega)
        exact left_yes (hv8 n c2) (2 * K + 2) (by omega) ⟨by rw [hnum], by rw [hnum]; rfl⟩ (.inl (by omega)) (by omega)
    · have hlast3 : 3 * K + 4 ≤ lastF l n := last_ge (by have := hs.f3; rw [← hK] at this; rw [this]) n (by omega)
      have hnew : ∀ q, q < 8 ∨ 106 ≤ q → wd im q = wd (nextS now) q := fun q hq => by
        by_cases hql : q < ws.length
        · by_cases hne : wd (nextS now) q = wd ws q
          · rcases hout q hq with e | e
            · rw [e, hne]
            · exact e
          · obtain ⟨j, hj, ej⟩ := hd q hql hne
            have hsj := hs.put j hj
            rw [show 2 * (recsOf ws (nextS now)).length + 4 + j = 2 * K + 4 + j by omega] at hsj
            rw [him]
            refine left_yes (fun i hi hp => ?_) (2 * K + 4 + j) (by omega) ⟨by rw [hsj], by rw [hsj]; exact ej⟩ (.inl (by omega)) hql
            rcases hk hp with hx | hx | hx | hx | hx
            · omega
            · omega
            · omega
            · omega
            · exact hx.2.2.2
        · rw [wd_out (by omega), wd_out (by omega)]
      have h8 : wd im 8 = (K : Int) ∨ wd im 8 = 0 := by
        have hz := hs.zero
        rw [← hK] at hz
        have hb : wd (leftW ws l (lastF l n) P (3 * K + 5)) 8 = (K : Int) := left_yes (hv8 _ (Nat.le_refl _)) (2 * K + 2) (by omega) ⟨by rw [hnum], by rw [hnum]; rfl⟩ (.inl (by omega)) (by omega)
        have hb2 : wd (leftW ws l (lastF l n) P (3 * K + 6)) 8 = (K : Int) ∨ wd (leftW ws l (lastF l n) P (3 * K + 6)) 8 = 0 := by
          rcases left_step (ws := ws) (l := l) (last := lastF l n) (P := P) (q := 8) (3 * K + 5) with e | ⟨_, e⟩
          · exact .inl (e.trans hb)
          · exact .inr (e.trans (by rw [hz]))
        rw [him, left_no (3 * K + 6) (by omega) (fun i _ hi hp => by rcases hk hp with hx | hx | hx | hx | hx <;> omega)]
        exact hb2
      rcases h8 with h8 | h8
      · right; left
        exact ⟨hlen, by rw [← hK]; exact h8, hsum, by rw [← hK]; exact hlog, hout⟩
      · right; right
        exact ⟨hlen.trans hlr.symm, h8, hnew⟩
end Go.Proofs.YtbagcjlimdilpabGreat

