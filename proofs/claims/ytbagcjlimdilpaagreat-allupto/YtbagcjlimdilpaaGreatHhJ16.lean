/- Texts that follow one another, joined. -/
import Derived.Test.YtbagcjlimdilpaaGreatHhJ15
import Derived.Test.YtbagcjlimdilpaaGreatHhJ10
/- Mathematics of a stop: what is left of words and stores, and how it opens. -/
namespace Go.Proofs.YtbagcjlimdilpaaGreat

/-- outside the log the words of b; the log empty -/
structure Out (a b : List Int) : Prop where
  len : a.length = b.length
  log : wd a 8 = 0
  out : ∀ q, q < 8 ∨ 106 ≤ q → wd a q = wd b q
/-- the i-th store -/
def stq (l : List St) (i : Nat) : St := l.getD i ⟨0, 0, 0⟩
/-- the last flush among the first i -/
def lastF (l : List St) : Nat → Nat
  | 0 => 0
  | i + 1 => if (stq l i).k = 2 then i else lastF l i
/-- is the i-th store there, if it is a put at q? -/
def PutAt (l : List St) (i q : Nat) : Prop := (stq l i).k = 1 ∧ (stq l i).at' = (q : Int)
/-- what is left: the first n stores, those ahead of 'last' and those that P says -/
def leftW (ws : List Int) (l : List St) (last : Nat) (P : Nat → Bool) : Nat → List Int
  | 0 => ws
  | i + 1 => if (stq l i).k = 1 ∧ 0 ≤ (stq l i).at' ∧ (stq l i).at' < (ws.length : Int) ∧ (i < last ∨ P i = true) then (leftW ws l last P i).set (stq l i).at'.toNat (stq l i).v else leftW ws l last P i
theorem leftW_len (ws : List Int) (l : List St) (last : Nat) (P : Nat → Bool) : ∀ n, (leftW ws l last P n).length = ws.length
  | 0 => rfl
  | n + 1 => by
    unfold leftW
    split
    · rw [List.length_set]; exact leftW_len ws l last P n
    · exact leftW_len ws l last P n
section
variable {ws : List Int} {l : List St} {last : Nat} {P : Nat → Bool} {q : Nat} {v : Int}
end
/-- the stores of a Commit, one by one -/
structure Sts (l : List St) (rs : List (Int × Int)) : Prop where
  len : l.length = 3 * rs.length + 7
  log : ∀ i, i < 2 * rs.length → stq l i = ⟨1, ((10 + i : Nat) : Int), wd (flatR rs) i⟩
  sum : stq l (2 * rs.length) = ⟨1, 9, enterSum rs⟩
  f1 : stq l (2 * rs.length + 1) = ⟨2, 0, 0⟩
  num : stq l (2 * rs.length + 2) = ⟨1, 8, (rs.length : Int)⟩
  f2 : stq l (2 * rs.length + 3) = ⟨2, 0, 0⟩
  put : ∀ j (hj : j < rs.length), stq l (2 * rs.length + 4 + j) = ⟨1, (rs[j]).1, (rs[j]).2⟩
  f3 : stq l (3 * rs.length + 4) = ⟨2, 0, 0⟩
  zero : stq l (3 * rs.length + 5) = ⟨1, 8, 0⟩
  f4 : stq l (3 * rs.length + 6) = ⟨2, 0, 0⟩
/-- a log that asks for the records rs; outside it old or new words -/
structure Asking (ws nx : List Int) (rs : List (Int × Int)) (im : List Int) : Prop where
  len : im.length = ws.length
  num : wd im 8 = (rs.length : Int)
  sum : wd im 9 = enterSum rs
  log : ∀ i, i < 2 * rs.length → wd im (10 + i) = wd (flatR rs) i
  out : ∀ q, q < 8 ∨ 106 ≤ q → wd im q = wd ws q ∨ wd im q = wd nx q
/-- what a stop leaves: the old words, or the new ones, or a log that asks for them -/
def Stop (ws nx : List Int) (im : List Int) : Prop := Out im ws ∨ Asking ws nx (recsOf ws nx) im ∨ Out im nx

end Go.Proofs.YtbagcjlimdilpaaGreat
/- Mathematics of a stop: what is left opens as what was, or as what is; and so once more. -/
namespace Go.Proofs.YtbagcjlimdilpaaGreat

theorem flatR_at : ∀ (rs : List (Int × Int)) (i : Nat) (hi : i < rs.length), wd (flatR rs) (2 * i) = (rs[i]).1 ∧ wd (flatR rs) (2 * i + 1) = (rs[i]).2
  | [], i, hi => by simp at hi
  | r :: rs, 0, _ => by simp [flatR, wd]
  | r :: rs, i + 1, hi => by
    have := flatR_at rs i (by simpa using hi)
    have e : flatR (r :: rs) = r.1 :: r.2 :: flatR rs := rfl
    rw [e]
    simpa [wd, show 2 * (i + 1) = 2 * i + 1 + 1 by omega] using this
/-- how a stop opens -/
structure Opens (im a : List Int) : Prop where
  ok : OpenOk im
  open' : openW im = a
  hw : HW a a
  logged : loggedS im = a
end Go.Proofs.YtbagcjlimdilpaaGreat
/- Mathematics: the document's Commit and the program's are one; words that Open takes are good; where stores lie. -/
namespace Go.Proofs.YtbagcjlimdilpaaGreat
open Go.RowKit Go.Maps

theorem told_part : ∀ {A E : List (Prop × Int × Int)} {c p : Int}, Told (A ++ E) c p → (∀ y ∈ A, y.2.1 ≠ c) → Clear A ∧ Told E c p
  | [], _, _, _, h, _ => ⟨clear_nil, h⟩
  | x :: A, E, c, p, h, hA => by
    rcases h with ⟨_, h0, _⟩ | ⟨hx, h⟩
    · exact absurd h0.symm (hA x (by simp))
    · obtain ⟨h1, h2⟩ := told_part h (fun y hy => hA y (by simp [hy]))
      refine ⟨fun y hy => ?_, h2⟩
      rcases List.mem_cons.1 hy with rfl | hy
      · exact hx
      · exact h1 y hy
/-- what Check lets by, but for what is not reached, is good -/
theorem check_is_good {ws : List Int} {c p : Int} (h : CheckIs ws c p) (hc : c = 0 ∨ c = 8) : Good ws ∧ wd ws 7 = sumL (ws.take 7) := by
  unfold CheckIs checkT at h
  obtain ⟨hh, h⟩ := told_part h (fun y hy => by
    simp only [headT, List.mem_cons, List.not_mem_nil, or_false] at hy
    rcases hy with rfl | rfl | rfl | rfl | rfl <;> simp <;> omega)
  obtain ⟨hb, h⟩ := told_part h (fun y hy => by obtain ⟨_, _, rfl⟩ := List.mem_map.1 hy; simp; omega)
  obtain ⟨hr, h⟩ := told_part h (fun y hy => by obtain ⟨_, _, rfl⟩ := List.mem_map.1 hy; simp [rootT]; omega)
  obtain ⟨hp, h⟩ := told_part h (fun y hy => by
    obtain ⟨_, _, hy⟩ := List.mem_flatMap.1 hy
    obtain ⟨_, _, rfl⟩ := List.mem_map.1 hy
    simp [ptrT]; omega)
  refine ⟨⟨hh (nblk ws.length = 0, 2, 0) (by simp [headT]), ?_, ?_, ?_, ?_, fun r hr' => ?_, fun o ho p hp' => ?_⟩, ?_⟩
  · rcases hbd : bads ws with _ | ⟨q, t⟩
    · rfl
    · exact absurd trivial (hb (True, 5, q) (by simp [badT, hbd]))
  · have := hh (wd ws 0 ≠ 20261114, 3, 0) (by simp [headT]); simpa using this
  · have := hh (wd ws 1 ≠ nblk ws.length, 3, 1) (by simp [headT]); simpa using this
  · have := hh (wd ws 8 ≠ 0, 4, 8) (by simp [headT]); simpa using this
  · have := hr (rootT ws (objs ws) r) (List.mem_map.2 ⟨r, by simpa using hr', rfl⟩)
    unfold rootT at this
    by_cases h0 : wd ws (3 + r) = 0
    · exact .inl h0
    · exact .inr (idx_hnd.1 (fun hx => this ⟨h0, hx⟩))
  · have := hp (ptrT ws (objs ws) o p) (List.mem_flatMap.2 ⟨o, ho, List.mem_map.2 ⟨p, by simpa using hp', rfl⟩⟩)
    unfold ptrT at this
    by_cases h0 : wd ws (pl o p) = 0
    · exact .inl h0
    · exact .inr (idx_hnd.1 (fun hx => this ⟨h0, hx⟩))
  · have := hh (wd ws 7 ≠ sumL (ws.take 7), 3, 7) (by simp [headT]); simpa using this
/-- a heap that was opened -/
theorem open_hw {ws : List Int} (h : OpenOk ws) : HW (openW ws) (openW ws) := by
  obtain ⟨_, _, c, p, hc, h0⟩ := h
  obtain ⟨g, hs⟩ := check_is_good hc h0
  exact ⟨g, g, hs, rfl, fun _ _ _ => rfl⟩

theorem range_getD (l : List Nat) : (List.range l.length).map (fun j => l.getD j 0) = l := by
  refine List.ext_getElem (by simp) (fun i h1 h2 => ?_)
  simp [List.getD, h2]
theorem diff_same {ws now : List Int} (h : HW ws now) : diffS ws (nextS now) ws.length = difP ws (nextS now) := by
  unfold diffS difP
  refine List.filter_congr (fun q hq => ?_)
  have hL : 114 ≤ now.length := by have := h.gn.len; omega
  unfold diffAt
  by_cases hr : q < 8 ∨ 106 ≤ q
  · have : (decide (q < 8) || decide (106 ≤ q)) = true := by simpa using hr
    rw [this, Bool.and_true]
    by_cases he : wd (nextS now) q = wd ws q <;> simp [he]
  · have : wd (nextS now) q = wd ws q := by
      rw [nextS_wd hL, if_neg (by omega), if_neg (by omega)]
      exact h.same q (by omega) (by omega)
    simp [this]
theorem recSt_puts {ws nx : List Int} : ∀ i, i ≤ (difP ws nx).length → recSt nx (difP ws nx) i = putsSt (logPs (flatR (recsOf ws nx)) (2 * i)) ∧ ∀ a, recW a nx (difP ws nx) i = putsW a (logPs (flatR (recsOf ws nx)) (2 * i))
  | 0, _ => ⟨rfl, fun _ => rfl⟩
  | i + 1, hi => by
    obtain ⟨h1, h2⟩ := recSt_puts (ws := ws) (nx := nx) i (by omega)
    have hir : i < (recsOf ws nx).length := by rw [recs_len]; omega
    obtain ⟨e1, e2⟩ := flatR_at (recsOf ws nx) i hir
    have g1 : ((recsOf ws nx)[i]).1 = (((difP ws nx).getD i 0 : Nat) : Int) := by
      simp only [recsOf, List.getElem_map, List.getD]
      rw [List.getElem?_eq_getElem (by omega)]
      rfl
    have g2 : ((recsOf ws nx)[i]).2 = wd nx ((difP ws nx).getD i 0) := by
      simp only [recsOf, List.getElem_map, List.getD]
      rw [List.getElem?_eq_getElem (by omega)]
      rfl
    rw [g1] at e1
    rw [g2] at e2
    rw [show 2 * (i + 1) = 2 * i + 1 + 1 by omega, logPs_succ, logPs_succ]
    refine ⟨?_, fun a => ?_⟩
    · rw [recSt_succ, h1, putsSt_snoc, putsSt_snoc, e1, e2]
      rw [show 11 + 2 * i = 10 + (2 * i + 1) by omega]
    · rw [putsW_snoc, putsW_snoc, ← h2 a, recW, e1, e2]
      simp only [Int.toNat_natCast]
      rw [show 11 + 2 * i = 10 + (2 * i + 1) by omega]
theorem laySt_puts {ws nx : List Int} : laySt nx (difP ws nx) (difP ws nx).length = putsSt (recsOf ws nx) := by
  unfold laySt putsSt recsOf
  rw [List.map_map]
  conv => rhs; rw [← range_getD (difP ws nx), List.map_map]
  rfl
theorem layW_puts {ws nx : List Int} (a : List Int) : ∀ i, i ≤ (difP ws nx).length → layW a nx (difP ws nx) i = putsW a ((recsOf ws nx).take i)
  | 0, _ => by simp [layW, putsW]
  | i + 1, hi => by
    rw [recs_take (by omega), putsW_snoc, ← layW_puts (ws := ws) (nx := nx) a i (by omega), layW]
    simp only [List.getD]
    rw [List.getElem?_eq_getElem (by omega)]
    simp
theorem recSum_enter {ws nx : List Int} : recSum nx (difP ws nx) = enterSum (recsOf ws nx) := by
  unfold recSum enterSum flatR
  rw [recs_len]
  congr 2
  unfold recsOf
  rw [List.flatMap_map]
  conv => rhs; rw [← range_getD (difP ws nx), List.flatMap_map]
/-- both make the same of it -/
theorem commit_same {ws now : List Int} (h : HW ws now) : commitW ws now = pcommitW ws now ∧ commitSt ws now = pcommitSt ws now := by
  have hl : (nextS now).length = ws.length := by rw [nextS_len, h.len]
  unfold commitW commitSt pcommitW pcommitSt
  simp only [hl, diff_same h]
  obtain ⟨h1, h2⟩ := recSt_puts (ws := ws) (nx := nextS now) _ (Nat.le_refl _)
  rw [h1, h2, laySt_puts, recSum_enter, layW_puts _ _ (Nat.le_refl _)]
  unfold carryW enterW enterSt carrySt
  rw [recs_len, ← recs_len ws (nextS now), List.take_length, recs_len]
  exact ⟨rfl, by simp⟩
theorem diff_len {ws now : List Int} (h : HW ws now) : (diffS ws (nextS now) ws.length).length = (recsOf ws (nextS now)).length := by rw [diff_same h, recs_len]

/-- a store lies in the words, and holds a word -/
def InW (L : Nat) (s : St) : Prop := (s.k = 1 → 0 ≤ s.at' ∧ s.at' < (L : Int)) ∧ U s.v
theorem inW_puts {L : Nat} {rs : List (Int × Int)} (h : ∀ r ∈ rs, 0 ≤ r.1 ∧ r.1 < (L : Int) ∧ U r.2) : ∀ s ∈ putsSt rs, InW L s := fun s hs => by
  simp only [putsSt, List.mem_map] at hs
  obtain ⟨r, hr, rfl⟩ := hs
  obtain ⟨h1, h2, h3⟩ := h r hr
  exact ⟨fun _ => ⟨h1, h2⟩, h3⟩
theorem commit_inW {ws now : List Int} (h : HW ws now) (hn : ∀ z ∈ now, U z) (h48 : (recsOf ws (nextS now)).length ≤ 48) : ∀ s ∈ pcommitSt ws now, InW ws.length s := by
  have hL : 114 ≤ ws.length ∧ ws.length ≤ 362 := by have := h.gw.len; omega
  have hr : ∀ r ∈ recsOf ws (nextS now), 0 ≤ r.1 ∧ r.1 < (ws.length : Int) ∧ U r.2 := fun r hr => by
    have h1 := recs_in r hr
    simp only [recsOf, List.mem_map] at hr
    obtain ⟨q, hq, rfl⟩ := hr
    exact ⟨h1.1, h1.2, wd_U (nextS_U hn) q⟩
  have hu : ∀ r ∈ recsOf ws (nextS now), U r.1 ∧ U r.2 := fun r hr' => ⟨by have := hr r hr'; unfold U; omega, (hr r hr').2.2⟩
  have hf : ∀ s, s ∈ [(⟨2, 0, 0⟩ : St)] → InW ws.length s := fun s hs => by
    obtain rfl : s = ⟨2, 0, 0⟩ := by simpa using hs
    exact ⟨fun h => absurd h (by decide), by unfold U; simp only; omega⟩
  intro s hs
  unfold pcommitSt enterSt carrySt at hs
  simp only [List.mem_append, List.mem_cons, List.not_mem_nil, or_false] at hs
  rcases hs with (hs | rfl | rfl | rfl | rfl) | hs | rfl | rfl | rfl
  · refine inW_puts (fun r h' => ?_) s hs
    simp only [logPs, List.mem_map, List.mem_range] at h'
    obtain ⟨j, hj, rfl⟩ := h'
    exact ⟨by simp only; omega, by simp only; omega, wd_U (flatR_U hu) j⟩
  · exact ⟨fun _ => ⟨by simp only; omega, by simp only; omega⟩, sumL_U _⟩
  · exact hf _ (by simp)
  · exact ⟨fun _ => ⟨by simp only; omega, by simp only; omega⟩, by unfold U; simp only; omega⟩
  · exact hf _ (by simp)
  · exact inW_puts hr s hs
  · exact hf _ (by simp)
  · exact ⟨fun _ => ⟨by simp only; omega, by simp only; omega⟩, by unfold U; simp only; omega⟩
  · exact hf _ (by simp)
theorem commit_stlen {ws now : List Int} (h48 : (recsOf ws (nextS now)).length ≤ 48) : (pcommitSt ws now).length ≤ 151 := by
  simp only [pcommitSt, enterSt, carrySt, putsSt, List.length_append, List.length_map, logPs_len, List.length_cons, List.length_nil]
  omega
theorem open_inW {ws : List Int} (h : OpenOk ws) (hw : ∀ z ∈ ws, U z) : (∀ s ∈ openSt ws, InW ws.length s) ∧ (openSt ws).length ≤ 51 ∧ (openW ws).length = ws.length := by
  have hL : 114 ≤ ws.length ∧ ws.length ≤ 362 := by have := nblk_some h.1; omega
  unfold openSt openW
  by_cases h0 : (asksS ws).1 = 0
  · rw [if_pos h0, if_pos h0]
    exact ⟨fun s hs => (by cases hs), by simp, rfl⟩
  · rw [if_neg h0, if_neg h0]
    have hk : (asksS ws).1 ≤ 48 := by
      unfold asksS
      split
      · simp
      · split
        · simp
        · split
          · simp only
            have : wd ws 8 ≤ 48 := by omega
            omega
          · simp
    refine ⟨fun s hs => ?_, by simp [putsS_len]; omega, by rw [List.length_set, doneS_len]⟩
    have hf : InW ws.length ⟨2, 0, 0⟩ := ⟨fun h => absurd h (by decide), by unfold U; simp only; omega⟩
    simp only [List.mem_append, List.mem_cons, List.not_mem_nil, or_false] at hs
    rcases hs with ((hs | rfl) | rfl) | rfl
    · simp only [putsS, List.mem_map, List.mem_range] at hs
      obtain ⟨i, hi, rfl⟩ := hs
      have h1 := (okAt_iff.1 (asks_ok (ws := ws) (i := i) hi)).1
      have h2 := wd_U hw (10 + 2 * i)
      exact ⟨fun _ => ⟨h2.1, h1⟩, wd_U hw _⟩
    · exact hf
    · exact ⟨fun _ => ⟨by simp only; omega, by simp only; omega⟩, by unfold U; simp only; omega⟩
    · exact hf
/-- the words that a crash leaves hold words -/
theorem leftW_U {ws : List Int} {l : List St} {last : Nat} {P : Nat → Bool} (hw : ∀ z ∈ ws, U z) (hs : ∀ s ∈ l, U s.v) : ∀ n, n ≤ l.length → ∀ z ∈ leftW ws l last P n, U z
  | 0, _ => hw
  | n + 1, hn => by
    have ih := leftW_U (last := last) (P := P) hw hs n (by omega)
    unfold leftW
    split
    · refine set_U ih ?_
      unfold stq
      simp only [List.getD]
      rw [List.getElem?_eq_getElem (by omega)]
      exact hs _ (List.getElem_mem _)
    · exact ih
end Go.Proofs.YtbagcjlimdilpaaGreat
