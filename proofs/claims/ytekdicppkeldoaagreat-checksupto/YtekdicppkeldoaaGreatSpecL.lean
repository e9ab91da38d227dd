/- What a log asks for, as mathematics. -/
import Derived.Test.YtekdicppkeldoaaGreatSpecO
namespace Go.Proofs.YtekdicppkeldoaaGreat

/-- a place that a record may name -/
def okAt (len : Nat) (p : Int) : Bool := decide (p < len) && !(decide (8 ≤ p) && decide (p < 106))
/-- the words over which a log's sum goes -/
def logWords (ws : List Int) (n : Nat) : List Int := wd ws 8 :: (List.range n).flatMap (fun i => [wd ws (10 + 2 * i), wd ws (11 + 2 * i)])
theorem logWords_zero (ws : List Int) : logWords ws 0 = [wd ws 8] := rfl
theorem logWords_succ (ws : List Int) (n : Nat) : logWords ws (n + 1) = logWords ws n ++ [wd ws (10 + 2 * n), wd ws (11 + 2 * n)] := by simp [logWords, List.range_succ]
theorem logWords_len (ws : List Int) (n : Nat) : (logWords ws n).length = 1 + 2 * n := by
  induction n with
  | zero => rfl
  | succ n ih => rw [logWords_succ, List.length_append, ih]; simp; omega
/-- how many records the log asks for, and whether it is right -/
def asksS (ws : List Int) : Nat × Bool :=
  if wd ws 8 = 0 then (0, true)
  else if 48 < wd ws 8 then (0, false)
  else if (List.range (wd ws 8).toNat).all (fun i => okAt ws.length (wd ws (10 + 2 * i))) then ((wd ws 8).toNat, sumL (logWords ws (wd ws 8).toNat) == wd ws 9)
  else (0, false)
theorem asks_none {ws : List Int} (h : wd ws 8 = 0) : asksS ws = (0, true) := by unfold asksS; rw [if_pos h]
theorem asks_many {ws : List Int} (h0 : wd ws 8 ≠ 0) (h : 48 < wd ws 8) : asksS ws = (0, false) := by unfold asksS; rw [if_neg h0, if_pos h]
theorem asks_wrong {ws : List Int} (h0 : wd ws 8 ≠ 0) (h : wd ws 8 ≤ 48) {i : Nat} (hi : i < (wd ws 8).toNat) (hx : okAt ws.length (wd ws (10 + 2 * i)) = false) : asksS ws = (0, false) := by
  unfold asksS
  rw [if_neg h0, if_neg (by omega), if_neg]
  intro hall
  rw [List.all_eq_true] at hall
  have := hall i (by simpa using hi)
  rw [hx] at this
  cases this
theorem asks_right {ws : List Int} (h0 : wd ws 8 ≠ 0) (h : wd ws 8 ≤ 48) (hx : ∀ i, i < (wd ws 8).toNat → okAt ws.length (wd ws (10 + 2 * i)) = true) : asksS ws = ((wd ws 8).toNat, sumL (logWords ws (wd ws 8).toNat) == wd ws 9) := by
  unfold asksS
  rw [if_neg h0, if_neg (by omega), if_pos]
  rw [List.all_eq_true]
  intro i hi
  exact hx i (by simpa using hi)
theorem asks_le (ws : List Int) : (asksS ws).1 ≤ 48 := by
  unfold asksS
  split
  · simp
  · split
    · simp
    · split
      · simp; omega
      · simp
theorem okAt_iff {len : Nat} {p : Int} : okAt len p = true ↔ p < len ∧ (p < 8 ∨ 106 ≤ p) := by
  unfold okAt
  simp only [Bool.and_eq_true, Bool.not_eq_true', Bool.and_eq_false_iff, decide_eq_true_eq, decide_eq_false_iff_not]
  omega
/-- what is asked for may be done -/
theorem asks_ok {ws : List Int} {i : Nat} (hi : i < (asksS ws).1) : okAt ws.length (wd ws (10 + 2 * i)) = true := by
  unfold asksS at hi
  split at hi
  · simp at hi
  · split at hi
    · simp at hi
    · split at hi
      · rename_i hall
        rw [List.all_eq_true] at hall
        exact hall i (by simpa using hi)
      · simp at hi
/-- the words, with the first k records done -/
def doneS (ws : List Int) : Nat → List Int
  | 0 => ws
  | k + 1 => (doneS ws k).set (wd ws (10 + 2 * k)).toNat (wd ws (11 + 2 * k))
theorem doneS_len (ws : List Int) (k : Nat) : (doneS ws k).length = ws.length := by
  induction k with
  | zero => rfl
  | succ k ih => simp [doneS, ih]
/-- a log that is asked is not changed by what it asks for -/
theorem doneS_log {ws : List Int} (hU : ∀ z ∈ ws, U z) {k : Nat} (hok : ∀ i, i < k → okAt ws.length (wd ws (10 + 2 * i)) = true) {q : Nat} (h8 : 8 ≤ q) (hq : q < 106) : wd (doneS ws k) q = wd ws q := by
  induction k with
  | zero => rfl
  | succ k ih =>
    have h1 := hok k (by omega)
    have hwU : U (wd ws (10 + 2 * k)) := by
      unfold wd
      by_cases hl : 10 + 2 * k < ws.length
      · rw [List.getD_eq_getElem?_getD, List.getElem?_eq_getElem hl]; exact hU _ (List.getElem_mem _)
      · rw [List.getD_eq_getElem?_getD, List.getElem?_eq_none (by omega)]; exact ⟨by decide, by decide⟩
    rw [← ih (fun i hi => hok i (by omega))]
    unfold okAt at h1
    simp only [Bool.and_eq_true, Bool.not_eq_true', Bool.and_eq_false_iff, decide_eq_true_eq, decide_eq_false_iff_not] at h1
    have hne : (wd ws (10 + 2 * k)).toNat ≠ q := by have := hwU.1; omega
    show ((doneS ws k).set _ _).getD q 0 = (doneS ws k).getD q 0
    rw [List.getD_eq_getElem?_getD, List.getD_eq_getElem?_getD, List.getElem?_set_ne hne]

end Go.Proofs.YtekdicppkeldoaaGreat
