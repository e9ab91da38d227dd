/- What is reached, as mathematics: by what a set that is closed under roots and pointers holds. -/
import Derived.Test.YtekdicppkeldoaaGreatSpecC
namespace Go.Proofs.YtekdicppkeldoaaGreat

/-- which of some objects has that handle -/
def idx (l : List Ob) (h : Int) : Option Nat := l.findIdx? (fun o => decide (((o.block + 1 : Nat) : Int) = h))
/-- the same, as a number: -1: none -/
def findI (l : List Ob) (h : Int) : Int := match idx l h with
  | some i => (i : Int)
  | none => -1
theorem idx_lt {l : List Ob} {h : Int} {k : Nat} (hk : idx l h = some k) : k < l.length := by
  unfold idx at hk
  exact (List.findIdx?_eq_some_iff_getElem.1 hk).1
theorem findI_some {l : List Ob} {h : Int} {k : Nat} (hk : idx l h = some k) : findI l h = k := by unfold findI; rw [hk]
theorem findI_none {l : List Ob} {h : Int} (hk : idx l h = none) : findI l h = -1 := by unfold findI; rw [hk]
theorem idx_first {l : List Ob} {h : Int} {k : Nat} (hk : k < l.length) (he : (((l[k]).block + 1 : Nat) : Int) = h) (hno : ∀ i (hi : i < k), (((l[i]'(by omega)).block + 1 : Nat) : Int) ≠ h) : idx l h = some k := by
  unfold idx
  rw [List.findIdx?_eq_some_iff_getElem]
  exact ⟨hk, by simpa using he, fun j hj => by simpa using hno j hj⟩
theorem idx_no {l : List Ob} {h : Int} (hno : ∀ i (hi : i < l.length), (((l[i]).block + 1 : Nat) : Int) ≠ h) : idx l h = none := by
  unfold idx
  rw [List.findIdx?_eq_none_iff]
  intro o ho
  obtain ⟨i, hi, rfl⟩ := List.getElem_of_mem ho
  simpa using hno i hi

/-- the place of an object's p-th word -/
def pl (o : Ob) (p : Nat) : Nat := 106 + 8 * o.block + 1 + p

/-- S holds what the roots hold, and what is held by what it holds -/
def Closed (ws : List Int) (l : List Ob) (S : Nat → Prop) : Prop :=
  (∀ r, r < 4 → ∀ k, idx l (wd ws (3 + r)) = some k → S k) ∧ ∀ i (hi : i < l.length) p k, S i → p < (l[i]).ptrs → idx l (wd ws (pl l[i] p)) = some k → S k
/-- the i-th object is reached -/
def Reach (ws : List Int) (l : List Ob) (i : Nat) : Prop := ∀ S : Nat → Prop, Closed ws l S → S i
theorem reach_root {ws : List Int} {l : List Ob} {r k : Nat} (hr : r < 4) (hk : idx l (wd ws (3 + r)) = some k) : Reach ws l k := fun _ hS => hS.1 r hr k hk
theorem reach_step {ws : List Int} {l : List Ob} {i : Nat} (hi : i < l.length) {p k : Nat} (h : Reach ws l i) (hp : p < (l[i]).ptrs) (hk : idx l (wd ws (pl l[i] p)) = some k) : Reach ws l k :=
  fun S hS => hS.2 i hi p k (h S hS) hp hk

/-- so many are not marked -/
def unmarked (out : List Bool) : Nat := out.countP (fun b => !b)
theorem unmarked_set {out : List Bool} {k : Nat} (hk : k < out.length) (h : out[k] = false) : unmarked (out.set k true) + 1 = unmarked out := by
  unfold unmarked
  induction out generalizing k with
  | nil => simp at hk
  | cons b r ih =>
    cases k with
    | zero => simp at h; subst h; simp
    | succ k =>
      have := ih (k := k) (by simpa using hk) (by simpa using h)
      simp only [List.set_cons_succ, List.countP_cons]
      omega

/-- what a search for what is reached keeps: what is marked is reached, the roots are marked -/
structure Marks (ws : List Int) (l : List Ob) (R : Nat) (out : List Bool) : Prop where
  len : out.length = l.length
  sound : ∀ i, out[i]? = some true → Reach ws l i
  roots : ∀ r, r < R → ∀ k, idx l (wd ws (3 + r)) = some k → out[k]? = some true
/-- what the i-th object holds is marked, up to its p-th pointer -/
def Spread (ws : List Int) (l : List Ob) (out : List Bool) (i p : Nat) : Prop := ∀ (hi : i < l.length) q k, out[i]? = some true → q < (l[i]).ptrs → q < p → idx l (wd ws (pl l[i] q)) = some k → out[k]? = some true
theorem set_true {out : List Bool} {k i : Nat} (hk : k < out.length) : (out.set k true)[i]? = some true ↔ i = k ∨ out[i]? = some true := by
  by_cases h : i = k
  · subst h; simp [hk]
  · rw [List.getElem?_set_ne (by omega)]; simp [h]
theorem Marks.mark {ws : List Int} {l : List Ob} {R : Nat} {out : List Bool} (h : Marks ws l R out) {k : Nat} (hk : k < l.length) (hr : Reach ws l k) : Marks ws l R (out.set k true) :=
  ⟨by simpa using h.len, fun i hi => by
    rcases (set_true (by rw [h.len]; exact hk)).1 hi with rfl | hi
    · exact hr
    · exact h.sound i hi, fun r hr' k' hk' => (set_true (by rw [h.len]; exact hk)).2 (.inr (h.roots r hr' k' hk'))⟩
theorem Marks.next {ws : List Int} {l : List Ob} {R : Nat} {out : List Bool} (h : Marks ws l R out) (hk : ∀ k, idx l (wd ws (3 + R)) = some k → out[k]? = some true) : Marks ws l (R + 1) out :=
  ⟨h.len, h.sound, fun r hr k hk' => by
    rcases Nat.lt_or_ge r R with h' | h'
    · exact h.roots r h' k hk'
    · obtain rfl : r = R := by omega
      exact hk k hk'⟩
theorem marks_none (ws : List Int) (l : List Ob) : Marks ws l 0 (List.replicate l.length false) :=
  ⟨by simp, fun i hi => by
    rw [List.getElem?_replicate] at hi
    split at hi <;> simp at hi, fun r hr => by omega⟩
theorem spread_more {ws : List Int} {l : List Ob} {out : List Bool} {i p : Nat} (h : Spread ws l out i p) (hk : ∀ (hi : i < l.length) k, idx l (wd ws (pl l[i] p)) = some k → out[k]? = some true) : Spread ws l out i (p + 1) := by
  intro hi q k ho hq hqp hk'
  rcases Nat.lt_or_ge q p with h' | h'
  · exact h hi q k ho hq h' hk'
  · obtain rfl : q = p := by omega
    exact hk hi k hk'
theorem spread_all {ws : List Int} {l : List Ob} {out : List Bool} {i p : Nat} (h : Spread ws l out i p) (hi : i < l.length) (hp : (l[i]).ptrs ≤ p) (p' : Nat) : Spread ws l out i p' :=
  fun hi' q k ho hq _ hk => h hi' q k ho hq (by omega) hk
theorem spread_not {ws : List Int} {l : List Ob} {out : List Bool} {i : Nat} (h : out[i]? ≠ some true) (p : Nat) : Spread ws l out i p := fun _ _ _ ho _ _ _ => absurd ho h
theorem spread_zero {ws : List Int} {l : List Ob} {out : List Bool} {i : Nat} : Spread ws l out i 0 := fun _ _ _ _ _ h _ => by omega
theorem Marks.done {ws : List Int} {l : List Ob} {out : List Bool} (h : Marks ws l 4 out) (hs : ∀ i, i < l.length → ∀ p, Spread ws l out i p) (i : Nat) : out[i]? = some true ↔ Reach ws l i :=
  ⟨h.sound i, fun hr => hr (fun i => out[i]? = some true) ⟨h.roots, fun i hi p k ho hp hk => hs i hi (p + 1) hi p k ho hp (by omega) hk⟩⟩

/-- one pass of a search for what is reached: m: something was marked in it; i objects are done -/
structure Pass (ws : List Int) (l : List Ob) (U0 : Nat) (out : List Bool) (m : Bool) (i : Nat) : Prop where
  marks : Marks ws l 4 out
  yes : m = true → unmarked out + 1 ≤ U0
  no : m = false → unmarked out ≤ U0 ∧ ∀ j, j < i → ∀ p, Spread ws l out j p
theorem Pass.start {ws : List Int} {l : List Ob} {out : List Bool} (h : Marks ws l 4 out) : Pass ws l (unmarked out) out false 0 := ⟨h, (fun h => by cases h), fun _ => ⟨Nat.le_refl _, fun j hj => by omega⟩⟩
theorem Pass.mark {ws : List Int} {l : List Ob} {U0 : Nat} {out : List Bool} {m : Bool} {i : Nat} (h : Pass ws l U0 out m i) {k : Nat} (hk : k < l.length) (hr : Reach ws l k) (hf : out[k]? = some false) : Pass ws l U0 (out.set k true) true i := by
  have hk' : k < out.length := by rw [h.marks.len]; exact hk
  have hu := unmarked_set hk' (by rw [List.getElem?_eq_getElem hk'] at hf; exact Option.some.inj hf)
  refine ⟨h.marks.mark hk hr, fun _ => ?_, fun h => by cases h⟩
  cases m with
  | true => have := h.yes rfl; omega
  | false => have := (h.no rfl).1; omega
theorem Pass.next {ws : List Int} {l : List Ob} {U0 : Nat} {out : List Bool} {m : Bool} {i : Nat} (h : Pass ws l U0 out m i) (hs : m = false → ∀ p, Spread ws l out i p) : Pass ws l U0 out m (i + 1) :=
  ⟨h.marks, h.yes, fun hm => ⟨(h.no hm).1, fun j hj => by
    rcases Nat.lt_or_ge j i with h' | h'
    · exact (h.no hm).2 j h'
    · obtain rfl : j = i := by omega
      exact hs hm⟩⟩

end Go.Proofs.YtekdicppkeldoaaGreat
