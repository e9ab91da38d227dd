/- What the document's Repair makes of some words, as mathematics. -/
import Derived.Test.YtekdicppkeldoaaGreatSpecL
namespace Go.Proofs.YtekdicppkeldoaaGreat

/-- cur is w2 with 0 at the places of Z -/
structure Zeroed (w2 cur : List Int) (Z : Nat → Prop) : Prop where
  len : cur.length = w2.length
  yes : ∀ q, Z q → wd cur q = 0
  no : ∀ q, ¬ Z q → wd cur q = wd w2 q
theorem wd_set {ws : List Int} {q x : Nat} {v : Int} (hq : q < ws.length) : wd (ws.set q v) x = if x = q then v else wd ws x := by
  unfold wd
  rw [List.getD_eq_getElem?_getD, List.getD_eq_getElem?_getD]
  by_cases h : x = q
  · subst h; rw [if_pos rfl]; simp [hq]
  · rw [if_neg h, List.getElem?_set_ne (by omega)]
theorem wd_ext {a b : List Int} (hl : a.length = b.length) (h : ∀ q, wd a q = wd b q) : a = b := by
  apply List.ext_getElem hl
  intro i h1 h2
  have := h i
  unfold wd at this
  rw [List.getD_eq_getElem?_getD, List.getD_eq_getElem?_getD, List.getElem?_eq_getElem h1, List.getElem?_eq_getElem h2] at this
  exact this
theorem zeroed_self (w : List Int) {Z : Nat → Prop} (h : ∀ q, ¬ Z q) : Zeroed w w Z := ⟨rfl, fun q hq => absurd hq (h q), fun _ _ => rfl⟩
theorem Zeroed.congr {w2 cur : List Int} {Z Z' : Nat → Prop} (h : Zeroed w2 cur Z) (hZ : ∀ q, Z q ↔ Z' q) : Zeroed w2 cur Z' := ⟨h.len, fun q hq => h.yes q ((hZ q).2 hq), fun q hq => h.no q (fun hh => hq ((hZ q).1 hh))⟩
theorem Zeroed.set {w2 cur : List Int} {Z : Nat → Prop} (h : Zeroed w2 cur Z) {q : Nat} (hq : q < w2.length) : Zeroed w2 (cur.set q 0) (fun x => Z x ∨ x = q) := by
  have hq' : q < cur.length := by rw [h.len]; exact hq
  refine ⟨by simpa using h.len, fun x hx => ?_, fun x hx => ?_⟩
  · rw [wd_set hq']
    by_cases he : x = q
    · rw [if_pos he]
    · rw [if_neg he]; exact h.yes x (hx.resolve_right he)
  · rw [wd_set hq', if_neg (fun he => hx (.inr he))]
    exact h.no x (fun hz => hx (.inl hz))
theorem Zeroed.one {w2 a b : List Int} {Z : Nat → Prop} (ha : Zeroed w2 a Z) (hb : Zeroed w2 b Z) : a = b :=
  wd_ext (ha.len.trans hb.len.symm) (fun q => by
    by_cases h : Z q
    · rw [ha.yes q h, hb.yes q h]
    · rw [ha.no q h, hb.no q h])
theorem idx_zero (l : List Ob) : idx l 0 = none := idx_no (fun i hi => by omega)
/-- one pointer is looked at: it becomes 0 where it holds no object -/
theorem Zeroed.hit {w2 cur : List Int} {Z : Nat → Prop} {l : List Ob} (h : Zeroed w2 cur Z) {q : Nat} (hq : q < w2.length) (hx : idx l (wd cur q) = none) : Zeroed w2 (cur.set q 0) (fun x => Z x ∨ (x = q ∧ idx l (wd w2 q) = none)) := by
  refine (h.set hq).congr (fun x => ?_)
  by_cases hz : Z q
  · constructor
    · rintro (h1 | rfl)
      · exact .inl h1
      · exact .inl hz
    · rintro (h1 | ⟨h1, _⟩)
      · exact .inl h1
      · exact .inr h1
  · rw [h.no q hz] at hx
    constructor
    · rintro (h1 | h1)
      · exact .inl h1
      · exact .inr ⟨h1, hx⟩
    · rintro (h1 | ⟨h1, _⟩)
      · exact .inl h1
      · exact .inr h1
theorem Zeroed.miss {w2 cur : List Int} {Z : Nat → Prop} {l : List Ob} (h : Zeroed w2 cur Z) {q k : Nat} (hx : idx l (wd cur q) = some k) : Zeroed w2 cur (fun x => Z x ∨ (x = q ∧ idx l (wd w2 q) = none)) := by
  refine h.congr (fun x => ⟨.inl, fun hh => ?_⟩)
  rcases hh with h1 | ⟨rfl, h1⟩
  · exact h1
  · by_cases hz : Z x
    · exact hz
    · rw [h.no x hz, h1] at hx; cases hx

/-- the words behind the log, the log emptied -/
def loggedS (ws : List Int) : List Int := (if (asksS ws).2 then doneS ws (asksS ws).1 else ws).set 8 0
theorem loggedS_len (ws : List Int) : (loggedS ws).length = ws.length := by
  unfold loggedS
  rw [List.length_set]
  split
  · exact doneS_len _ _
  · rfl
/-- the head is one -/
def headOk (ws : List Int) : Prop := wd (loggedS ws) 0 = 20261114 ∧ wd (loggedS ws) 1 = nblk ws.length

def rootZ (w2 : List Int) (l : List Ob) (r q : Nat) : Prop := 3 ≤ q ∧ q < 3 + r ∧ idx l (wd w2 q) = none
def ptrZ1 (w2 : List Int) (l : List Ob) (o : Ob) (p q : Nat) : Prop := ∃ p', p' < p ∧ q = pl o p' ∧ idx l (wd w2 q) = none
def ptrZ (w2 : List Int) (l : List Ob) (i q : Nat) : Prop := ∃ j, ∃ hj : j < l.length, j < i ∧ Reach w2 l j ∧ ptrZ1 w2 l l[j] (l[j]).ptrs q
def leakZ1 (o : Ob) (b q : Nat) : Prop := ∃ b', b' < b ∧ q = 106 + 8 * (o.block + b')
def leakZ (w2 : List Int) (l : List Ob) (i q : Nat) : Prop := ∃ j, ∃ hj : j < l.length, j < i ∧ ¬ Reach w2 l j ∧ leakZ1 l[j] (l[j]).span q
/-- the places that become 0 -/
def fixZ (w2 : List Int) (l : List Ob) (q : Nat) : Prop := (rootZ w2 l 4 q ∨ ptrZ w2 l l.length q) ∨ leakZ w2 l l.length q

theorem rootZ_zero {w2 : List Int} {l : List Ob} (q : Nat) : ¬ rootZ w2 l 0 q := fun h => by have := h.1; have := h.2.1; omega
theorem rootZ_succ {w2 : List Int} {l : List Ob} {r : Nat} (q : Nat) : (rootZ w2 l r q ∨ (q = 3 + r ∧ idx l (wd w2 (3 + r)) = none)) ↔ rootZ w2 l (r + 1) q := by
  unfold rootZ
  constructor
  · rintro (⟨h1, h2, h3⟩ | ⟨rfl, h3⟩)
    · exact ⟨h1, by omega, h3⟩
    · exact ⟨by omega, by omega, h3⟩
  · rintro ⟨h1, h2, h3⟩
    by_cases he : q = 3 + r
    · subst he; exact .inr ⟨rfl, h3⟩
    · exact .inl ⟨h1, by omega, h3⟩
theorem ptrZ1_zero {w2 : List Int} {l : List Ob} {o : Ob} (q : Nat) : ¬ ptrZ1 w2 l o 0 q := fun ⟨_, h, _⟩ => by omega
theorem ptrZ1_succ {w2 : List Int} {l : List Ob} {o : Ob} {p : Nat} (q : Nat) : (ptrZ1 w2 l o p q ∨ (q = pl o p ∧ idx l (wd w2 (pl o p)) = none)) ↔ ptrZ1 w2 l o (p + 1) q := by
  constructor
  · rintro (⟨p', h1, h2, h3⟩ | ⟨rfl, h3⟩)
    · exact ⟨p', by omega, h2, h3⟩
    · exact ⟨p, by omega, rfl, h3⟩
  · rintro ⟨p', h1, h2, h3⟩
    by_cases he : p' = p
    · subst he; subst h2; exact .inr ⟨rfl, h3⟩
    · exact .inl ⟨p', by omega, h2, h3⟩
theorem ptrZ_zero {w2 : List Int} {l : List Ob} (q : Nat) : ¬ ptrZ w2 l 0 q := fun ⟨_, _, h, _⟩ => by omega
theorem ptrZ_yes {w2 : List Int} {l : List Ob} {i : Nat} (hi : i < l.length) (hr : Reach w2 l i) (q : Nat) : (ptrZ w2 l i q ∨ ptrZ1 w2 l l[i] (l[i]).ptrs q) ↔ ptrZ w2 l (i + 1) q := by
  constructor
  · rintro (⟨j, hj, h1, h2, h3⟩ | h)
    · exact ⟨j, hj, by omega, h2, h3⟩
    · exact ⟨i, hi, by omega, hr, h⟩
  · rintro ⟨j, hj, h1, h2, h3⟩
    by_cases he : j = i
    · subst he; exact .inr h3
    · exact .inl ⟨j, hj, by omega, h2, h3⟩
theorem ptrZ_no {w2 : List Int} {l : List Ob} {i : Nat} (hr : ¬ Reach w2 l i) (q : Nat) : ptrZ w2 l i q ↔ ptrZ w2 l (i + 1) q := by
  constructor
  · rintro ⟨j, hj, h1, h2, h3⟩
    exact ⟨j, hj, by omega, h2, h3⟩
  · rintro ⟨j, hj, h1, h2, h3⟩
    by_cases he : j = i
    · subst he; exact absurd h2 hr
    · exact ⟨j, hj, by omega, h2, h3⟩
theorem leakZ1_zero {o : Ob} (q : Nat) : ¬ leakZ1 o 0 q := fun ⟨_, h, _⟩ => by omega
theorem leakZ1_succ {o : Ob} {b : Nat} (q : Nat) : (leakZ1 o b q ∨ q = 106 + 8 * (o.block + b)) ↔ leakZ1 o (b + 1) q := by
  constructor
  · rintro (⟨b', h1, h2⟩ | h)
    · exact ⟨b', by omega, h2⟩
    · exact ⟨b, by omega, h⟩
  · rintro ⟨b', h1, h2⟩
    by_cases he : b' = b
    · subst he; exact .inr h2
    · exact .inl ⟨b', by omega, h2⟩
theorem leakZ_zero {w2 : List Int} {l : List Ob} (q : Nat) : ¬ leakZ w2 l 0 q := fun ⟨_, _, h, _⟩ => by omega
theorem leakZ_yes {w2 : List Int} {l : List Ob} {i : Nat} (hi : i < l.length) (hr : ¬ Reach w2 l i) (q : Nat) : (leakZ w2 l i q ∨ leakZ1 l[i] (l[i]).span q) ↔ leakZ w2 l (i + 1) q := by
  constructor
  · rintro (⟨j, hj, h1, h2, h3⟩ | h)
    · exact ⟨j, hj, by omega, h2, h3⟩
    · exact ⟨i, hi, by omega, hr, h⟩
  · rintro ⟨j, hj, h1, h2, h3⟩
    by_cases he : j = i
    · subst he; exact .inr h3
    · exact .inl ⟨j, hj, by omega, h2, h3⟩
theorem leakZ_no {w2 : List Int} {l : List Ob} {i : Nat} (hr : Reach w2 l i) (q : Nat) : leakZ w2 l i q ↔ leakZ w2 l (i + 1) q := by
  constructor
  · rintro ⟨j, hj, h1, h2, h3⟩
    exact ⟨j, hj, by omega, h2, h3⟩
  · rintro ⟨j, hj, h1, h2, h3⟩
    by_cases he : j = i
    · subst he; exact absurd hr h2
    · exact ⟨j, hj, by omega, h2, h3⟩

/-- what Repair makes of some words -/
def RepairIs (ws r : List Int) (e : Int) : Prop :=
  (nblk ws.length = 0 ∧ e = 2 ∧ r = []) ∨
  (nblk ws.length ≠ 0 ∧ ((¬ headOk ws ∧ e = 3 ∧ r = []) ∨
    (headOk ws ∧ e = 0 ∧ ∃ w2 w3, Zeroed (loggedS ws) w2 (fun q => q ∈ bads (loggedS ws)) ∧ Zeroed w2 w3 (fixZ w2 (objs w2)) ∧ r = w3.set 7 (sumL (w3.take 7)))))
theorem repair_one {ws r r' : List Int} {e e' : Int} (h : RepairIs ws r e) (h' : RepairIs ws r' e') : r = r' ∧ e = e' := by
  rcases h with ⟨h0, rfl, rfl⟩ | ⟨h0, h⟩
  · rcases h' with ⟨_, rfl, rfl⟩ | ⟨h1, _⟩
    · exact ⟨rfl, rfl⟩
    · exact absurd h0 h1
  · rcases h' with ⟨h1, _⟩ | ⟨_, h'⟩
    · exact absurd h1 h0
    · rcases h with ⟨hh, rfl, rfl⟩ | ⟨hh, rfl, w2, w3, z2, z3, rfl⟩
      · rcases h' with ⟨_, rfl, rfl⟩ | ⟨hh', _⟩
        · exact ⟨rfl, rfl⟩
        · exact absurd hh' hh
      · rcases h' with ⟨hh', _⟩ | ⟨_, rfl, v2, v3, y2, y3, rfl⟩
        · exact absurd hh hh'
        · obtain rfl := z2.one y2
          obtain rfl := z3.one y3
          exact ⟨rfl, rfl⟩

end Go.Proofs.YtekdicppkeldoaaGreat
