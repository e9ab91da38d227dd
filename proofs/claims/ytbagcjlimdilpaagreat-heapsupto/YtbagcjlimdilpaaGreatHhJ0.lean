/- Texts that follow one another, joined. -/
import Derived.WalkKit
import Derived.ProofKit
/- The sum of words as a function of integers: each step is a bijection in the word and in the sum so far; so one other word makes another sum. -/
namespace Go.Proofs.YtbagcjlimdilpaaGreat
open Go.RowKit

/-- a number of 64 bits, without a sign -/
def U (n : Int) : Prop := 0 ≤ n ∧ n < 18446744073709551616

def rot (s : Int) : Int := bits .or .u64 (IntKind.u64.wrap (s * 512)) (s / 36028797018963968)
def mix (s x : Int) : Int := IntKind.u64.wrap (bits .xor .u64 (rot s) x * 11400714819323198485)
def sumL (l : List Int) : Int := l.foldl mix 0

theorem wrapU (n : Int) : U (IntKind.u64.wrap n) := by
  rw [IntKind.wrap_u64]; unfold U; omega
theorem mix_U (s x : Int) : U (mix s x) := wrapU _

theorem rot_eq {s : Int} (h : U s) : rot s = (s * 512) % 18446744073709551616 + s / 36028797018963968 := by
  obtain ⟨h0, h1⟩ := h
  unfold rot
  rw [IntKind.wrap_u64, u64_or _ _ (by omega) (by omega) (by omega) (by omega)]
  rw [nat_join 9 _ _ (by omega) (by omega)]
  omega
theorem rot_U {s : Int} (h : U s) : U (rot s) := by
  rw [rot_eq h]; obtain ⟨h0, h1⟩ := h; unfold U; omega
theorem fold_U {l : List Int} {s : Int} (hs : U s) : U (l.foldl mix s) := by
  induction l generalizing s with
  | nil => exact hs
  | cons x r ih => exact ih (mix_U s x)
theorem sumL_U (l : List Int) : U (sumL l) := fold_U ⟨by omega, by omega⟩
theorem sumL_snoc (l : List Int) (x : Int) : sumL (l ++ [x]) = mix (sumL l) x := by simp [sumL]
theorem sumL_take_succ (l : List Int) (k : Nat) (h : k < l.length) : sumL (l.take (k + 1)) = mix (sumL (l.take k)) l[k] := by
  rw [List.take_succ_eq_append_getElem h, sumL_snoc]
end Go.Proofs.YtbagcjlimdilpaaGreat
/- The document's Check, as mathematics over words: blocks, headers, objects, what is reached. No program is named here. -/
namespace Go.Proofs.YtbagcjlimdilpaaGreat

/-- the i-th word -/
def wd (ws : List Int) (i : Nat) : Int := ws.getD i 0

/-- how many blocks an image of so many words has; 0: it is none -/
def nblk (len : Nat) : Nat := if 114 ≤ len ∧ len ≤ 362 ∧ (len - 106) % 8 = 0 then (len - 106) / 8 else 0
theorem nblk_some {len : Nat} (h : nblk len ≠ 0) : len = 106 + 8 * nblk len ∧ 1 ≤ nblk len ∧ nblk len ≤ 32 := by
  unfold nblk at *
  split at h
  · rename_i hh
    rw [if_pos hh]
    omega
  · exact absurd rfl h
theorem nblk_mk (b : Nat) (h1 : 1 ≤ b) (h2 : b ≤ 32) : nblk (106 + 8 * b) = b := by
  unfold nblk
  rw [if_pos (by omega)]
  omega
theorem nblk_none {len : Nat} (h : nblk len = 0) (b : Nat) (h1 : 1 ≤ b) (h2 : b ≤ 32) : len ≠ 106 + 8 * b := by
  rintro rfl
  rw [nblk_mk b h1 h2] at h
  omega

/-- an object: its first block, its span, its pointers -/
structure Ob where
  block : Nat
  span : Nat
  ptrs : Nat

/-- a header of that span and so many pointers, at block b of an image of len words -/
def Hdr (len b : Nat) (h : Int) (s p : Nat) : Prop := h = 1000000 + 100 * (s : Int) + (p : Int) ∧ 106 + 8 * (b + s) ≤ len

def spanOf (h : Int) : Nat := ((h - 1000000) / 100).toNat
def ptrsOf (h : Int) : Nat := ((h - 1000000) % 100).toNat
def okHdr (len b : Nat) (h : Int) : Prop := 1000100 ≤ h ∧ h < 1000500 ∧ ptrsOf h < 8 * spanOf h ∧ 106 + 8 * (b + spanOf h) ≤ len
/-- the same, told -/
def okB (len b : Nat) (h : Int) : Bool := decide (1000100 ≤ h) && decide (h < 1000500) && decide (ptrsOf h < 8 * spanOf h) && decide (106 + 8 * (b + spanOf h) ≤ len)
theorem okB_iff {len b : Nat} {h : Int} : okB len b h = true ↔ okHdr len b h := by
  unfold okB okHdr
  simp only [Bool.and_eq_true, decide_eq_true_eq]
  exact ⟨fun ⟨⟨⟨a, b⟩, c⟩, d⟩ => ⟨a, b, c, d⟩, fun ⟨a, b, c, d⟩ => ⟨⟨⟨a, b⟩, c⟩, d⟩⟩
theorem hdr_ok {len b s p : Nat} {h : Int} (hh : Hdr len b h s p) (h1 : 1 ≤ s) (h4 : s ≤ 4) (hp : p < 8 * s) : okHdr len b h ∧ spanOf h = s ∧ ptrsOf h = p := by
  obtain ⟨rfl, hl⟩ := hh
  have e1 : spanOf (1000000 + 100 * (s : Int) + (p : Int)) = s := by unfold spanOf; omega
  have e2 : ptrsOf (1000000 + 100 * (s : Int) + (p : Int)) = p := by unfold ptrsOf; omega
  refine ⟨⟨by omega, by omega, ?_, ?_⟩, e1, e2⟩
  · rw [e1, e2]; exact hp
  · rw [e1]; exact hl
theorem ok_hdr {len b : Nat} {h : Int} (hh : okHdr len b h) : Hdr len b h (spanOf h) (ptrsOf h) ∧ 1 ≤ spanOf h ∧ spanOf h ≤ 4 ∧ ptrsOf h < 8 * spanOf h := by
  obtain ⟨h1, h2, h3, h4⟩ := hh
  refine ⟨⟨?_, h4⟩, ?_, ?_, h3⟩
  · unfold spanOf ptrsOf; omega
  · unfold spanOf; omega
  · unfold spanOf; omega

/-- what stands at a block: nothing; an object; a wrong header -/
def slotAt (ws : List Int) (b : Nat) : Option (Option Ob) :=
  if wd ws (106 + 8 * b) = 0 then none
  else if okB ws.length b (wd ws (106 + 8 * b)) then some (some ⟨b, spanOf (wd ws (106 + 8 * b)), ptrsOf (wd ws (106 + 8 * b))⟩)
  else some none
theorem slot_free {ws : List Int} {b : Nat} (h : wd ws (106 + 8 * b) = 0) : slotAt ws b = none := by unfold slotAt; rw [if_pos h]
theorem slot_ob {ws : List Int} {b s p : Nat} (hh : Hdr ws.length b (wd ws (106 + 8 * b)) s p) (h1 : 1 ≤ s) (h4 : s ≤ 4) (hp : p < 8 * s) : slotAt ws b = some (some ⟨b, s, p⟩) := by
  obtain ⟨h, e1, e2⟩ := hdr_ok hh h1 h4 hp
  unfold slotAt
  rw [if_neg (by have := h.1; omega), if_pos (okB_iff.2 h), e1, e2]
theorem slot_bad {ws : List Int} {b : Nat} (h0 : wd ws (106 + 8 * b) ≠ 0) (h : ∀ s p, 1 ≤ s → s ≤ 4 → p < 8 * s → ¬ Hdr ws.length b (wd ws (106 + 8 * b)) s p) : slotAt ws b = some none := by
  unfold slotAt
  rw [if_neg h0, if_neg]
  intro hk
  obtain ⟨a, b, c, d⟩ := ok_hdr (okB_iff.1 hk)
  exact h _ _ b c d a
theorem slot_obs {ws : List Int} {b : Nat} {o : Ob} (h : slotAt ws b = some (some o)) : o.block = b ∧ 1 ≤ o.span ∧ o.span ≤ 4 ∧ o.ptrs < 8 * o.span ∧ 106 + 8 * (b + o.span) ≤ ws.length := by
  unfold slotAt at h
  split at h
  · cases h
  · split at h
    · rename_i hk
      obtain ⟨a, b', c, d⟩ := ok_hdr (okB_iff.1 hk)
      cases h
      exact ⟨rfl, b', c, d, a.2⟩
    · cases h

/-- the objects and the places of wrong headers, from block b on; n: how many blocks there are; f: so many are looked at -/
def walkF (ws : List Int) (n : Nat) : Nat → Nat → List Ob × List Nat
  | 0, _ => ([], [])
  | f + 1, b =>
    if b < n then
      match slotAt ws b with
      | some (some o) => (o :: (walkF ws n f (b + o.span)).1, (walkF ws n f (b + o.span)).2)
      | some none => ((walkF ws n f (b + 1)).1, (106 + 8 * b) :: (walkF ws n f (b + 1)).2)
      | none => walkF ws n f (b + 1)
    else ([], [])
theorem walkF_end (ws : List Int) (n f b : Nat) (h : n ≤ b) : walkF ws n f b = ([], []) := by
  cases f with
  | zero => rfl
  | succ f => rw [walkF, if_neg (by omega)]
theorem walkF_more (ws : List Int) (n f b : Nat) (h : n - b ≤ f) : walkF ws n f b = walkF ws n (n - b) b := by
  induction f using Nat.strongRecOn generalizing b with
  | ind f ih =>
    by_cases hb : b < n
    · obtain ⟨f', rfl⟩ : ∃ f', f = f' + 1 := ⟨f - 1, by omega⟩
      obtain ⟨m, hm⟩ : ∃ m, n - b = m + 1 := ⟨n - b - 1, by omega⟩
      rw [hm, walkF, walkF, if_pos hb, if_pos hb]
      have key : ∀ c, b < c → walkF ws n f' c = walkF ws n m c := by
        intro c hc
        by_cases hcn : n ≤ c
        · rw [walkF_end ws n f' c hcn, walkF_end ws n m c hcn]
        · rw [ih f' (by omega) c (by omega)]
          rcases Nat.lt_or_ge m (f' + 1) with hlt | hge
          · exact (ih m (by omega) c (by omega)).symm
          · omega
      split
      · rename_i o ho
        have := (slot_obs ho).2.1
        rw [key (b + o.span) (by omega)]
      · rw [key (b + 1) (by omega)]
      · rw [key (b + 1) (by omega)]
    · rw [walkF_end ws n f b (by omega), walkF_end ws n _ b (by omega)]
def walkS (ws : List Int) (n b : Nat) : List Ob × List Nat := walkF ws n (n - b) b
def objs (ws : List Int) : List Ob := (walkS ws (nblk ws.length) 0).1
def bads (ws : List Int) : List Nat := (walkS ws (nblk ws.length) 0).2

theorem walk_step {ws : List Int} {n b : Nat} (h : b < n) : walkS ws n b = match slotAt ws b with
      | some (some o) => (o :: (walkS ws n (b + o.span)).1, (walkS ws n (b + o.span)).2)
      | some none => ((walkS ws n (b + 1)).1, (106 + 8 * b) :: (walkS ws n (b + 1)).2)
      | none => walkS ws n (b + 1) := by
  unfold walkS
  obtain ⟨m, hm⟩ : ∃ m, n - b = m + 1 := ⟨n - b - 1, by omega⟩
  rw [hm, walkF, if_pos h]
  split
  · rename_i o ho
    have := (slot_obs ho).2.1
    rw [walkF_more ws n m (b + o.span) (by omega)]
  · rw [walkF_more ws n m (b + 1) (by omega)]
  · rw [walkF_more ws n m (b + 1) (by omega)]
theorem walk_ob {ws : List Int} {n b : Nat} {o : Ob} (h : b < n) (hs : slotAt ws b = some (some o)) : walkS ws n b = (o :: (walkS ws n (b + o.span)).1, (walkS ws n (b + o.span)).2) := by
  rw [walk_step h, hs]
theorem walk_bad {ws : List Int} {n b : Nat} (h : b < n) (hs : slotAt ws b = some none) : walkS ws n b = ((walkS ws n (b + 1)).1, (106 + 8 * b) :: (walkS ws n (b + 1)).2) := by
  rw [walk_step h, hs]
theorem walk_free {ws : List Int} {n b : Nat} (h : b < n) (hs : slotAt ws b = none) : walkS ws n b = walkS ws n (b + 1) := by
  rw [walk_step h, hs]
theorem walk_end {ws : List Int} {n b : Nat} (h : ¬ b < n) : walkS ws n b = ([], []) := by
  unfold walkS; exact walkF_end ws n _ b (by omega)

end Go.Proofs.YtbagcjlimdilpaaGreat
/- What is reached, as mathematics: by what a set that is closed under roots and pointers holds. -/
namespace Go.Proofs.YtbagcjlimdilpaaGreat

/-- which of some objects has that handle -/
def idx (l : List Ob) (h : Int) : Option Nat := l.findIdx? (fun o => decide (((o.block + 1 : Nat) : Int) = h))
/-- the same, as a number: -1: none -/
def findI (l : List Ob) (h : Int) : Int := match idx l h with
  | some i => (i : Int)
  | none => -1
theorem idx_lt {l : List Ob} {h : Int} {k : Nat} (hk : idx l h = some k) : k < l.length := by
  unfold idx at hk
  exact (List.findIdx?_eq_some_iff_getElem.1 hk).1
theorem findI_some {l : List Ob} {h : Int} {k : Nat} (hk : idx l h = some k) : findI l h = k := by unfold findI; rw [hk]
theorem findI_none {l : List Ob} {h : Int} (hk : idx l h = none) : findI l h = -1 := by unfold findI; rw [hk]
theorem idx_first {l : List Ob} {h : Int} {k : Nat} (hk : k < l.length) (he : (((l[k]).block + 1 : Nat) : Int) = h) (hno : ∀ i (hi : i < k), (((l[i]'(by omega)).block + 1 : Nat) : Int) ≠ h) : idx l h = some k := by
  unfold idx
  rw [List.findIdx?_eq_some_iff_getElem]
  exact ⟨hk, by simpa using he, fun j hj => by simpa using hno j hj⟩
theorem idx_no {l : List Ob} {h : Int} (hno : ∀ i (hi : i < l.length), (((l[i]).block + 1 : Nat) : Int) ≠ h) : idx l h = none := by
  unfold idx
  rw [List.findIdx?_eq_none_iff]
  intro o ho
  obtain ⟨i, hi, rfl⟩ := List.getElem_of_mem ho
  simpa using hno i hi

/-- the place of an object's p-th word -/
def pl (o : Ob) (p : Nat) : Nat := 106 + 8 * o.block + 1 + p

/-- S holds what the roots hold, and what is held by what it holds -/
def Closed (ws : List Int) (l : List Ob) (S : Nat → Prop) : Prop :=
  (∀ r, r < 4 → ∀ k, idx l (wd ws (3 + r)) = some k → S k) ∧ ∀ i (hi : i < l.length) p k, S i → p < (l[i]).ptrs → idx l (wd ws (pl l[i] p)) = some k → S k
/-- the i-th object is reached -/
def Reach (ws : List Int) (l : List Ob) (i : Nat) : Prop := ∀ S : Nat → Prop, Closed ws l S → S i
theorem reach_root {ws : List Int} {l : List Ob} {r k : Nat} (hr : r < 4) (hk : idx l (wd ws (3 + r)) = some k) : Reach ws l k := fun _ hS => hS.1 r hr k hk
theorem reach_step {ws : List Int} {l : List Ob} {i : Nat} (hi : i < l.length) {p k : Nat} (h : Reach ws l i) (hp : p < (l[i]).ptrs) (hk : idx l (wd ws (pl l[i] p)) = some k) : Reach ws l k :=
  fun S hS => hS.2 i hi p k (h S hS) hp hk

/-- so many are not marked -/
def unmarked (out : List Bool) : Nat := out.countP (fun b => !b)
theorem unmarked_set {out : List Bool} {k : Nat} (hk : k < out.length) (h : out[k] = false) : unmarked (out.set k true) + 1 = unmarked out := by
  unfold unmarked
  induction out generalizing k with
  | nil => simp at hk
  | cons b r ih =>
    cases k with
    | zero => simp at h; subst h; simp
    | succ k =>
      have := ih (k := k) (by simpa using hk) (by simpa using h)
      simp only [List.set_cons_succ, List.countP_cons]
      omega

/-- what a search for what is reached keeps: what is marked is reached, the roots are marked -/
structure Marks (ws : List Int) (l : List Ob) (R : Nat) (out : List Bool) : Prop where
  len : out.length = l.length
  sound : ∀ i, out[i]? = some true → Reach ws l i
  roots : ∀ r, r < R → ∀ k, idx l (wd ws (3 + r)) = some k → out[k]? = some true
/-- what the i-th object holds is marked, up to its p-th pointer -/
def Spread (ws : List Int) (l : List Ob) (out : List Bool) (i p : Nat) : Prop := ∀ (hi : i < l.length) q k, out[i]? = some true → q < (l[i]).ptrs → q < p → idx l (wd ws (pl l[i] q)) = some k → out[k]? = some true
theorem set_true {out : List Bool} {k i : Nat} (hk : k < out.length) : (out.set k true)[i]? = some true ↔ i = k ∨ out[i]? = some true := by
  by_cases h : i = k
  · subst h; simp [hk]
  · rw [List.getElem?_set_ne (by omega)]; simp [h]
theorem Marks.mark {ws : List Int} {l : List Ob} {R : Nat} {out : List Bool} (h : Marks ws l R out) {k : Nat} (hk : k < l.length) (hr : Reach ws l k) : Marks ws l R (out.set k true) :=
  ⟨by simpa using h.len, fun i hi => by
    rcases (set_true (by rw [h.len]; exact hk)).1 hi with rfl | hi
    · exact hr
    · exact h.sound i hi, fun r hr' k' hk' => (set_true (by rw [h.len]; exact hk)).2 (.inr (h.roots r hr' k' hk'))⟩
theorem Marks.next {ws : List Int} {l : List Ob} {R : Nat} {out : List Bool} (h : Marks ws l R out) (hk : ∀ k, idx l (wd ws (3 + R)) = some k → out[k]? = some true) : Marks ws l (R + 1) out :=
  ⟨h.len, h.sound, fun r hr k hk' => by
    rcases Nat.lt_or_ge r R with h' | h'
    · exact h.roots r h' k hk'
    · obtain rfl : r = R := by omega
      exact hk k hk'⟩
theorem marks_none (ws : List Int) (l : List Ob) : Marks ws l 0 (List.replicate l.length false) :=
  ⟨by simp, fun i hi => by
    rw [List.getElem?_replicate] at hi
    split at hi <;> simp at hi, fun r hr => by omega⟩
theorem spread_more {ws : List Int} {l : List Ob} {out : List Bool} {i p : Nat} (h : Spread ws l out i p) (hk : ∀ (hi : i < l.length) k, idx l (wd ws (pl l[i] p)) = some k → out[k]? = some true) : Spread ws l out i (p + 1) := by
  intro hi q k ho hq hqp hk'
  rcases Nat.lt_or_ge q p with h' | h'
  · exact h hi q k ho hq h' hk'
  · obtain rfl : q = p := by omega
    exact hk hi k hk'
theorem spread_all {ws : List Int} {l : List Ob} {out : List Bool} {i p : Nat} (h : Spread ws l out i p) (hi : i < l.length) (hp : (l[i]).ptrs ≤ p) (p' : Nat) : Spread ws l out i p' :=
  fun hi' q k ho hq _ hk => h hi' q k ho hq (by omega) hk
theorem spread_not {ws : List Int} {l : List Ob} {out : List Bool} {i : Nat} (h : out[i]? ≠ some true) (p : Nat) : Spread ws l out i p := fun _ _ _ ho _ _ _ => absurd ho h
theorem spread_zero {ws : List Int} {l : List Ob} {out : List Bool} {i : Nat} : Spread ws l out i 0 := fun _ _ _ _ _ h _ => by omega
theorem Marks.done {ws : List Int} {l : List Ob} {out : List Bool} (h : Marks ws l 4 out) (hs : ∀ i, i < l.length → ∀ p, Spread ws l out i p) (i : Nat) : out[i]? = some true ↔ Reach ws l i :=
  ⟨h.sound i, fun hr => hr (fun i => out[i]? = some true) ⟨h.roots, fun i hi p k ho hp hk => hs i hi (p + 1) hi p k ho hp (by omega) hk⟩⟩

/-- one pass of a search for what is reached: m: something was marked in it; i objects are done -/
structure Pass (ws : List Int) (l : List Ob) (U0 : Nat) (out : List Bool) (m : Bool) (i : Nat) : Prop where
  marks : Marks ws l 4 out
  yes : m = true → unmarked out + 1 ≤ U0
  no : m = false → unmarked out ≤ U0 ∧ ∀ j, j < i → ∀ p, Spread ws l out j p
theorem Pass.start {ws : List Int} {l : List Ob} {out : List Bool} (h : Marks ws l 4 out) : Pass ws l (unmarked out) out false 0 := ⟨h, (fun h => by cases h), fun _ => ⟨Nat.le_refl _, fun j hj => by omega⟩⟩
theorem Pass.mark {ws : List Int} {l : List Ob} {U0 : Nat} {out : List Bool} {m : Bool} {i : Nat} (h : Pass ws l U0 out m i) {k : Nat} (hk : k < l.length) (hr : Reach ws l k) (hf : out[k]? = some false) : Pass ws l U0 (out.set k true) true i := by
  have hk' : k < out.length := by rw [h.marks.len]; exact hk
  have hu := unmarked_set hk' (by rw [List.getElem?_eq_getElem hk'] at hf; exact Option.some.inj hf)
  refine ⟨h.marks.mark hk hr, fun _ => ?_, fun h => by cases h⟩
  cases m with
  | true => have := h.yes rfl; omega
  | false => have := (h.no rfl).1; omega
theorem Pass.next {ws : List Int} {l : List Ob} {U0 : Nat} {out : List Bool} {m : Bool} {i : Nat} (h : Pass ws l U0 out m i) (hs : m = false → ∀ p, Spread ws l out i p) : Pass ws l U0 out m (i + 1) :=
  ⟨h.marks, h.yes, fun hm => ⟨(h.no hm).1, fun j hj => by
    rcases Nat.lt_or_ge j i with h' | h'
    · exact (h.no hm).2 j h'
    · obtain rfl : j = i := by omega
      exact hs hm⟩⟩

end Go.Proofs.YtbagcjlimdilpaaGreat
/- What the document's Check tells, as mathematics: the first of a row of things that may be wrong, and its place. -/
namespace Go.Proofs.YtbagcjlimdilpaaGreat

/-- the first thing that is wrong, with its place; 0, 0: nothing is -/
def Told : List (Prop × Int × Int) → Int → Int → Prop
  | [], c, p => c = 0 ∧ p = 0
  | x :: r, c, p => (x.1 ∧ c = x.2.1 ∧ p = x.2.2) ∨ (¬ x.1 ∧ Told r c p)
/-- nothing is wrong -/
def Clear (E : List (Prop × Int × Int)) : Prop := ∀ y ∈ E, ¬ y.1
theorem told_one {E : List (Prop × Int × Int)} {c p c' p' : Int} (h : Told E c p) (h' : Told E c' p') : c = c' ∧ p = p' := by
  induction E with
  | nil => obtain ⟨rfl, rfl⟩ := h; obtain ⟨rfl, rfl⟩ := h'; exact ⟨rfl, rfl⟩
  | cons x r ih =>
    rcases h with ⟨hx, rfl, rfl⟩ | ⟨hx, h⟩
    · rcases h' with ⟨_, rfl, rfl⟩ | ⟨hx', _⟩
      · exact ⟨rfl, rfl⟩
      · exact absurd hx hx'
    · rcases h' with ⟨hx', _⟩ | ⟨_, h'⟩
      · exact absurd hx' hx
      · exact ih h h'
theorem clear_nil : Clear [] := fun y hy => by cases hy
theorem clear_app {a b : List (Prop × Int × Int)} (ha : Clear a) (hb : Clear b) : Clear (a ++ b) := fun y hy => by
  rcases List.mem_append.1 hy with h | h
  · exact ha y h
  · exact hb y h
theorem clear_snoc {a : List (Prop × Int × Int)} {x : Prop × Int × Int} (ha : Clear a) (hx : ¬ x.1) : Clear (a ++ [x]) := clear_app ha (fun y hy => by
  obtain rfl : y = x := by simpa using hy
  exact hx)
theorem told_skip {a b : List (Prop × Int × Int)} {c p : Int} (ha : Clear a) (hb : Told b c p) : Told (a ++ b) c p := by
  induction a with
  | nil => exact hb
  | cons x r ih => exact .inr ⟨ha x (by simp), ih (fun y hy => ha y (by simp [hy]))⟩
theorem told_at {a b : List (Prop × Int × Int)} {x : Prop × Int × Int} (ha : Clear a) (hx : x.1) : Told (a ++ x :: b) x.2.1 x.2.2 := told_skip ha (.inl ⟨hx, rfl, rfl⟩)
theorem told_none {a : List (Prop × Int × Int)} (ha : Clear a) : Told a 0 0 := by
  have := told_skip (b := []) (c := 0) (p := 0) ha ⟨rfl, rfl⟩
  rwa [List.append_nil] at this
theorem range_at {n r : Nat} (h : r < n) : ∃ b, List.range n = List.range r ++ r :: b := by
  refine ⟨(List.range (n - (r + 1))).map (r + 1 + ·), ?_⟩
  apply List.ext_getElem?
  intro i
  by_cases hi : i < r
  · rw [List.getElem?_append_left (by simpa using hi)]
    simp [hi, Nat.lt_trans hi h]
  · rw [List.getElem?_append_right (by simpa using hi)]
    simp only [List.length_range]
    by_cases he : i = r
    · subst he; simp [h]
    · obtain ⟨j, rfl⟩ : ∃ j, i = r + 1 + j := ⟨i - (r + 1), by omega⟩
      rw [show r + 1 + j - r = j + 1 by omega, List.getElem?_cons_succ]
      by_cases hn : r + 1 + j < n
      · rw [List.getElem?_range hn, List.getElem?_map, List.getElem?_range (by omega)]
        rfl
      · rw [List.getElem?_eq_none (by simp; omega), List.getElem?_eq_none (by simp; omega)]

abbrev Row4 := List (Prop × Int × Int)
def headT (ws : List Int) : Row4 := [(nblk ws.length = 0, 2, 0), (wd ws 0 ≠ 20261114, 3, 0), (wd ws 1 ≠ nblk ws.length, 3, 1), (wd ws 7 ≠ sumL (ws.take 7), 3, 7), (wd ws 8 ≠ 0, 4, 8)]
def badT (ws : List Int) : Row4 := (bads ws).map (fun (p : Nat) => (True, (5 : Int), (p : Int)))
def rootT (ws : List Int) (l : List Ob) (r : Nat) : Prop × Int × Int := (wd ws (3 + r) ≠ 0 ∧ idx l (wd ws (3 + r)) = none, 6, ((3 + r : Nat) : Int))
def ptrT (ws : List Int) (l : List Ob) (o : Ob) (p : Nat) : Prop × Int × Int := (wd ws (pl o p) ≠ 0 ∧ idx l (wd ws (pl o p)) = none, 7, ((pl o p : Nat) : Int))
def ptrsT (ws : List Int) (l : List Ob) (o : Ob) : Row4 := (List.range o.ptrs).map (ptrT ws l o)
def leakT (ws : List Int) (l : List Ob) (i : Nat) : Prop × Int × Int := (¬ Reach ws l i, 8, ((l[i]?.elim 0 (fun o => 106 + 8 * o.block) : Nat) : Int))
/-- all that may be wrong, in its order -/
def checkT (ws : List Int) : Row4 := headT ws ++ (badT ws ++ ((List.range 4).map (rootT ws (objs ws)) ++ ((objs ws).flatMap (ptrsT ws (objs ws)) ++ (List.range (objs ws).length).map (leakT ws (objs ws)))))
/-- what Check tells of some words -/
def CheckIs (ws : List Int) (c p : Int) : Prop := Told (checkT ws) c p

theorem clear_range {f : Nat → Prop × Int × Int} {r : Nat} (h : Clear ((List.range r).map f)) (hx : ¬ (f r).1) : Clear ((List.range (r + 1)).map f) := by
  rw [List.range_succ, List.map_append]
  exact clear_snoc h hx
theorem map_at {f : Nat → Prop × Int × Int} {n r : Nat} (h : r < n) : ∃ b, (List.range n).map f = (List.range r).map f ++ f r :: b := by
  obtain ⟨b, hb⟩ := range_at h
  exact ⟨b.map f, by rw [hb]; simp⟩

theorem check_bad {ws : List Int} (hA : Clear (headT ws)) {p : Nat} {r : List Nat} (h : bads ws = p :: r) : CheckIs ws 5 p := by
  unfold CheckIs checkT
  refine told_skip hA ?_
  unfold badT
  rw [h]
  exact .inl ⟨trivial, rfl, rfl⟩
theorem clear_bad {ws : List Int} (hA : Clear (headT ws)) (h : bads ws = []) : Clear (headT ws ++ badT ws) := by
  refine clear_app hA ?_
  unfold badT
  rw [h]
  exact clear_nil
theorem check_root {ws : List Int} (hA : Clear (headT ws ++ badT ws)) {r : Nat} (hr : r < 4) (hp : Clear ((List.range r).map (rootT ws (objs ws)))) (hx : wd ws (3 + r) ≠ 0 ∧ idx (objs ws) (wd ws (3 + r)) = none) : CheckIs ws 6 ((3 + r : Nat) : Int) := by
  unfold CheckIs checkT
  obtain ⟨b, hb⟩ := map_at (f := rootT ws (objs ws)) hr
  rw [← List.append_assoc, hb]
  refine told_skip hA ?_
  rw [List.append_assoc]
  exact told_at (x := rootT ws (objs ws) r) hp hx
theorem check_ptr {ws : List Int} (hA : Clear (headT ws ++ badT ws)) (hR : Clear ((List.range 4).map (rootT ws (objs ws)))) {i : Nat} (hi : i < (objs ws).length) (hp : Clear (((objs ws).take i).flatMap (ptrsT ws (objs ws)))) {p : Nat} (hpp : p < ((objs ws)[i]).ptrs)
    (hq : Clear ((List.range p).map (ptrT ws (objs ws) (objs ws)[i]))) (hx : wd ws (pl (objs ws)[i] p) ≠ 0 ∧ idx (objs ws) (wd ws (pl (objs ws)[i] p)) = none) : CheckIs ws 7 ((pl (objs ws)[i] p : Nat) : Int) := by
  unfold CheckIs checkT
  obtain ⟨b, hb⟩ := map_at (f := ptrT ws (objs ws) (objs ws)[i]) hpp
  have e : (objs ws).flatMap (ptrsT ws (objs ws)) = ((objs ws).take i).flatMap (ptrsT ws (objs ws)) ++ (((List.range p).map (ptrT ws (objs ws) (objs ws)[i]) ++ ptrT ws (objs ws) (objs ws)[i] p :: b) ++ ((objs ws).drop (i + 1)).flatMap (ptrsT ws (objs ws))) := by
    have h0 : objs ws = (objs ws).take i ++ ((objs ws)[i] :: (objs ws).drop (i + 1)) := by simp
    conv => lhs; rw [show (objs ws).flatMap (ptrsT ws (objs ws)) = ((objs ws).take i ++ ((objs ws)[i] :: (objs ws).drop (i + 1))).flatMap (ptrsT ws (objs ws)) from congrArg (fun z => List.flatMap (ptrsT ws (objs ws)) z) h0]
    rw [List.flatMap_append, List.flatMap_cons]
    unfold ptrsT
    rw [hb]
  rw [e, ← List.append_assoc]
  refine told_skip hA (told_skip hR ?_)
  simp only [List.append_assoc, List.cons_append]
  refine told_skip hp ?_
  exact told_at (x := ptrT ws (objs ws) (objs ws)[i] p) hq hx
theorem check_leak {ws : List Int} (hA : Clear (headT ws ++ badT ws)) (hR : Clear ((List.range 4).map (rootT ws (objs ws)))) (hP : Clear ((objs ws).flatMap (ptrsT ws (objs ws)))) {i : Nat} (hi : i < (objs ws).length)
    (hp : Clear ((List.range i).map (leakT ws (objs ws)))) (hx : ¬ Reach ws (objs ws) i) : CheckIs ws 8 ((106 + 8 * ((objs ws)[i]).block : Nat) : Int) := by
  unfold CheckIs checkT
  obtain ⟨b, hb⟩ := map_at (f := leakT ws (objs ws)) hi
  rw [← List.append_assoc, hb]
  have := told_skip hA (told_skip hR (told_skip hP (told_at (b := b) (x := leakT ws (objs ws) i) hp hx)))
  have e2 : (leakT ws (objs ws) i).2.2 = ((106 + 8 * ((objs ws)[i]).block : Nat) : Int) := by
    unfold leakT
    rw [List.getElem?_eq_getElem hi]
    rfl
  rw [e2] at this
  exact this
theorem check_ok {ws : List Int} (hA : Clear (headT ws ++ badT ws)) (hR : Clear ((List.range 4).map (rootT ws (objs ws)))) (hP : Clear ((objs ws).flatMap (ptrsT ws (objs ws)))) (hL : Clear ((List.range (objs ws).length).map (leakT ws (objs ws)))) : CheckIs ws 0 0 := by
  unfold CheckIs checkT
  rw [← List.append_assoc]
  exact told_none (clear_app hA (clear_app hR (clear_app hP hL)))
theorem clear_ptrs {ws : List Int} {l m : List Ob} {i : Nat} (hi : i < m.length) (h : Clear ((m.take i).flatMap (ptrsT ws l))) (hq : Clear ((List.range (m[i]).ptrs).map (ptrT ws l m[i]))) : Clear ((m.take (i + 1)).flatMap (ptrsT ws l)) := by
  rw [List.take_succ_eq_append_getElem hi, List.flatMap_append]
  refine clear_app h ?_
  simpa [ptrsT] using hq

end Go.Proofs.YtbagcjlimdilpaaGreat
/- What is known of the objects that a walk finds. -/
namespace Go.Proofs.YtbagcjlimdilpaaGreat

theorem walkF_mem {ws : List Int} {n f b : Nat} {o : Ob} (h : o ∈ (walkF ws n f b).1) : o.block < n ∧ b ≤ o.block ∧ slotAt ws o.block = some (some o) := by
  induction f generalizing b with
  | zero => simp [walkF] at h
  | succ f ih =>
    rw [walkF] at h
    split at h
    · rename_i hb
      split at h
      · rename_i o' ho
        have hs := slot_obs ho
        rcases List.mem_cons.1 h with rfl | h
        · rw [hs.1]; exact ⟨hb, Nat.le_refl _, ho⟩
        · have := ih h; exact ⟨this.1, by omega, this.2.2⟩
      · have := ih h; exact ⟨this.1, by omega, this.2.2⟩
      · have := ih h; exact ⟨this.1, by omega, this.2.2⟩
    · simp at h
theorem walkF_len (ws : List Int) (n f b : Nat) : (walkF ws n f b).1.length ≤ f ∧ (walkF ws n f b).2.length ≤ f := by
  induction f generalizing b with
  | zero => simp [walkF]
  | succ f ih =>
    rw [walkF]
    split
    · split
      · rename_i o _; have := ih (b + o.span); simp; omega
      · have := ih (b + 1); simp; omega
      · have := ih (b + 1); omega
    · simp
theorem walkF_bad {ws : List Int} {n f b p : Nat} (h : p ∈ (walkF ws n f b).2) : ∃ b', b' < n ∧ p = 106 + 8 * b' := by
  induction f generalizing b with
  | zero => simp [walkF] at h
  | succ f ih =>
    rw [walkF] at h
    split at h
    · rename_i hb
      split at h
      · exact ih h
      · rcases List.mem_cons.1 h with rfl | h
        · exact ⟨b, hb, rfl⟩
        · exact ih h
      · exact ih h
    · simp at h
theorem bads_lt {ws : List Int} {p : Nat} (hn : nblk ws.length ≠ 0) (h : p ∈ bads ws) : 106 ≤ p ∧ p < ws.length := by
  obtain ⟨b, hb, rfl⟩ := walkF_bad h
  have := (nblk_some hn).1
  omega
theorem objs_mem {ws : List Int} {o : Ob} (h : o ∈ objs ws) : o.block < nblk ws.length ∧ slotAt ws o.block = some (some o) := by
  have := walkF_mem h
  exact ⟨this.1, this.2.2⟩
theorem objs_in {ws : List Int} {o : Ob} (h : o ∈ objs ws) : 106 + 8 * (o.block + o.span) ≤ ws.length ∧ 1 ≤ o.span ∧ o.span ≤ 4 ∧ o.ptrs < 8 * o.span ∧ o.block < nblk ws.length := by
  obtain ⟨h1, h2⟩ := objs_mem h
  have := slot_obs h2
  exact ⟨this.2.2.2.2, this.2.1, this.2.2.1, this.2.2.2.1, h1⟩
theorem nblk_le (len : Nat) : nblk len ≤ 32 := by
  by_cases h : nblk len = 0
  · omega
  · exact (nblk_some h).2.2
theorem objs_len (ws : List Int) : (objs ws).length ≤ 32 := Nat.le_trans (walkF_len ws _ _ 0).1 (by have := nblk_le ws.length; omega)
theorem bads_len (ws : List Int) : (bads ws).length ≤ 32 := Nat.le_trans (walkF_len ws _ _ 0).2 (by have := nblk_le ws.length; omega)

end Go.Proofs.YtbagcjlimdilpaaGreat
/- What a log asks for, as mathematics. -/
namespace Go.Proofs.YtbagcjlimdilpaaGreat

/-- a place that a record may name -/
def okAt (len : Nat) (p : Int) : Bool := decide (p < len) && !(decide (8 ≤ p) && decide (p < 106))
/-- the words over which a log's sum goes -/
def logWords (ws : List Int) (n : Nat) : List Int := wd ws 8 :: (List.range n).flatMap (fun i => [wd ws (10 + 2 * i), wd ws (11 + 2 * i)])
theorem logWords_zero (ws : List Int) : logWords ws 0 = [wd ws 8] := rfl
theorem logWords_succ (ws : List Int) (n : Nat) : logWords ws (n + 1) = logWords ws n ++ [wd ws (10 + 2 * n), wd ws (11 + 2 * n)] := by simp [logWords, List.range_succ]
theorem logWords_len (ws : List Int) (n : Nat) : (logWords ws n).length = 1 + 2 * n := by
  induction n with
  | zero => rfl
  | succ n ih => rw [logWords_succ, List.length_append, ih]; simp; omega
/-- how many records the log asks for, and whether it is right -/
def asksS (ws : List Int) : Nat × Bool :=
  if wd ws 8 = 0 then (0, true)
  else if 48 < wd ws 8 then (0, false)
  else if (List.range (wd ws 8).toNat).all (fun i => okAt ws.length (wd ws (10 + 2 * i))) then ((wd ws 8).toNat, sumL (logWords ws (wd ws 8).toNat) == wd ws 9)
  else (0, false)
theorem asks_none {ws : List Int} (h : wd ws 8 = 0) : asksS ws = (0, true) := by unfold asksS; rw [if_pos h]
theorem asks_many {ws : List Int} (h0 : wd ws 8 ≠ 0) (h : 48 < wd ws 8) : asksS ws = (0, false) := by unfold asksS; rw [if_neg h0, if_pos h]
theorem asks_wrong {ws : List Int} (h0 : wd ws 8 ≠ 0) (h : wd ws 8 ≤ 48) {i : Nat} (hi : i < (wd ws 8).toNat) (hx : okAt ws.length (wd ws (10 + 2 * i)) = false) : asksS ws = (0, false) := by
  unfold asksS
  rw [if_neg h0, if_neg (by omega), if_neg]
  intro hall
  rw [List.all_eq_true] at hall
  have := hall i (by simpa using hi)
  rw [hx] at this
  cases this
theorem asks_right {ws : List Int} (h0 : wd ws 8 ≠ 0) (h : wd ws 8 ≤ 48) (hx : ∀ i, i < (wd ws 8).toNat → okAt ws.length (wd ws (10 + 2 * i)) = true) : asksS ws = ((wd ws 8).toNat, sumL (logWords ws (wd ws 8).toNat) == wd ws 9) := by
  unfold asksS
  rw [if_neg h0, if_neg (by omega), if_pos]
  rw [List.all_eq_true]
  intro i hi
  exact hx i (by simpa using hi)
theorem asks_le (ws : List Int) : (asksS ws).1 ≤ 48 := by
  unfold asksS
  split
  · simp
  · split
    · simp
    · split
      · simp; omega
      · simp
theorem okAt_iff {len : Nat} {p : Int} : okAt len p = true ↔ p < len ∧ (p < 8 ∨ 106 ≤ p) := by
  unfold okAt
  simp only [Bool.and_eq_true, Bool.not_eq_true', Bool.and_eq_false_iff, decide_eq_true_eq, decide_eq_false_iff_not]
  omega
/-- what is asked for may be done -/
theorem asks_ok {ws : List Int} {i : Nat} (hi : i < (asksS ws).1) : okAt ws.length (wd ws (10 + 2 * i)) = true := by
  unfold asksS at hi
  split at hi
  · simp at hi
  · split at hi
    · simp at hi
    · split at hi
      · rename_i hall
        rw [List.all_eq_true] at hall
        exact hall i (by simpa using hi)
      · simp at hi
/-- the words, with the first k records done -/
def doneS (ws : List Int) : Nat → List Int
  | 0 => ws
  | k + 1 => (doneS ws k).set (wd ws (10 + 2 * k)).toNat (wd ws (11 + 2 * k))
theorem doneS_len (ws : List Int) (k : Nat) : (doneS ws k).length = ws.length := by
  induction k with
  | zero => rfl
  | succ k ih => simp [doneS, ih]
/-- a log that is asked is not changed by what it asks for -/
theorem doneS_log {ws : List Int} (hU : ∀ z ∈ ws, U z) {k : Nat} (hok : ∀ i, i < k → okAt ws.length (wd ws (10 + 2 * i)) = true) {q : Nat} (h8 : 8 ≤ q) (hq : q < 106) : wd (doneS ws k) q = wd ws q := by
  induction k with
  | zero => rfl
  | succ k ih =>
    have h1 := hok k (by omega)
    have hwU : U (wd ws (10 + 2 * k)) := by
      unfold wd
      by_cases hl : 10 + 2 * k < ws.length
      · rw [List.getD_eq_getElem?_getD, List.getElem?_eq_getElem hl]; exact hU _ (List.getElem_mem _)
      · rw [List.getD_eq_getElem?_getD, List.getElem?_eq_none (by omega)]; exact ⟨by decide, by decide⟩
    rw [← ih (fun i hi => hok i (by omega))]
    unfold okAt at h1
    simp only [Bool.and_eq_true, Bool.not_eq_true', Bool.and_eq_false_iff, decide_eq_true_eq, decide_eq_false_iff_not] at h1
    have hne : (wd ws (10 + 2 * k)).toNat ≠ q := by have := hwU.1; omega
    show ((doneS ws k).set _ _).getD q 0 = (doneS ws k).getD q 0
    rw [List.getD_eq_getElem?_getD, List.getD_eq_getElem?_getD, List.getElem?_set_ne hne]

end Go.Proofs.YtbagcjlimdilpaaGreat
/- What the document's Repair makes of some words, as mathematics. -/
namespace Go.Proofs.YtbagcjlimdilpaaGreat

/-- cur is w2 with 0 at the places of Z -/
structure Zeroed (w2 cur : List Int) (Z : Nat → Prop) : Prop where
  len : cur.length = w2.length
  yes : ∀ q, Z q → wd cur q = 0
  no : ∀ q, ¬ Z q → wd cur q = wd w2 q
theorem wd_set {ws : List Int} {q x : Nat} {v : Int} (hq : q < ws.length) : wd (ws.set q v) x = if x = q then v else wd ws x := by
  unfold wd
  rw [List.getD_eq_getElem?_getD, List.getD_eq_getElem?_getD]
  by_cases h : x = q
  · subst h; rw [if_pos rfl]; simp [hq]
  · rw [if_neg h, List.getElem?_set_ne (by omega)]
theorem wd_ext {a b : List Int} (hl : a.length = b.length) (h : ∀ q, wd a q = wd b q) : a = b := by
  apply List.ext_getElem hl
  intro i h1 h2
  have := h i
  unfold wd at this
  rw [List.getD_eq_getElem?_getD, List.getD_eq_getElem?_getD, List.getElem?_eq_getElem h1, List.getElem?_eq_getElem h2] at this
  exact this
theorem zeroed_self (w : List Int) {Z : Nat → Prop} (h : ∀ q, ¬ Z q) : Zeroed w w Z := ⟨rfl, fun q hq => absurd hq (h q), fun _ _ => rfl⟩
theorem Zeroed.congr {w2 cur : List Int} {Z Z' : Nat → Prop} (h : Zeroed w2 cur Z) (hZ : ∀ q, Z q ↔ Z' q) : Zeroed w2 cur Z' := ⟨h.len, fun q hq => h.yes q ((hZ q).2 hq), fun q hq => h.no q (fun hh => hq ((hZ q).1 hh))⟩
theorem Zeroed.set {w2 cur : List Int} {Z : Nat → Prop} (h : Zeroed w2 cur Z) {q : Nat} (hq : q < w2.length) : Zeroed w2 (cur.set q 0) (fun x => Z x ∨ x = q) := by
  have hq' : q < cur.length := by rw [h.len]; exact hq
  refine ⟨by simpa using h.len, fun x hx => ?_, fun x hx => ?_⟩
  · rw [wd_set hq']
    by_cases he : x = q
    · rw [if_pos he]
    · rw [if_neg he]; exact h.yes x (hx.resolve_right he)
  · rw [wd_set hq', if_neg (fun he => hx (.inr he))]
    exact h.no x (fun hz => hx (.inl hz))
theorem Zeroed.one {w2 a b : List Int} {Z : Nat → Prop} (ha : Zeroed w2 a Z) (hb : Zeroed w2 b Z) : a = b :=
  wd_ext (ha.len.trans hb.len.symm) (fun q => by
    by_cases h : Z q
    · rw [ha.yes q h, hb.yes q h]
    · rw [ha.no q h, hb.no q h])
theorem idx_zero (l : List Ob) : idx l 0 = none := idx_no (fun i hi => by omega)
/-- one pointer is looked at: it becomes 0 where it holds no object -/
theorem Zeroed.hit {w2 cur : List Int} {Z : Nat → Prop} {l : List Ob} (h : Zeroed w2 cur Z) {q : Nat} (hq : q < w2.length) (hx : idx l (wd cur q) = none) : Zeroed w2 (cur.set q 0) (fun x => Z x ∨ (x = q ∧ idx l (wd w2 q) = none)) := by
  refine (h.set hq).congr (fun x => ?_)
  by_cases hz : Z q
  · constructor
    · rintro (h1 | rfl)
      · exact .inl h1
      · exact .inl hz
    · rintro (h1 | ⟨h1, _⟩)
      · exact .inl h1
      · exact .inr h1
  · rw [h.no q hz] at hx
    constructor
    · rintro (h1 | h1)
      · exact .inl h1
      · exact .inr ⟨h1, hx⟩
    · rintro (h1 | ⟨h1, _⟩)
      · exact .inl h1
      · exact .inr h1
theorem Zeroed.miss {w2 cur : List Int} {Z : Nat → Prop} {l : List Ob} (h : Zeroed w2 cur Z) {q k : Nat} (hx : idx l (wd cur q) = some k) : Zeroed w2 cur (fun x => Z x ∨ (x = q ∧ idx l (wd w2 q) = none)) := by
  refine h.congr (fun x => ⟨.inl, fun hh => ?_⟩)
  rcases hh with h1 | ⟨rfl, h1⟩
  · exact h1
  · by_cases hz : Z x
    · exact hz
    · rw [h.no x hz, h1] at hx; cases hx

/-- the words behind the log, the log emptied -/
def loggedS (ws : List Int) : List Int := (if (asksS ws).2 then doneS ws (asksS ws).1 else ws).set 8 0
theorem loggedS_len (ws : List Int) : (loggedS ws).length = ws.length := by
  unfold loggedS
  rw [List.length_set]
  split
  · exact doneS_len _ _
  · rfl
/-- the head is one -/
def headOk (ws : List Int) : Prop := wd (loggedS ws) 0 = 20261114 ∧ wd (loggedS ws) 1 = nblk ws.length

def rootZ (w2 : List Int) (l : List Ob) (r q : Nat) : Prop := 3 ≤ q ∧ q < 3 + r ∧ idx l (wd w2 q) = none
def ptrZ1 (w2 : List Int) (l : List Ob) (o : Ob) (p q : Nat) : Prop := ∃ p', p' < p ∧ q = pl o p' ∧ idx l (wd w2 q) = none
def ptrZ (w2 : List Int) (l : List Ob) (i q : Nat) : Prop := ∃ j, ∃ hj : j < l.length, j < i ∧ Reach w2 l j ∧ ptrZ1 w2 l l[j] (l[j]).ptrs q
def leakZ1 (o : Ob) (b q : Nat) : Prop := ∃ b', b' < b ∧ q = 106 + 8 * (o.block + b')
def leakZ (w2 : List Int) (l : List Ob) (i q : Nat) : Prop := ∃ j, ∃ hj : j < l.length, j < i ∧ ¬ Reach w2 l j ∧ leakZ1 l[j] (l[j]).span q
/-- the places that become 0 -/
def fixZ (w2 : List Int) (l : List Ob) (q : Nat) : Prop := (rootZ w2 l 4 q ∨ ptrZ w2 l l.length q) ∨ leakZ w2 l l.length q

theorem rootZ_zero {w2 : List Int} {l : List Ob} (q : Nat) : ¬ rootZ w2 l 0 q := fun h => by have := h.1; have := h.2.1; omega
theorem rootZ_succ {w2 : List Int} {l : List Ob} {r : Nat} (q : Nat) : (rootZ w2 l r q ∨ (q = 3 + r ∧ idx l (wd w2 (3 + r)) = none)) ↔ rootZ w2 l (r + 1) q := by
  unfold rootZ
  constructor
  · rintro (⟨h1, h2, h3⟩ | ⟨rfl, h3⟩)
    · exact ⟨h1, by omega, h3⟩
    · exact ⟨by omega, by omega, h3⟩
  · rintro ⟨h1, h2, h3⟩
    by_cases he : q = 3 + r
    · subst he; exact .inr ⟨rfl, h3⟩
    · exact .inl ⟨h1, by omega, h3⟩
theorem ptrZ1_zero {w2 : List Int} {l : List Ob} {o : Ob} (q : Nat) : ¬ ptrZ1 w2 l o 0 q := fun ⟨_, h, _⟩ => by omega
theorem ptrZ1_succ {w2 : List Int} {l : List Ob} {o : Ob} {p : Nat} (q : Nat) : (ptrZ1 w2 l o p q ∨ (q = pl o p ∧ idx l (wd w2 (pl o p)) = none)) ↔ ptrZ1 w2 l o (p + 1) q := by
  constructor
  · rintro (⟨p', h1, h2, h3⟩ | ⟨rfl, h3⟩)
    · exact ⟨p', by omega, h2, h3⟩
    · exact ⟨p, by omega, rfl, h3⟩
  · rintro ⟨p', h1, h2, h3⟩
    by_cases he : p' = p
    · subst he; subst h2; exact .inr ⟨rfl, h3⟩
    · exact .inl ⟨p', by omega, h2, h3⟩
theorem ptrZ_zero {w2 : List Int} {l : List Ob} (q : Nat) : ¬ ptrZ w2 l 0 q := fun ⟨_, _, h, _⟩ => by omega
theorem ptrZ_yes {w2 : List Int} {l : List Ob} {i : Nat} (hi : i < l.length) (hr : Reach w2 l i) (q : Nat) : (ptrZ w2 l i q ∨ ptrZ1 w2 l l[i] (l[i]).ptrs q) ↔ ptrZ w2 l (i + 1) q := by
  constructor
  · rintro (⟨j, hj, h1, h2, h3⟩ | h)
    · exact ⟨j, hj, by omega, h2, h3⟩
    · exact ⟨i, hi, by omega, hr, h⟩
  · rintro ⟨j, hj, h1, h2, h3⟩
    by_cases he : j = i
    · subst he; exact .inr h3
    · exact .inl ⟨j, hj, by omega, h2, h3⟩
theorem ptrZ_no {w2 : List Int} {l : List Ob} {i : Nat} (hr : ¬ Reach w2 l i) (q : Nat) : ptrZ w2 l i q ↔ ptrZ w2 l (i + 1) q := by
  constructor
  · rintro ⟨j, hj, h1, h2, h3⟩
    exact ⟨j, hj, by omega, h2, h3⟩
  · rintro ⟨j, hj, h1, h2, h3⟩
    by_cases he : j = i
    · subst he; exact absurd h2 hr
    · exact ⟨j, hj, by omega, h2, h3⟩
theorem leakZ1_zero {o : Ob} (q : Nat) : ¬ leakZ1 o 0 q := fun ⟨_, h, _⟩ => by omega
theorem leakZ1_succ {o : Ob} {b : Nat} (q : Nat) : (leakZ1 o b q ∨ q = 106 + 8 * (o.block + b)) ↔ leakZ1 o (b + 1) q := by
  constructor
  · rintro (⟨b', h1, h2⟩ | h)
    · exact ⟨b', by omega, h2⟩
    · exact ⟨b, by omega, h⟩
  · rintro ⟨b', h1, h2⟩
    by_cases he : b' = b
    · subst he; exact .inr h2
    · exact .inl ⟨b', by omega, h2⟩
theorem leakZ_zero {w2 : List Int} {l : List Ob} (q : Nat) : ¬ leakZ w2 l 0 q := fun ⟨_, _, h, _⟩ => by omega
theorem leakZ_yes {w2 : List Int} {l : List Ob} {i : Nat} (hi : i < l.length) (hr : ¬ Reach w2 l i) (q : Nat) : (leakZ w2 l i q ∨ leakZ1 l[i] (l[i]).span q) ↔ leakZ w2 l (i + 1) q := by
  constructor
  · rintro (⟨j, hj, h1, h2, h3⟩ | h)
    · exact ⟨j, hj, by omega, h2, h3⟩
    · exact ⟨i, hi, by omega, hr, h⟩
  · rintro ⟨j, hj, h1, h2, h3⟩
    by_cases he : j = i
    · subst he; exact .inr h3
    · exact .inl ⟨j, hj, by omega, h2, h3⟩
theorem leakZ_no {w2 : List Int} {l : List Ob} {i : Nat} (hr : Reach w2 l i) (q : Nat) : leakZ w2 l i q ↔ leakZ w2 l (i + 1) q := by
  constructor
  · rintro ⟨j, hj, h1, h2, h3⟩
    exact ⟨j, hj, by omega, h2, h3⟩
  · rintro ⟨j, hj, h1, h2, h3⟩
    by_cases he : j = i
    · subst he; exact absurd hr h2
    · exact ⟨j, hj, by omega, h2, h3⟩

/-- what Repair makes of some words -/
def RepairIs (ws r : List Int) (e : Int) : Prop :=
  (nblk ws.length = 0 ∧ e = 2 ∧ r = []) ∨
  (nblk ws.length ≠ 0 ∧ ((¬ headOk ws ∧ e = 3 ∧ r = []) ∨
    (headOk ws ∧ e = 0 ∧ ∃ w2 w3, Zeroed (loggedS ws) w2 (fun q => q ∈ bads (loggedS ws)) ∧ Zeroed w2 w3 (fixZ w2 (objs w2)) ∧ r = w3.set 7 (sumL (w3.take 7)))))
theorem repair_one {ws r r' : List Int} {e e' : Int} (h : RepairIs ws r e) (h' : RepairIs ws r' e') : r = r' ∧ e = e' := by
  rcases h with ⟨h0, rfl, rfl⟩ | ⟨h0, h⟩
  · rcases h' with ⟨_, rfl, rfl⟩ | ⟨h1, _⟩
    · exact ⟨rfl, rfl⟩
    · exact absurd h0 h1
  · rcases h' with ⟨h1, _⟩ | ⟨_, h'⟩
    · exact absurd h1 h0
    · rcases h with ⟨hh, rfl, rfl⟩ | ⟨hh, rfl, w2, w3, z2, z3, rfl⟩
      · rcases h' with ⟨_, rfl, rfl⟩ | ⟨hh', _⟩
        · exact ⟨rfl, rfl⟩
        · exact absurd hh' hh
      · rcases h' with ⟨hh', _⟩ | ⟨_, rfl, v2, v3, y2, y3, rfl⟩
        · exact absurd hh hh'
        · obtain rfl := z2.one y2
          obtain rfl := z3.one y3
          exact ⟨rfl, rfl⟩

end Go.Proofs.YtbagcjlimdilpaaGreat
/- Mathematics of the program's Repair: objects behind the mending of wrong headers; what is reached behind the mending of roots. -/
namespace Go.Proofs.YtbagcjlimdilpaaGreat

theorem slot_same {ws w2 : List Int} {b : Nat} (hl : w2.length = ws.length) (hw : wd w2 (106 + 8 * b) = wd ws (106 + 8 * b)) : slotAt w2 b = slotAt ws b := by
  unfold slotAt
  rw [hw, hl]
theorem walkF_zero {ws w2 : List Int} {Z : Nat → Prop} (h : Zeroed ws w2 Z) (hZ : ∀ b, Z (106 + 8 * b) → slotAt ws b = some none) {n : Nat} : ∀ f b, (∀ q ∈ (walkF ws n f b).2, Z q) → (walkF w2 n f b).1 = (walkF ws n f b).1
  | 0, _, _ => rfl
  | f + 1, b, hq => by
    rw [walkF] at hq
    rw [walkF, walkF]
    by_cases hb : b < n
    · rw [if_pos hb] at hq
      rw [if_pos hb, if_pos hb]
      rcases hs : slotAt ws b with _ | _ | o
      · rw [hs] at hq
        rw [slot_same h.len (h.no _ (fun hz => by rw [hZ b hz] at hs; cases hs)), hs]
        exact walkF_zero h hZ f (b + 1) hq
      · rw [hs] at hq
        have hz : wd w2 (106 + 8 * b) = 0 := h.yes _ (hq _ (by simp))
        rw [slot_free hz]
        exact walkF_zero h hZ f (b + 1) (fun q hq' => hq q (by simp [hq']))
      · rw [hs] at hq
        rw [slot_same h.len (h.no _ (fun hz => by rw [hZ b hz] at hs; cases hs)), hs]
        simp only
        rw [walkF_zero h hZ f (b + o.span) hq]
    · rw [if_neg hb, if_neg hb]
theorem walkF_bad2 {ws : List Int} {n f b p : Nat} (h : p ∈ (walkF ws n f b).2) : ∃ b', p = 106 + 8 * b' ∧ slotAt ws b' = some none := by
  induction f generalizing b with
  | zero => simp [walkF] at h
  | succ f ih =>
    rw [walkF] at h
    split at h
    · split at h
      · exact ih h
      · rename_i hs
        rcases List.mem_cons.1 h with rfl | h
        · exact ⟨b, rfl, hs⟩
        · exact ih h
      · exact ih h
    · simp at h
/-- the objects stay, where wrong headers become 0 -/
theorem objs_zeroed {ws w2 : List Int} (h : Zeroed ws w2 (fun q => q ∈ bads ws)) : objs w2 = objs ws := by
  unfold objs walkS
  rw [h.len]
  refine walkF_zero h (fun b hb => ?_) _ _ (fun q hq => hq)
  obtain ⟨b', e, hs⟩ := walkF_bad2 hb
  obtain rfl : b = b' := by omega
  exact hs

theorem closed_roots {w2 cur : List Int} {l : List Ob} (h : Zeroed w2 cur (rootZ w2 l 4)) (S : Nat → Prop) : Closed cur l S ↔ Closed w2 l S := by
  have hroot : ∀ r, idx l (wd cur (3 + r)) = idx l (wd w2 (3 + r)) := fun r => by
    by_cases hz : rootZ w2 l 4 (3 + r)
    · rw [h.yes _ hz, idx_zero, hz.2.2]
    · rw [h.no _ hz]
  have hptr : ∀ i (hi : i < l.length) p, wd cur (pl l[i] p) = wd w2 (pl l[i] p) := fun i hi p => h.no _ (fun hz => by
    have := hz.2.1
    unfold pl at this
    omega)
  unfold Closed
  constructor
  · rintro ⟨h1, h2⟩
    exact ⟨fun r hr k hk => h1 r hr k (by rw [hroot]; exact hk), fun i hi p k hS hp hk => h2 i hi p k hS hp (by rw [hptr]; exact hk)⟩
  · rintro ⟨h1, h2⟩
    exact ⟨fun r hr k hk => h1 r hr k (by rw [← hroot]; exact hk), fun i hi p k hS hp hk => h2 i hi p k hS hp (by rw [← hptr i hi]; exact hk)⟩
theorem reach_roots {w2 cur : List Int} {l : List Ob} (h : Zeroed w2 cur (rootZ w2 l 4)) (i : Nat) : Reach cur l i ↔ Reach w2 l i :=
  ⟨fun hr S hS => hr S ((closed_roots h S).2 hS), fun hr S hS => hr S ((closed_roots h S).1 hS)⟩
end Go.Proofs.YtbagcjlimdilpaaGreat
/- Mathematics: what Repair does with a sound image: nothing. -/
namespace Go.Proofs.YtbagcjlimdilpaaGreat

/-- what it is to be sound -/
structure Sound (ws : List Int) : Prop where
  n0 : nblk ws.length ≠ 0
  magic : wd ws 0 = 20261114
  n : wd ws 1 = nblk ws.length
  sum : wd ws 7 = sumL (ws.take 7)
  log : wd ws 8 = 0
  bad : bads ws = []
  root : ∀ r, r < 4 → wd ws (3 + r) = 0 ∨ idx (objs ws) (wd ws (3 + r)) ≠ none
  ptr : ∀ i (hi : i < (objs ws).length) p, p < ((objs ws)[i]).ptrs → wd ws (pl (objs ws)[i] p) = 0 ∨ idx (objs ws) (wd ws (pl (objs ws)[i] p)) ≠ none
  reach : ∀ i, i < (objs ws).length → Reach ws (objs ws) i
end Go.Proofs.YtbagcjlimdilpaaGreat
/- Mathematics of a row of blocks without wrong headers: its objects as a tiling; where room is found. -/
namespace Go.Proofs.YtbagcjlimdilpaaGreat

/-- from block b on: the objects are l, and all else is free -/
structure TilesF (ws : List Int) (n b : Nat) (l : List Ob) : Prop where
  apart : l.Pairwise (fun o o' => o.block + o.span ≤ o'.block)
  fits : ∀ o ∈ l, b ≤ o.block ∧ 1 ≤ o.span ∧ o.span ≤ 4 ∧ o.ptrs < 8 * o.span ∧ o.block + o.span ≤ n ∧ wd ws (106 + 8 * o.block) = 1000000 + 100 * (o.span : Int) + (o.ptrs : Int)
  free : ∀ c, b ≤ c → c < n → (∀ o ∈ l, ¬ (o.block ≤ c ∧ c < o.block + o.span)) → wd ws (106 + 8 * c) = 0
theorem TilesF.slot {ws : List Int} {n b : Nat} {l : List Ob} (h : TilesF ws n b l) (hl : ws.length = 106 + 8 * n) {o : Ob} (ho : o ∈ l) : slotAt ws o.block = some (some o) := by
  obtain ⟨_, h1, h2, h3, h4, h5⟩ := h.fits o ho
  exact slot_ob ⟨h5, by omega⟩ h1 h2 h3
theorem tiles_walk {ws : List Int} {n : Nat} (hl : ws.length = 106 + 8 * n) : ∀ (f b : Nat) (l : List Ob), n - b ≤ f → TilesF ws n b l → walkS ws n b = (l, []) := by
  intro f
  induction f with
  | zero =>
    intro b l hf h
    rw [walk_end (by omega)]
    cases l with
    | nil => rfl
    | cons o l =>
      obtain ⟨h0, h1, _, _, h4, _⟩ := h.fits o (by simp)
      omega
  | succ f ih =>
    intro b l hf h
    by_cases hb : b < n
    · by_cases hc : ∃ o ∈ l, o.block ≤ b ∧ b < o.block + o.span
      · obtain ⟨o, ho, h1, h2⟩ := hc
        have hob : o.block = b := by have := (h.fits o ho).1; omega
        cases l with
        | nil => cases ho
        | cons x l =>
          have hx : o = x := by
            rcases List.mem_cons.1 ho with e | e
            · exact e
            · have := (List.pairwise_cons.1 h.apart).1 o e
              have := h.fits x (by simp)
              omega
          subst hx
          have hs := h.slot hl (o := o) (by simp)
          rw [hob] at hs
          rw [walk_ob hb hs]
          have := h.fits o (by simp)
          rw [ih (b + o.span) l (by omega) ⟨(List.pairwise_cons.1 h.apart).2, fun y hy => ⟨by have := (List.pairwise_cons.1 h.apart).1 y hy; omega, (h.fits y (List.mem_cons_of_mem _ hy)).2⟩, fun c hc1 hc2 hc3 => h.free c (by omega) hc2 (fun y hy => by
            rcases List.mem_cons.1 hy with rfl | hy
            · omega
            · exact hc3 y hy)⟩]
      · have hz := h.free b (Nat.le_refl _) hb (fun o ho hh => hc ⟨o, ho, hh⟩)
        rw [walk_free hb (slot_free hz)]
        exact ih (b + 1) l (by omega) ⟨h.apart, fun o ho => ⟨by
          have h0 := h.fits o ho
          have : ¬ (o.block ≤ b ∧ b < o.block + o.span) := fun hh => hc ⟨o, ho, hh⟩
          omega, (h.fits o ho).2⟩, fun c hc1 => h.free c (by omega)⟩
    · rw [walk_end hb]
      cases l with
      | nil => rfl
      | cons o l =>
        obtain ⟨h0, h1, _, _, h4, _⟩ := h.fits o (by simp)
        omega
theorem walk_tiles {ws : List Int} {n : Nat} (hl : ws.length = 106 + 8 * n) : ∀ (f b : Nat) (l : List Ob), n - b ≤ f → walkS ws n b = (l, []) → TilesF ws n b l := by
  intro f
  induction f with
  | zero =>
    intro b l hf h
    rw [walk_end (by omega)] at h
    cases h
    exact ⟨List.Pairwise.nil, (fun o ho => by cases ho), fun c h1 h2 => by omega⟩
  | succ f ih =>
    intro b l hf h
    by_cases hb : b < n
    · rcases hs : slotAt ws b with _ | _ | o
      · rw [walk_free hb hs] at h
        have t := ih (b + 1) l (by omega) h
        refine ⟨t.apart, fun o ho => ⟨by have := (t.fits o ho).1; omega, (t.fits o ho).2⟩, fun c h1 h2 h3 => ?_⟩
        by_cases hcb : c = b
        · subst hcb
          unfold slotAt at hs
          split at hs
          · assumption
          · split at hs <;> cases hs
        · exact t.free c (by omega) h2 h3
      · rw [walk_bad hb hs] at h
        have := congrArg Prod.snd h
        simp at this
      · obtain ⟨h1, h2, h3, h4, h5⟩ := slot_obs hs
        rw [walk_ob hb hs] at h
        cases l with
        | nil => have := congrArg Prod.fst h; simp at this
        | cons x l =>
          have e1 := congrArg Prod.fst h
          have e2 := congrArg Prod.snd h
          simp only [List.cons.injEq] at e1 e2
          obtain ⟨rfl, e1⟩ := e1
          have t := ih (b + o.span) l (by omega) (by rw [← e1, ← e2])
          have hh : wd ws (106 + 8 * o.block) = 1000000 + 100 * (o.span : Int) + (o.ptrs : Int) := by
            rw [h1]
            unfold slotAt at hs
            split at hs
            · cases hs
            · split at hs
              · next hok =>
                have hk := (ok_hdr (okB_iff.1 hok)).1.1
                cases hs
                exact hk
              · cases hs
          refine ⟨List.pairwise_cons.2 ⟨fun y hy => by have := (t.fits y hy).1; omega, t.apart⟩, fun y hy => ?_, fun c hc1 hc2 hc3 => ?_⟩
          · rcases List.mem_cons.1 hy with rfl | hy
            · exact ⟨by omega, h2, h3, h4, by omega, hh⟩
            · exact ⟨by have := (t.fits y hy).1; omega, (t.fits y hy).2⟩
          · have := hc3 o (by simp)
            exact t.free c (by omega) hc2 (fun y hy => hc3 y (List.mem_cons_of_mem _ hy))
    · rw [walk_end hb] at h
      cases h
      exact ⟨List.Pairwise.nil, (fun o ho => by cases ho), fun c h1 h2 => by omega⟩
/-- the objects of the words, and no wrong header -/
abbrev Tiles (ws : List Int) (l : List Ob) : Prop := TilesF ws (nblk ws.length) 0 l
theorem objs_tiles {ws : List Int} (hn : nblk ws.length ≠ 0) (hb : bads ws = []) : Tiles ws (objs ws) :=
  walk_tiles (nblk_some hn).1 _ 0 _ (Nat.le_refl _) (by
    have : walkS ws (nblk ws.length) 0 = (objs ws, bads ws) := rfl
    rw [this, hb])
theorem tiles_objs {ws : List Int} (hn : nblk ws.length ≠ 0) {l : List Ob} (h : Tiles ws l) : objs ws = l ∧ bads ws = [] := by
  have := tiles_walk (nblk_some hn).1 _ 0 l (Nat.le_refl _) h
  exact ⟨congrArg Prod.fst this, congrArg Prod.snd this⟩
/-- is block c some object's? -/
def Cov (l : List Ob) (c : Nat) : Prop := ∃ o ∈ l, o.block ≤ c ∧ c < o.block + o.span
/-- words that have the same headers, where any are -/
theorem TilesF.congr {ws ws' : List Int} {n b : Nat} {l : List Ob} (h : TilesF ws n b l) (h1 : ∀ o ∈ l, wd ws' (106 + 8 * o.block) = wd ws (106 + 8 * o.block)) (h2 : ∀ c, c < n → ¬ Cov l c → wd ws' (106 + 8 * c) = wd ws (106 + 8 * c)) : TilesF ws' n b l :=
  ⟨h.apart, fun o ho => by rw [h1 o ho]; exact h.fits o ho, fun c hc1 hc2 hc3 => by rw [h2 c hc2 (fun ⟨o, ho, hh⟩ => hc3 o ho hh)]; exact h.free c hc1 hc2 hc3⟩
theorem pair_mem {l : List Ob} (h : l.Pairwise (fun o o' => o.block + o.span ≤ o'.block)) {o o' : Ob} (ho : o ∈ l) (ho' : o' ∈ l) : o = o' ∨ o.block + o.span ≤ o'.block ∨ o'.block + o'.span ≤ o.block := by
  induction l with
  | nil => cases ho
  | cons x l ih =>
    obtain ⟨h1, h2⟩ := List.pairwise_cons.1 h
    rcases List.mem_cons.1 ho with e | ho
    · rcases List.mem_cons.1 ho' with e' | ho'
      · exact .inl (e.trans e'.symm)
      · rw [e]; exact .inr (.inl (h1 _ ho'))
    · rcases List.mem_cons.1 ho' with e' | ho'
      · rw [e']; exact .inr (.inr (h1 _ ho))
      · exact ih h2 ho ho'
/-- nor is a word behind an object's header -/
theorem Tiles.word {ws : List Int} {l : List Ob} (h : Tiles ws l) {o : Ob} (ho : o ∈ l) {i : Nat} {v : Int} (hi : i < 8 * o.span - 1) : Tiles (ws.set (pl o i) v) l := by
  have hpl : pl o i = 106 + 8 * o.block + 1 + i := rfl
  have e : ∀ c, pl o i ≠ 106 + 8 * c → wd (ws.set (pl o i) v) (106 + 8 * c) = wd ws (106 + 8 * c) := fun c hne => by
    by_cases hl : pl o i < ws.length
    · rw [wd_set hl, if_neg (fun e => hne e.symm)]
    · rw [List.set_eq_of_length_le (by omega)]
  have hs := (h.fits o ho).2.1
  have := TilesF.congr (ws' := ws.set (pl o i) v) h (fun o' ho' => e o'.block (fun hh => by
      rcases pair_mem h.apart ho ho' with rfl | hx | hx
      · omega
      · omega
      · have := (h.fits o' ho').2.1; omega)) (fun c _ hc => e c (fun hh => hc ⟨o, ho, by omega, by omega⟩))
  unfold Tiles
  rwa [List.length_set]

/-- blocks c .. c + s - 1 are free -/
def RowFree (l : List Ob) (s c : Nat) : Prop := ∀ j, j < s → ¬ Cov l (c + j)
theorem rowFree_apart {l : List Ob} {s c : Nat} (hs : 1 ≤ s) (h1 : ∀ o ∈ l, 1 ≤ o.span) : RowFree l s c ↔ ∀ o ∈ l, o.block + o.span ≤ c ∨ c + s ≤ o.block := by
  constructor
  · intro h o ho
    rcases (show o.block + o.span ≤ c ∨ c + s ≤ o.block ∨ (c < o.block + o.span ∧ o.block < c + s) by omega) with hx | hx | ⟨hx, hy⟩
    · exact .inl hx
    · exact .inr hx
    · exfalso
      have := h1 o ho
      by_cases hc : o.block ≤ c
      · exact h 0 (by omega) ⟨o, ho, by omega, by omega⟩
      · exact h (o.block - c) (by omega) ⟨o, ho, by omega, by omega⟩
  · rintro h j hj ⟨o, ho, h2, h3⟩
    have := h o ho
    omega
end Go.Proofs.YtbagcjlimdilpaaGreat
