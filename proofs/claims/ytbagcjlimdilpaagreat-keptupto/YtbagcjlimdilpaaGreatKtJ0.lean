/- Texts that follow one another, joined. -/
import Derived.WalkKit
import Derived.ProofKit
import Derived.Test.YtbagcjlimdilpaaGreatRows
import Derived.Deep.Draws
import Derived.Deep.Heap
import Derived.Laws.OwnMore
import Derived.Deep.QuietTactic
import Derived.BigQuiet
import Derived.Laws.CopyOwn
import Derived.Deep.LoopGhost
/- The sum of words as a function of integers: each step is a bijection in the word and in the sum so far; so one other word makes another sum. -/
namespace Go.Proofs.YtbagcjlimdilpaaGreat
open Go.RowKit

/-- a number of 64 bits, without a sign -/
def U (n : Int) : Prop := 0 ≤ n ∧ n < 18446744073709551616

def rot (s : Int) : Int := bits .or .u64 (IntKind.u64.wrap (s * 512)) (s / 36028797018963968)
def mix (s x : Int) : Int := IntKind.u64.wrap (bits .xor .u64 (rot s) x * 11400714819323198485)
def sumL (l : List Int) : Int := l.foldl mix 0

theorem wrapU (n : Int) : U (IntKind.u64.wrap n) := by
  rw [IntKind.wrap_u64]; unfold U; omega
theorem mix_U (s x : Int) : U (mix s x) := wrapU _

theorem rot_eq {s : Int} (h : U s) : rot s = (s * 512) % 18446744073709551616 + s / 36028797018963968 := by
  obtain ⟨h0, h1⟩ := h
  unfold rot
  rw [IntKind.wrap_u64, u64_or _ _ (by omega) (by omega) (by omega) (by omega)]
  rw [nat_join 9 _ _ (by omega) (by omega)]
  omega
theorem rot_U {s : Int} (h : U s) : U (rot s) := by
  rw [rot_eq h]; obtain ⟨h0, h1⟩ := h; unfold U; omega
theorem two_digits {p q a b : Int} (hq0 : 0 ≤ q) (hq : q < 512) (hb0 : 0 ≤ b) (hb : b < 512) (h : 512 * p + q = 512 * a + b) : p = a ∧ q = b := by omega
theorem rot_parts {s : Int} (h : U s) : rot s = 512 * (s % 36028797018963968) + s / 36028797018963968 := by
  rw [rot_eq h]; obtain ⟨h0, h1⟩ := h; omega
theorem rot_inj {s t : Int} (hs : U s) (ht : U t) (h : rot s = rot t) : s = t := by
  rw [rot_parts hs, rot_parts ht] at h
  have ⟨e1, e2⟩ := two_digits (by have := hs.1; omega) (by have := hs.2; omega) (by have := ht.1; omega) (by have := ht.2; omega) h
  rw [← Int.emod_add_mul_ediv s 36028797018963968, ← Int.emod_add_mul_ediv t 36028797018963968, e1, e2]

theorem xor_eq {a b : Int} (ha : U a) (hb : U b) : bits .xor .u64 a b = ((a.toNat ^^^ b.toNat : Nat) : Int) := u64_xor a b ha.1 ha.2 hb.1 hb.2
theorem xor_U {a b : Int} (ha : U a) (hb : U b) : U (bits .xor .u64 a b) := by
  rw [xor_eq ha hb]
  have : a.toNat ^^^ b.toNat < 2 ^ 64 := Nat.xor_lt_two_pow (by have := ha.2; have := ha.1; omega) (by have := hb.2; have := hb.1; omega)
  unfold U; omega
theorem toNat_inj {a b : Int} (ha : U a) (hb : U b) (h : a.toNat = b.toNat) : a = b := by
  have := ha.1; have := hb.1; omega
theorem xor_left {a b c : Int} (ha : U a) (hb : U b) (hc : U c) (h : bits .xor .u64 c a = bits .xor .u64 c b) : a = b := by
  rw [xor_eq hc ha, xor_eq hc hb] at h
  apply toNat_inj ha hb
  have h' : c.toNat ^^^ a.toNat = c.toNat ^^^ b.toNat := by omega
  have := congrArg (fun z => c.toNat ^^^ z) h'
  simpa [← Nat.xor_assoc] using this
theorem xor_right {a b c : Int} (ha : U a) (hb : U b) (hc : U c) (h : bits .xor .u64 a c = bits .xor .u64 b c) : a = b := by
  rw [xor_eq ha hc, xor_eq hb hc] at h
  apply toNat_inj ha hb
  have h' : a.toNat ^^^ c.toNat = b.toNat ^^^ c.toNat := by omega
  have := congrArg (fun z => z ^^^ c.toNat) h'
  simpa [Nat.xor_assoc] using this

theorem mul_back {a : Int} (ha : U a) : (a * 11400714819323198485 % 18446744073709551616) * 17428512612931826493 % 18446744073709551616 = a := by
  obtain ⟨h0, h1⟩ := ha
  omega
theorem mul_inj {a b : Int} (ha : U a) (hb : U b) (h : IntKind.u64.wrap (a * 11400714819323198485) = IntKind.u64.wrap (b * 11400714819323198485)) : a = b := by
  rw [IntKind.wrap_u64, IntKind.wrap_u64] at h
  rw [← mul_back ha, ← mul_back hb, h]

theorem mix_word {s a b : Int} (hs : U s) (ha : U a) (hb : U b) (h : mix s a = mix s b) : a = b :=
  xor_left ha hb (rot_U hs) (mul_inj (xor_U (rot_U hs) ha) (xor_U (rot_U hs) hb) h)
theorem mix_sum {s t x : Int} (hs : U s) (ht : U t) (hx : U x) (h : mix s x = mix t x) : s = t :=
  rot_inj hs ht (xor_right (rot_U hs) (rot_U ht) hx (mul_inj (xor_U (rot_U hs) hx) (xor_U (rot_U ht) hx) h))

theorem fold_U {l : List Int} {s : Int} (hs : U s) : U (l.foldl mix s) := by
  induction l generalizing s with
  | nil => exact hs
  | cons x r ih => exact ih (mix_U s x)
theorem sumL_U (l : List Int) : U (sumL l) := fold_U ⟨by omega, by omega⟩
theorem fold_inj {l : List Int} (hl : ∀ x ∈ l, U x) {s t : Int} (hs : U s) (ht : U t) (h : l.foldl mix s = l.foldl mix t) : s = t := by
  induction l generalizing s t with
  | nil => exact h
  | cons x r ih => exact mix_sum hs ht (hl x (by simp)) (ih (fun y hy => hl y (by simp [hy])) (mix_U s x) (mix_U t x) h)
theorem sumL_append (l m : List Int) : sumL (l ++ m) = m.foldl mix (sumL l) := by simp [sumL]
theorem sumL_snoc (l : List Int) (x : Int) : sumL (l ++ [x]) = mix (sumL l) x := by simp [sumL]
theorem sumL_take_succ (l : List Int) (k : Nat) (h : k < l.length) : sumL (l.take (k + 1)) = mix (sumL (l.take k)) l[k] := by
  rw [List.take_succ_eq_append_getElem h, sumL_snoc]
/-- ANOTHER WORD AT ONE PLACE MAKES ANOTHER SUM -/
theorem sumL_set (l : List Int) (hl : ∀ x ∈ l, U x) (k : Nat) (hk : k < l.length) (y : Int) (hy : U y) (h : sumL (l.set k y) = sumL l) : y = l[k] := by
  have e1 : l.set k y = l.take k ++ y :: l.drop (k + 1) := List.set_eq_take_append_cons_drop .. |>.trans (by simp [hk])
  have e2 : l = l.take k ++ l[k] :: l.drop (k + 1) := by simp
  rw [e1] at h
  rw [show sumL l = sumL (l.take k ++ l[k] :: l.drop (k + 1)) from congrArg sumL e2] at h
  rw [sumL_append, sumL_append] at h
  simp only [List.foldl_cons] at h
  have h2 := fold_inj (fun x hx => hl x (List.mem_of_mem_drop hx)) (mix_U _ _) (mix_U _ _) h
  exact mix_word (sumL_U _) hy (hl _ (List.getElem_mem _)) h2

end Go.Proofs.YtbagcjlimdilpaaGreat
/- The document's Check, as mathematics over words: blocks, headers, objects, what is reached. No program is named here. -/
namespace Go.Proofs.YtbagcjlimdilpaaGreat

/-- the i-th word -/
def wd (ws : List Int) (i : Nat) : Int := ws.getD i 0

/-- how many blocks an image of so many words has; 0: it is none -/
def nblk (len : Nat) : Nat := if 114 ≤ len ∧ len ≤ 362 ∧ (len - 106) % 8 = 0 then (len - 106) / 8 else 0
theorem nblk_some {len : Nat} (h : nblk len ≠ 0) : len = 106 + 8 * nblk len ∧ 1 ≤ nblk len ∧ nblk len ≤ 32 := by
  unfold nblk at *
  split at h
  · rename_i hh
    rw [if_pos hh]
    omega
  · exact absurd rfl h
theorem nblk_mk (b : Nat) (h1 : 1 ≤ b) (h2 : b ≤ 32) : nblk (106 + 8 * b) = b := by
  unfold nblk
  rw [if_pos (by omega)]
  omega
theorem nblk_none {len : Nat} (h : nblk len = 0) (b : Nat) (h1 : 1 ≤ b) (h2 : b ≤ 32) : len ≠ 106 + 8 * b := by
  rintro rfl
  rw [nblk_mk b h1 h2] at h
  omega

/-- an object: its first block, its span, its pointers -/
structure Ob where
  block : Nat
  span : Nat
  ptrs : Nat

/-- a header of that span and so many pointers, at block b of an image of len words -/
def Hdr (len b : Nat) (h : Int) (s p : Nat) : Prop := h = 1000000 + 100 * (s : Int) + (p : Int) ∧ 106 + 8 * (b + s) ≤ len

def spanOf (h : Int) : Nat := ((h - 1000000) / 100).toNat
def ptrsOf (h : Int) : Nat := ((h - 1000000) % 100).toNat
def okHdr (len b : Nat) (h : Int) : Prop := 1000100 ≤ h ∧ h < 1000500 ∧ ptrsOf h < 8 * spanOf h ∧ 106 + 8 * (b + spanOf h) ≤ len
/-- the same, told -/
def okB (len b : Nat) (h : Int) : Bool := decide (1000100 ≤ h) && decide (h < 1000500) && decide (ptrsOf h < 8 * spanOf h) && decide (106 + 8 * (b + spanOf h) ≤ len)
theorem okB_iff {len b : Nat} {h : Int} : okB len b h = true ↔ okHdr len b h := by
  unfold okB okHdr
  simp only [Bool.and_eq_true, decide_eq_true_eq]
  exact ⟨fun ⟨⟨⟨a, b⟩, c⟩, d⟩ => ⟨a, b, c, d⟩, fun ⟨a, b, c, d⟩ => ⟨⟨⟨a, b⟩, c⟩, d⟩⟩
theorem hdr_ok {len b s p : Nat} {h : Int} (hh : Hdr len b h s p) (h1 : 1 ≤ s) (h4 : s ≤ 4) (hp : p < 8 * s) : okHdr len b h ∧ spanOf h = s ∧ ptrsOf h = p := by
  obtain ⟨rfl, hl⟩ := hh
  have e1 : spanOf (1000000 + 100 * (s : Int) + (p : Int)) = s := by unfold spanOf; omega
  have e2 : ptrsOf (1000000 + 100 * (s : Int) + (p : Int)) = p := by unfold ptrsOf; omega
  refine ⟨⟨by omega, by omega, ?_, ?_⟩, e1, e2⟩
  · rw [e1, e2]; exact hp
  · rw [e1]; exact hl
theorem ok_hdr {len b : Nat} {h : Int} (hh : okHdr len b h) : Hdr len b h (spanOf h) (ptrsOf h) ∧ 1 ≤ spanOf h ∧ spanOf h ≤ 4 ∧ ptrsOf h < 8 * spanOf h := by
  obtain ⟨h1, h2, h3, h4⟩ := hh
  refine ⟨⟨?_, h4⟩, ?_, ?_, h3⟩
  · unfold spanOf ptrsOf; omega
  · unfold spanOf; omega
  · unfold spanOf; omega

/-- what stands at a block: nothing; an object; a wrong header -/
def slotAt (ws : List Int) (b : Nat) : Option (Option Ob) :=
  if wd ws (106 + 8 * b) = 0 then none
  else if okB ws.length b (wd ws (106 + 8 * b)) then some (some ⟨b, spanOf (wd ws (106 + 8 * b)), ptrsOf (wd ws (106 + 8 * b))⟩)
  else some none
theorem slot_free {ws : List Int} {b : Nat} (h : wd ws (106 + 8 * b) = 0) : slotAt ws b = none := by unfold slotAt; rw [if_pos h]
theorem slot_ob {ws : List Int} {b s p : Nat} (hh : Hdr ws.length b (wd ws (106 + 8 * b)) s p) (h1 : 1 ≤ s) (h4 : s ≤ 4) (hp : p < 8 * s) : slotAt ws b = some (some ⟨b, s, p⟩) := by
  obtain ⟨h, e1, e2⟩ := hdr_ok hh h1 h4 hp
  unfold slotAt
  rw [if_neg (by have := h.1; omega), if_pos (okB_iff.2 h), e1, e2]
theorem slot_bad {ws : List Int} {b : Nat} (h0 : wd ws (106 + 8 * b) ≠ 0) (h : ∀ s p, 1 ≤ s → s ≤ 4 → p < 8 * s → ¬ Hdr ws.length b (wd ws (106 + 8 * b)) s p) : slotAt ws b = some none := by
  unfold slotAt
  rw [if_neg h0, if_neg]
  intro hk
  obtain ⟨a, b, c, d⟩ := ok_hdr (okB_iff.1 hk)
  exact h _ _ b c d a
theorem slot_obs {ws : List Int} {b : Nat} {o : Ob} (h : slotAt ws b = some (some o)) : o.block = b ∧ 1 ≤ o.span ∧ o.span ≤ 4 ∧ o.ptrs < 8 * o.span ∧ 106 + 8 * (b + o.span) ≤ ws.length := by
  unfold slotAt at h
  split at h
  · cases h
  · split at h
    · rename_i hk
      obtain ⟨a, b', c, d⟩ := ok_hdr (okB_iff.1 hk)
      cases h
      exact ⟨rfl, b', c, d, a.2⟩
    · cases h

/-- the objects and the places of wrong headers, from block b on; n: how many blocks there are; f: so many are looked at -/
def walkF (ws : List Int) (n : Nat) : Nat → Nat → List Ob × List Nat
  | 0, _ => ([], [])
  | f + 1, b =>
    if b < n then
      match slotAt ws b with
      | some (some o) => (o :: (walkF ws n f (b + o.span)).1, (walkF ws n f (b + o.span)).2)
      | some none => ((walkF ws n f (b + 1)).1, (106 + 8 * b) :: (walkF ws n f (b + 1)).2)
      | none => walkF ws n f (b + 1)
    else ([], [])
theorem walkF_end (ws : List Int) (n f b : Nat) (h : n ≤ b) : walkF ws n f b = ([], []) := by
  cases f with
  | zero => rfl
  | succ f => rw [walkF, if_neg (by omega)]
theorem walkF_more (ws : List Int) (n f b : Nat) (h : n - b ≤ f) : walkF ws n f b = walkF ws n (n - b) b := by
  induction f using Nat.strongRecOn generalizing b with
  | ind f ih =>
    by_cases hb : b < n
    · obtain ⟨f', rfl⟩ : ∃ f', f = f' + 1 := ⟨f - 1, by omega⟩
      obtain ⟨m, hm⟩ : ∃ m, n - b = m + 1 := ⟨n - b - 1, by omega⟩
      rw [hm, walkF, walkF, if_pos hb, if_pos hb]
      have key : ∀ c, b < c → walkF ws n f' c = walkF ws n m c := by
        intro c hc
        by_cases hcn : n ≤ c
        · rw [walkF_end ws n f' c hcn, walkF_end ws n m c hcn]
        · rw [ih f' (by omega) c (by omega)]
          rcases Nat.lt_or_ge m (f' + 1) with hlt | hge
          · exact (ih m (by omega) c (by omega)).symm
          · omega
      split
      · rename_i o ho
        have := (slot_obs ho).2.1
        rw [key (b + o.span) (by omega)]
      · rw [key (b + 1) (by omega)]
      · rw [key (b + 1) (by omega)]
    · rw [walkF_end ws n f b (by omega), walkF_end ws n _ b (by omega)]
def walkS (ws : List Int) (n b : Nat) : List Ob × List Nat := walkF ws n (n - b) b
def objs (ws : List Int) : List Ob := (walkS ws (nblk ws.length) 0).1
def bads (ws : List Int) : List Nat := (walkS ws (nblk ws.length) 0).2

theorem walk_step {ws : List Int} {n b : Nat} (h : b < n) : walkS ws n b = match slotAt ws b with
      | some (some o) => (o :: (walkS ws n (b + o.span)).1, (walkS ws n (b + o.span)).2)
      | some none => ((walkS ws n (b + 1)).1, (106 + 8 * b) :: (walkS ws n (b + 1)).2)
      | none => walkS ws n (b + 1) := by
  unfold walkS
  obtain ⟨m, hm⟩ : ∃ m, n - b = m + 1 := ⟨n - b - 1, by omega⟩
  rw [hm, walkF, if_pos h]
  split
  · rename_i o ho
    have := (slot_obs ho).2.1
    rw [walkF_more ws n m (b + o.span) (by omega)]
  · rw [walkF_more ws n m (b + 1) (by omega)]
  · rw [walkF_more ws n m (b + 1) (by omega)]
theorem walk_ob {ws : List Int} {n b : Nat} {o : Ob} (h : b < n) (hs : slotAt ws b = some (some o)) : walkS ws n b = (o :: (walkS ws n (b + o.span)).1, (walkS ws n (b + o.span)).2) := by
  rw [walk_step h, hs]
theorem walk_bad {ws : List Int} {n b : Nat} (h : b < n) (hs : slotAt ws b = some none) : walkS ws n b = ((walkS ws n (b + 1)).1, (106 + 8 * b) :: (walkS ws n (b + 1)).2) := by
  rw [walk_step h, hs]
theorem walk_free {ws : List Int} {n b : Nat} (h : b < n) (hs : slotAt ws b = none) : walkS ws n b = walkS ws n (b + 1) := by
  rw [walk_step h, hs]
theorem walk_end {ws : List Int} {n b : Nat} (h : ¬ b < n) : walkS ws n b = ([], []) := by
  unfold walkS; exact walkF_end ws n _ b (by omega)

end Go.Proofs.YtbagcjlimdilpaaGreat
/- What is reached, as mathematics: by what a set that is closed under roots and pointers holds. -/
namespace Go.Proofs.YtbagcjlimdilpaaGreat

/-- which of some objects has that handle -/
def idx (l : List Ob) (h : Int) : Option Nat := l.findIdx? (fun o => decide (((o.block + 1 : Nat) : Int) = h))
/-- the same, as a number: -1: none -/
def findI (l : List Ob) (h : Int) : Int := match idx l h with
  | some i => (i : Int)
  | none => -1
theorem idx_lt {l : List Ob} {h : Int} {k : Nat} (hk : idx l h = some k) : k < l.length := by
  unfold idx at hk
  exact (List.findIdx?_eq_some_iff_getElem.1 hk).1
theorem findI_some {l : List Ob} {h : Int} {k : Nat} (hk : idx l h = some k) : findI l h = k := by unfold findI; rw [hk]
theorem findI_none {l : List Ob} {h : Int} (hk : idx l h = none) : findI l h = -1 := by unfold findI; rw [hk]
theorem idx_first {l : List Ob} {h : Int} {k : Nat} (hk : k < l.length) (he : (((l[k]).block + 1 : Nat) : Int) = h) (hno : ∀ i (hi : i < k), (((l[i]'(by omega)).block + 1 : Nat) : Int) ≠ h) : idx l h = some k := by
  unfold idx
  rw [List.findIdx?_eq_some_iff_getElem]
  exact ⟨hk, by simpa using he, fun j hj => by simpa using hno j hj⟩
theorem idx_no {l : List Ob} {h : Int} (hno : ∀ i (hi : i < l.length), (((l[i]).block + 1 : Nat) : Int) ≠ h) : idx l h = none := by
  unfold idx
  rw [List.findIdx?_eq_none_iff]
  intro o ho
  obtain ⟨i, hi, rfl⟩ := List.getElem_of_mem ho
  simpa using hno i hi

/-- the place of an object's p-th word -/
def pl (o : Ob) (p : Nat) : Nat := 106 + 8 * o.block + 1 + p

/-- S holds what the roots hold, and what is held by what it holds -/
def Closed (ws : List Int) (l : List Ob) (S : Nat → Prop) : Prop :=
  (∀ r, r < 4 → ∀ k, idx l (wd ws (3 + r)) = some k → S k) ∧ ∀ i (hi : i < l.length) p k, S i → p < (l[i]).ptrs → idx l (wd ws (pl l[i] p)) = some k → S k
/-- the i-th object is reached -/
def Reach (ws : List Int) (l : List Ob) (i : Nat) : Prop := ∀ S : Nat → Prop, Closed ws l S → S i
theorem reach_root {ws : List Int} {l : List Ob} {r k : Nat} (hr : r < 4) (hk : idx l (wd ws (3 + r)) = some k) : Reach ws l k := fun _ hS => hS.1 r hr k hk
theorem reach_step {ws : List Int} {l : List Ob} {i : Nat} (hi : i < l.length) {p k : Nat} (h : Reach ws l i) (hp : p < (l[i]).ptrs) (hk : idx l (wd ws (pl l[i] p)) = some k) : Reach ws l k :=
  fun S hS => hS.2 i hi p k (h S hS) hp hk

/-- so many are not marked -/
def unmarked (out : List Bool) : Nat := out.countP (fun b => !b)
theorem unmarked_set {out : List Bool} {k : Nat} (hk : k < out.length) (h : out[k] = false) : unmarked (out.set k true) + 1 = unmarked out := by
  unfold unmarked
  induction out generalizing k with
  | nil => simp at hk
  | cons b r ih =>
    cases k with
    | zero => simp at h; subst h; simp
    | succ k =>
      have := ih (k := k) (by simpa using hk) (by simpa using h)
      simp only [List.set_cons_succ, List.countP_cons]
      omega

/-- what a search for what is reached keeps: what is marked is reached, the roots are marked -/
structure Marks (ws : List Int) (l : List Ob) (R : Nat) (out : List Bool) : Prop where
  len : out.length = l.length
  sound : ∀ i, out[i]? = some true → Reach ws l i
  roots : ∀ r, r < R → ∀ k, idx l (wd ws (3 + r)) = some k → out[k]? = some true
/-- what the i-th object holds is marked, up to its p-th pointer -/
def Spread (ws : List Int) (l : List Ob) (out : List Bool) (i p : Nat) : Prop := ∀ (hi : i < l.length) q k, out[i]? = some true → q < (l[i]).ptrs → q < p → idx l (wd ws (pl l[i] q)) = some k → out[k]? = some true
theorem set_true {out : List Bool} {k i : Nat} (hk : k < out.length) : (out.set k true)[i]? = some true ↔ i = k ∨ out[i]? = some true := by
  by_cases h : i = k
  · subst h; simp [hk]
  · rw [List.getElem?_set_ne (by omega)]; simp [h]
theorem Marks.mark {ws : List Int} {l : List Ob} {R : Nat} {out : List Bool} (h : Marks ws l R out) {k : Nat} (hk : k < l.length) (hr : Reach ws l k) : Marks ws l R (out.set k true) :=
  ⟨by simpa using h.len, fun i hi => by
    rcases (set_true (by rw [h.len]; exact hk)).1 hi with rfl | hi
    · exact hr
    · exact h.sound i hi, fun r hr' k' hk' => (set_true (by rw [h.len]; exact hk)).2 (.inr (h.roots r hr' k' hk'))⟩
theorem Marks.next {ws : List Int} {l : List Ob} {R : Nat} {out : List Bool} (h : Marks ws l R out) (hk : ∀ k, idx l (wd ws (3 + R)) = some k → out[k]? = some true) : Marks ws l (R + 1) out :=
  ⟨h.len, h.sound, fun r hr k hk' => by
    rcases Nat.lt_or_ge r R with h' | h'
    · exact h.roots r h' k hk'
    · obtain rfl : r = R := by omega
      exact hk k hk'⟩
theorem marks_none (ws : List Int) (l : List Ob) : Marks ws l 0 (List.replicate l.length false) :=
  ⟨by simp, fun i hi => by
    rw [List.getElem?_replicate] at hi
    split at hi <;> simp at hi, fun r hr => by omega⟩
theorem spread_more {ws : List Int} {l : List Ob} {out : List Bool} {i p : Nat} (h : Spread ws l out i p) (hk : ∀ (hi : i < l.length) k, idx l (wd ws (pl l[i] p)) = some k → out[k]? = some true) : Spread ws l out i (p + 1) := by
  intro hi q k ho hq hqp hk'
  rcases Nat.lt_or_ge q p with h' | h'
  · exact h hi q k ho hq h' hk'
  · obtain rfl : q = p := by omega
    exact hk hi k hk'
theorem spread_all {ws : List Int} {l : List Ob} {out : List Bool} {i p : Nat} (h : Spread ws l out i p) (hi : i < l.length) (hp : (l[i]).ptrs ≤ p) (p' : Nat) : Spread ws l out i p' :=
  fun hi' q k ho hq _ hk => h hi' q k ho hq (by omega) hk
theorem spread_not {ws : List Int} {l : List Ob} {out : List Bool} {i : Nat} (h : out[i]? ≠ some true) (p : Nat) : Spread ws l out i p := fun _ _ _ ho _ _ _ => absurd ho h
theorem spread_zero {ws : List Int} {l : List Ob} {out : List Bool} {i : Nat} : Spread ws l out i 0 := fun _ _ _ _ _ h _ => by omega
theorem Marks.done {ws : List Int} {l : List Ob} {out : List Bool} (h : Marks ws l 4 out) (hs : ∀ i, i < l.length → ∀ p, Spread ws l out i p) (i : Nat) : out[i]? = some true ↔ Reach ws l i :=
  ⟨h.sound i, fun hr => hr (fun i => out[i]? = some true) ⟨h.roots, fun i hi p k ho hp hk => hs i hi (p + 1) hi p k ho hp (by omega) hk⟩⟩

/-- one pass of a search for what is reached: m: something was marked in it; i objects are done -/
structure Pass (ws : List Int) (l : List Ob) (U0 : Nat) (out : List Bool) (m : Bool) (i : Nat) : Prop where
  marks : Marks ws l 4 out
  yes : m = true → unmarked out + 1 ≤ U0
  no : m = false → unmarked out ≤ U0 ∧ ∀ j, j < i → ∀ p, Spread ws l out j p
theorem Pass.start {ws : List Int} {l : List Ob} {out : List Bool} (h : Marks ws l 4 out) : Pass ws l (unmarked out) out false 0 := ⟨h, (fun h => by cases h), fun _ => ⟨Nat.le_refl _, fun j hj => by omega⟩⟩
theorem Pass.mark {ws : List Int} {l : List Ob} {U0 : Nat} {out : List Bool} {m : Bool} {i : Nat} (h : Pass ws l U0 out m i) {k : Nat} (hk : k < l.length) (hr : Reach ws l k) (hf : out[k]? = some false) : Pass ws l U0 (out.set k true) true i := by
  have hk' : k < out.length := by rw [h.marks.len]; exact hk
  have hu := unmarked_set hk' (by rw [List.getElem?_eq_getElem hk'] at hf; exact Option.some.inj hf)
  refine ⟨h.marks.mark hk hr, fun _ => ?_, fun h => by cases h⟩
  cases m with
  | true => have := h.yes rfl; omega
  | false => have := (h.no rfl).1; omega
theorem Pass.next {ws : List Int} {l : List Ob} {U0 : Nat} {out : List Bool} {m : Bool} {i : Nat} (h : Pass ws l U0 out m i) (hs : m = false → ∀ p, Spread ws l out i p) : Pass ws l U0 out m (i + 1) :=
  ⟨h.marks, h.yes, fun hm => ⟨(h.no hm).1, fun j hj => by
    rcases Nat.lt_or_ge j i with h' | h'
    · exact (h.no hm).2 j h'
    · obtain rfl : j = i := by omega
      exact hs hm⟩⟩

end Go.Proofs.YtbagcjlimdilpaaGreat
/- The walks of Sum, RotateLeft64 and pick: Sum of a row of words returns 'sumL' of them and turns nothing. -/
namespace Go.Proofs.YtbagcjlimdilpaaGreat
open Go.RowKit

theorem rot_any (s : Int) (w : World) :
    Calls Tryz.prog 113 #[.int .u64 s, .int .i64 9] w fun e w' => e = .returned (.int .u64 (rot s)) ∧ w' = w := by
  have h963 : bits .and .u64 9 63 = 9 := by decide
  go_enter Tryz.func113, Tryz.ntmps113
  go_wp2
  go_ret
  exact ⟨rfl, rfl⟩

/-- the words zs lie at a, one behind the other -/
def RowU (w : World) (a : Option Addr) (zs : List Int) : Prop := ∀ i, i < zs.length → ∃ x, a = some x ∧ w.cell? (x.add i) = some (.int .u64 (zs.getD i 0))

theorem ret_u {a b : Int} (h : a = b) : Ending.returned (.int .u64 a) = .returned (.int .u64 b) := by rw [h]

theorem lsum_any (a : Option Addr) (len cap : Nat) (zs : List Int) (w : World) (hl : zs.length = len) (hm : len ≤ maxLen) (hc : RowU w a zs) :
    Calls Tryz.prog 63 #[.slice a len cap] w fun e w' => e = .returned (.int .u64 (sumL zs)) ∧ w' = w := by
  unfold maxLen at hm
  subst hl
  go_enter Tryz.func63, Tryz.ntmps63
  go_wp2
  go_loop [3, 8] (fun t i => ∃ k : Nat, k ≤ zs.length ∧ i = .int .i64 k ∧ t = .int .u64 (sumL (zs.take k))) (fun _ i => zs.length - (intOf i).toNat)
  case atStart => exact ⟨0, Nat.zero_le _, rfl, rfl⟩
  case round =>
    obtain ⟨k, hk, rfl, rfl⟩ := hrel
    by_cases hlt : k < zs.length
    · obtain ⟨x, rfl, hcx⟩ := hc k hlt
      have HS : Hid (sumL (zs.take (k + 1)) = mix (sumL (zs.take k)) zs[k]) := sumL_take_succ zs k hlt
      go_wp2_with (go_at_call 113; refine (rot_any _ _).mono ?_; rintro e w' ⟨rfl, rfl⟩)
      go_round
      case rel => exact ⟨k + 1, by omega, by go_num, by rw [HS.out]; rfl⟩
      case measure => simp [intOf]; omega
    · go_wp2
      go_ret
      exact ⟨ret_u (by rw [List.take_of_length_le (by omega)]), rfl⟩

theorem sum_any (a : Option Addr) (len cap : Nat) (zs : List Int) (w : World) (hl : zs.length = len) (hm : len ≤ maxLen) (hc : RowU w a zs) :
    Calls Tryz.prog 36 #[.slice a len cap] w fun e w' => e = .returned (.int .u64 (sumL zs)) ∧ w' = w := by
  go_enter Tryz.func36, Tryz.ntmps36
  go_wp2_with (go_at_call 63; refine (lsum_any a len cap zs w hl hm hc).mono ?_; rintro e w' ⟨rfl, rfl⟩)
  go_ret
  exact ⟨rfl, rfl⟩

/-- which of n things the raw number c speaks of -/
def pickI (c n : Int) : Int := if c < 0 then (-(c + 1)) % n else c % n
theorem pickI_nonneg (c n : Int) (hn : 0 < n) : 0 ≤ pickI c n := by
  unfold pickI; split <;> exact Int.emod_nonneg _ (by omega)
theorem pickI_lt (c n : Int) (hn : 0 < n) : pickI c n < n := by
  unfold pickI; split <;> exact Int.emod_lt_of_pos _ hn

theorem ret_i {a b : Int} (h : a = b) : Ending.returned (.int .i64 a) = .returned (.int .i64 b) := by rw [h]
theorem pick_any (c n : Int) (w : World) (h0 : -9223372036854775808 ≤ c) (h1 : c ≤ 9223372036854775807) (hn : 0 < n) (hn1 : n ≤ 9223372036854775807) :
    Calls Tryz.prog 16 #[.int .i64 c, .int .i64 n] w fun e w' => e = .returned (.int .i64 (pickI c n)) ∧ w' = w := by
  by_cases hc : c < 0
  · go_enter Tryz.func16, Tryz.ntmps16
    go_wp2
    go_ret
    refine ⟨ret_i ?_, rfl⟩
    unfold pickI
    rw [if_pos hc, ← Int.neg_tmod, Int.tmod_eq_emod_of_nonneg (by omega)]
  · go_enter Tryz.func16, Tryz.ntmps16
    go_wp2
    go_ret
    refine ⟨ret_i ?_, rfl⟩
    unfold pickI
    rw [if_neg (by omega)]

end Go.Proofs.YtbagcjlimdilpaaGreat
/- A frame for worlds: w' is w but for the blocks of T and new ones; and lists of words that own their row. -/
namespace Go.Proofs.YtbagcjlimdilpaaGreat
open Go.RowKit

/-- w' is w but for the blocks of T, and new ones -/
structure Fr (T : Nat → Prop) (w w' : World) : Prop where
  os : w'.os = w.os
  tape : w'.tape = w.tape
  output : w'.output = w.output
  size : w.heap.size ≤ w'.heap.size
  block : ∀ k, k < w.heap.size → ¬ T k → w'.heap[k]? = w.heap[k]?

/-- nothing old is turned -/
abbrev New : Nat → Prop := fun _ => False

namespace Fr
theorem refl (T : Nat → Prop) (w : World) : Fr T w w := ⟨rfl, rfl, rfl, Nat.le_refl _, fun _ _ _ => rfl⟩
theorem trans {T T' : Nat → Prop} {a b c : World} (h : Fr T a b) (k : Fr T' b c) (hT : ∀ j, j < a.heap.size → T' j → T j) : Fr T a c :=
  ⟨k.os.trans h.os, k.tape.trans h.tape, k.output.trans h.output, Nat.le_trans h.size k.size, fun j hj hn => (k.block j (Nat.lt_of_lt_of_le hj h.size) (fun ht => hn (hT j hj ht))).trans (h.block j hj hn)⟩
theorem mono {T T' : Nat → Prop} {a b : World} (h : Fr T a b) (hT : ∀ j, j < a.heap.size → T j → T' j) : Fr T' a b :=
  ⟨h.os, h.tape, h.output, h.size, fun j hj hn => h.block j hj (fun ht => hn (hT j hj ht))⟩
theorem same {T : Nat → Prop} {a b c : World} (h : Fr T a b) (k : Fr New b c) : Fr T a c := h.trans k (fun _ _ hf => hf.elim)
theorem grown {T : Nat → Prop} {a w w' : World} {row : Option Nat} (h : Fr T a w) (hg : w.grownBy w' row) (hr : ∀ k, k < a.heap.size → row = some k → T k) : Fr T a w' :=
  ⟨hg.os.trans h.os, hg.tape.trans h.tape, hg.output.trans h.output, Nat.le_trans h.size hg.size, fun j hj hn => (hg.block j (Nat.lt_of_lt_of_le hj h.size) (fun ht => hn (hr j hj ht.symm))).trans (h.block j hj hn)⟩
theorem grownNew {T : Nat → Prop} {a w w' : World} (h : Fr T a w) (hg : w.grownBy w' none) : Fr T a w' := h.grown hg (fun _ _ hf => by cases hf)
theorem alloc {T : Nat → Prop} {a w : World} (h : Fr T a w) (o : Obj) : Fr T a (w.alloc o) := h.grownNew (World.grownBy_alloc w o none)
theorem drew {T : Nat → Prop} {a w : World} (h : Fr T a w) : Fr T a w.drew := ⟨h.os, h.tape, h.output, h.size, h.block⟩
theorem drewN {T : Nat → Prop} {a w : World} (h : Fr T a w) (n : Nat) : Fr T a (w.drewN n) := ⟨h.os, h.tape, h.output, h.size, h.block⟩
theorem setCell {T : Nat → Prop} {a w : World} (h : Fr T a w) {p : Addr} (hp : p.block < a.heap.size → T p.block) (u : Value) : Fr T a (w.setCell p u) :=
  ⟨h.os, h.tape, h.output, by rw [World.size_setCell]; exact h.size, fun j hj hn => (Go.Deep.blk_setCell_other w p u j (by rintro rfl; exact hn (hp hj))).trans (h.block j hj hn)⟩
theorem below {T : Nat → Prop} {B : Nat} {w w' : World} (h : Fr T w w') (hB : B ≤ w.heap.size) (hT : ∀ k, k < B → ¬ T k) : Below B w w' :=
  ⟨h.os, h.tape, h.output, h.size, fun k hk => h.block k (Nat.lt_of_lt_of_le hk hB) (hT k hk)⟩
theorem ofBelow {B : Nat} {w w' : World} (h : Below B w w') : Fr (fun k => B ≤ k) w w' :=
  ⟨h.os, h.tape, h.output, h.size, fun k _ hn => h.block k (by omega)⟩
theorem heap {T : Nat → Prop} {w w' : World} (h : Fr T w w') {k : Nat} {o : Obj} (hk : w.heap[k]? = some o) (hn : ¬ T k) : w'.heap[k]? = some o :=
  (h.block k (lt_of_block hk) hn).trans hk
theorem cell {T : Nat → Prop} {w w' : World} (h : Fr T w w') {a : Addr} {v : Value} (hc : w.cell? a = some v) (hn : ¬ T a.block) : w'.cell? a = some v :=
  (World.cell?_of_block (h.block a.block (World.block_lt_of_cell? w a hc) hn)).trans hc
theorem owns {T : Nat → Prop} {w w' : World} (h : Fr T w w') {base : Nat} {e : TypeId} {size : Nat} {v : Value} {n : Nat} {xs : List Value} (ho : w.ownsRow base e size v n xs)
    (hn : ∀ g, v.ownBlock = some g → ¬ T g) : w'.ownsRow base e size v n xs := by
  refine ⟨ho.1, ?_⟩
  rcases ho.2 with hl | ⟨g, cap, cur, rfl, hb, hg, r⟩
  · exact .inl hl
  · exact .inr ⟨g, cap, cur, rfl, hb, h.heap hg (hn g rfl), r⟩
end Fr

/-- the list v is the words zs, in a row of its own, at block base or behind it -/
abbrev Own (base : Nat) (w : World) (v : Value) (zs : List Int) : Prop := w.ownsRow base 50 1 v zs.length (zs.map (Value.int .u64))

theorem rowU_own {w : World} {B g n cap : Nat} {zs : List Int} (h : w.ownsRow B 50 1 (.slice (some ⟨g, 0, none⟩) n cap) n (zs.map (Value.int .u64))) : RowU w (some ⟨g, 0, none⟩) zs := by
  intro i hi
  refine ⟨_, rfl, h.cells rfl i _ ?_⟩
  simp [hi]
theorem rowU_nil (w : World) (a : Option Addr) : RowU w a [] := fun i hi => absurd hi (by simp)
theorem rowU_take {w : World} {a : Option Addr} {zs : List Int} (h : RowU w a zs) (n : Nat) : RowU w a (zs.take n) := by
  intro i hi
  have hi' : i < n ∧ i < zs.length := by simpa [Nat.lt_min] using hi
  obtain ⟨x, hx, hc⟩ := h i hi'.2
  refine ⟨x, hx, hc.trans ?_⟩
  rw [List.getD_eq_getElem?_getD, List.getD_eq_getElem?_getD, List.getElem?_take_of_lt hi'.1]
theorem rowU_fr {T : Nat → Prop} {w w' : World} (h : Fr T w w') {a : Option Addr} {zs : List Int} (hr : RowU w a zs) (hn : ∀ x, a = some x → ¬ T x.block) : RowU w' a zs := by
  intro i hi
  obtain ⟨x, hx, hc⟩ := hr i hi
  refine ⟨x, hx, h.cell hc ?_⟩
  rw [Go.ChangeShapes.block_add]
  exact hn x hx
/-- An owned list as it is handed on: a slice with a row. -/
theorem own_row {w : World} {B : Nat} {v : Value} {zs : List Int} (h : Own B w v zs) : ∃ a cap, v = .slice a zs.length cap ∧ zs.length ≤ maxLen ∧ RowU w a zs ∧ (a = none → cap = 0) := by
  rcases h.2 with ⟨rfl, hn⟩ | ⟨g, cap, cur, rfl, hb, hh, hnc, hcm, hcs, htk⟩
  · have : zs = [] := by simpa using hn
    subst this
    exact ⟨none, 0, rfl, by decide, rowU_nil _ _, fun _ => rfl⟩
  · exact ⟨_, cap, rfl, by omega, rowU_own h, fun h => by cases h⟩

theorem calls_same {P : Program} {f : FuncId} {args : Array Value} {w : World} {v : Value} {Q : Ending → World → Prop} (h : Calls P f args w fun e w' => e = .returned v ∧ w' = w) (hQ : Q (.returned v) w) : Calls P f args w Q :=
  h.mono (by rintro e w' ⟨rfl, rfl⟩; exact hQ)

end Go.Proofs.YtbagcjlimdilpaaGreat
/- Walks of the law's small functions over lists of words: the document's Sum, sameWords, fullWords. -/
namespace Go.Proofs.YtbagcjlimdilpaaGreat
open Go.RowKit

theorem rmix {s x : Int} (hs : U s) : IntKind.u64.wrap (bits .xor .u64 (IntKind.u64.wrap (IntKind.u64.wrap (s * 512) + s / 36028797018963968)) x * 11400714819323198485) = mix s x := by
  unfold mix
  rw [IntKind.wrap_u64 (s * 512), IntKind.wrap_u64 (_ + _), rot_eq hs]
  have : (s * 512 % 18446744073709551616 + s / 36028797018963968) % 18446744073709551616 = s * 512 % 18446744073709551616 + s / 36028797018963968 := by
    have := rot_U hs; rw [rot_eq hs] at this; obtain ⟨h0, h1⟩ := this; exact Int.emod_eq_of_lt h0 h1
  rw [this]

theorem rsum_any (a : Option Addr) (len cap : Nat) (zs : List Int) (w : World) (hl : zs.length = len) (hm : len ≤ maxLen) (hc : RowU w a zs) :
    Calls Tryz.prog 121 #[.slice a len cap] w fun e w' => e = .returned (.int .u64 (sumL zs)) ∧ w' = w := by
  unfold maxLen at hm
  subst hl
  go_enter Tryz.func121, Tryz.ntmps121
  go_wp2
  go_loop [3, 4] (fun t i => ∃ k : Nat, k ≤ zs.length ∧ i = .int .i64 k ∧ t = .int .u64 (sumL (zs.take k))) (fun _ i => zs.length - (intOf i).toNat)
  case atStart => exact ⟨0, Nat.zero_le _, rfl, rfl⟩
  case round =>
    obtain ⟨k, hk, rfl, rfl⟩ := hrel
    by_cases hlt : k < zs.length
    · obtain ⟨x, rfl, hcx⟩ := hc k hlt
      have HS : Hid (sumL (zs.take (k + 1)) = mix (sumL (zs.take k)) zs[k]) := sumL_take_succ zs k hlt
      obtain ⟨s, hs⟩ : ∃ s, s = sumL (zs.take k) := ⟨_, rfl⟩
      have hsU : U s := by rw [hs]; exact sumL_U _
      obtain ⟨hs0, hs1⟩ := hsU
      rw [← hs] at HS ⊢
      clear hs
      go_wp2
      go_round
      case rel => exact ⟨k + 1, by omega, by go_num, by rw [HS.out, ← rmix ⟨hs0, hs1⟩]⟩
      case measure => simp [intOf]; omega
    · go_wp2
      go_ret
      exact ⟨ret_u (by rw [List.take_of_length_le (by omega)]), rfl⟩

theorem same_true (a b : Option Addr) (cap cap' : Nat) (zs : List Int) (w : World) (hm : zs.length ≤ maxLen) (ha : RowU w a zs) (hb : RowU w b zs) :
    Calls Tryz.prog 87 #[.slice a zs.length cap, .slice b zs.length cap'] w fun e w' => e = .returned (.bool true) ∧ ∃ n, w' = w.drewN n := by
  unfold maxLen at hm
  go_enter Tryz.func87, Tryz.ntmps87
  go_wp2
  go_loopw [5] (fun i wr => ∃ k n : Nat, k ≤ zs.length ∧ i = .int .i64 k ∧ wr = w.drewN n) (fun i _ => zs.length - (intOf i).toNat)
  case atStart => exact ⟨0, 0, Nat.zero_le _, rfl, rfl⟩
  case round =>
    obtain ⟨k, n, hk, rfl, rfl⟩ := hrel
    by_cases hlt : k < zs.length
    · obtain ⟨x, rfl, hcx⟩ := ha k hlt
      obtain ⟨y, rfl, hcy⟩ := hb k hlt
      go_wp2
      go_quiet (fail)
      go_wp2
      go_roundw
      case rel => exact ⟨k + 1, n + nq, by omega, by go_num, rfl⟩
      case measure => simp [intOf]; omega
    · go_wp2
      go_ret
      exact ⟨rfl, n, rfl⟩

theorem full_true (a : Option Addr) (n cap : Nat) (m : Int) (w : World) (hm : n ≤ maxLen) (ha : RowU w a (List.replicate n m)) :
    Calls Tryz.prog 91 #[.slice a n cap, .int .u64 m] w fun e w' => e = .returned (.bool true) ∧ w' = w := by
  unfold maxLen at hm
  go_enter Tryz.func91, Tryz.ntmps91
  go_wp2
  go_loop [5] (fun i => ∃ k : Nat, k ≤ n ∧ i = .int .i64 k) (fun i => n - (intOf i).toNat)
  case atStart => exact ⟨0, Nat.zero_le _, rfl⟩
  case round =>
    obtain ⟨k, hk, rfl⟩ := hrel
    by_cases hlt : k < n
    · obtain ⟨x, rfl, hcx⟩ := ha k (by simpa using hlt)
      have hg : (List.replicate n m).getD k 0 = m := by simp [List.getD, hlt]
      rw [hg] at hcx
      go_wp2
      go_round
      case rel => exact ⟨k + 1, by omega, by go_num⟩
      case measure => simp [intOf]; omega
    · go_wp2
      go_ret
      exact ⟨rfl, rfl⟩

end Go.Proofs.YtbagcjlimdilpaaGreat
/- Walks of lent and back: a list with eight places behind it is made, is read as it was, and is written over by its owner. -/
namespace Go.Proofs.YtbagcjlimdilpaaGreat
open Go.RowKit

theorem Tryz.info50 : (Tryz.prog.info? 50).map (fun i => (i.zero, i.size, i.bytes)) = some (some (.int .u64 0), 1, 8) := by kernel_rfl
theorem Tryz.size50 : (Tryz.prog.info? 50).map (·.size) = some 1 := by kernel_rfl

/-- block g is just the words zs -/
def Row (w : World) (g : Nat) (zs : List Int) : Prop := w.heap[g]? = some (.cells ((zs.map (Value.int .u64)).toArray) 50 (0, 0))

namespace Row
theorem own {w : World} {g base : Nat} {zs : List Int} (h : Row w g zs) (hb : base ≤ g) (hm : zs.length ≤ maxLen) : Own base w (.slice (some ⟨g, 0, none⟩) zs.length zs.length) zs :=
  ⟨by simp, .inr ⟨g, zs.length, _, rfl, hb, h, Nat.le_refl _, hm, by simp, List.take_of_length_le (by simp)⟩⟩
theorem ofOwn {w : World} {g base n : Nat} {xs : List Value} {zs : List Int} (h : w.ownsRow base 50 1 (.slice (some ⟨g, 0, none⟩) n n) n xs) (hx : xs = zs.map (Value.int .u64)) : Row w g zs := by
  rcases h.2 with ⟨h', _⟩ | ⟨g', cap', cur, h', _, hg, _, _, hcs, htk⟩
  · cases h'
  · simp only [Value.slice.injEq, Option.some.injEq, Addr.mk.injEq, and_true, true_and] at h'
    obtain ⟨rfl, rfl⟩ := h'
    unfold Row
    rw [hg, ← hx, ← htk, List.take_of_length_le (by rw [Array.length_toList, hcs]; exact Nat.le_refl _)]
theorem cell {w : World} {g : Nat} {zs : List Int} (h : Row w g zs) (k : Nat) (hk : k < zs.length) : w.cell? ⟨g, k, none⟩ = some (.int .u64 zs[k]) := by
  simp [World.cell?, show w.heap[g]? = _ from h, hk]
theorem free {w : World} {g : Nat} {zs : List Int} (h : Row w g zs) (k : Nat) : w.frozen? ⟨g, k, none⟩ = false := by
  simp [World.frozen?, show w.heap[g]? = _ from h]
theorem set {w : World} {g : Nat} {zs : List Int} (h : Row w g zs) (k : Nat) (y : Int) : Row (w.setCell ⟨g, k, none⟩ (.int .u64 y)) g (zs.set k y) := by
  have := heap_setCell_same w g k _ _ (.int .u64 y) h
  unfold Row
  rw [this]
  simp [List.map_set]
theorem rowU {w : World} {g : Nat} {zs : List Int} (h : Row w g zs) : RowU w (some ⟨g, 0, none⟩) zs := by
  intro i hi
  refine ⟨_, rfl, ?_⟩
  rw [Addr.add_lit, Nat.zero_add, h.cell i hi]
  simp [List.getD, hi]
theorem fr {T : Nat → Prop} {w w' : World} {g : Nat} {zs : List Int} (h : Row w g zs) (hf : Fr T w w') (hn : ¬ T g) : Row w' g zs := hf.heap h hn
theorem lt {w : World} {g : Nat} {zs : List Int} (h : Row w g zs) : g < w.heap.size := lt_of_block h
end Row

theorem made_zeros (n : Nat) : (madeCells (Value.int .u64 0).cells (n * 1)).toList = (List.replicate n (0 : Int)).map (Value.int .u64) := by
  rw [Nat.mul_one, List.map_replicate]; exact toList_madeCells_one _ n

theorem news_row {w : World} {a : Option Addr} {zs : List Int} (h : RowU w a zs) (hp : 0 < (zs.map (Value.int .u64)).length) :
    ∃ ad, a = some ad ∧ ∀ j v, (zs.map (Value.int .u64))[j]? = some v → w.cell? (ad.add j) = some v := by
  have hp' : 0 < zs.length := by simpa using hp
  obtain ⟨ad, rfl, _⟩ := h 0 hp'
  refine ⟨ad, rfl, fun j v hv => ?_⟩
  have hj : j < zs.length := by
    rcases Nat.lt_or_ge j zs.length with h | h
    · exact h
    · rw [List.getElem?_eq_none (by simpa using h)] at hv; cases hv
  obtain ⟨x, hx, hc⟩ := h j hj
  cases hx
  rw [hc]
  simp [hj] at hv
  rw [← hv]
  simp [List.getD, hj]
theorem ints_oneU (L : List Int) : ∀ u ∈ L.map (Value.int .u64), u.oneCell' = true := by
  intro u hu; simp only [List.mem_map] at hu; obtain ⟨x, _, rfl⟩ := hu; rfl

theorem spliced (zs : List Int) : splice ((List.replicate (zs.length + 8) (0 : Int)).map (Value.int .u64)) 0 (zs.map (Value.int .u64)) = (zs ++ List.replicate 8 0).map (Value.int .u64) := by
  unfold splice
  simp [Nat.add_sub_cancel_left]
theorem lent_step (zs : List Int) (k : Nat) (hk : k < 8) : (zs ++ (List.replicate k 770077 ++ List.replicate (8 - k) (0 : Int))).set (zs.length + k) 770077 = zs ++ (List.replicate (k + 1) 770077 ++ List.replicate (8 - (k + 1)) 0) := by
  rw [List.set_append_right _ _ (by omega), Nat.add_sub_cancel_left, List.set_append_right _ _ (by simp)]
  simp only [List.length_replicate, Nat.sub_self]
  rw [show 8 - k = (8 - (k + 1)) + 1 by omega, List.replicate_succ (n := 8 - (k + 1)), List.set_cons_zero, List.replicate_succ' (n := k)]
  simp

/-- a list with eight places behind it -/
def withEight (zs : List Int) : List Int := zs ++ List.replicate 8 770077

set_option maxRecDepth 100000 in
theorem lent_any (a : Option Addr) (cap : Nat) (zs : List Int) (w : World) (hm : zs.length ≤ 1048576) (hc : RowU w a zs) :
    Calls Tryz.prog 120 #[.slice a zs.length cap] w fun e w' => e = .returned (.slice (some ⟨w.heap.size, 0, none⟩) (zs.length + 8) (zs.length + 8)) ∧ Row w' w.heap.size (withEight zs) ∧ Fr New w w' := by
  obtain ⟨i0, hi, hz0, hz1, hz2⟩ := info_parts Tryz.info50
  have hmin : Hid ((zs.map (Value.int .u64)).length = Nat.min zs.length (zs.length + 8)) := by show _ = _; simp
  go_enter Tryz.func120, Tryz.ntmps120
  go_wp2_with (first
    | (at_make; refine wpList_make_full _ rfl (.tmp 7) (.tmp 7) 43 rfl w.heap.size 50 i0 (.int .u64 0) 1 Tryz.underlying43 hi hz0 hz1 .i64 .i64 _ _ (zs.length + 8) rfl rfl (by omega) (by omega) (by rw [hz2]; omega) (by unfold maxLen; omega) (Nat.le_refl _) ?_; intro w1 hown1 hg1; have hr1 := Row.ofOwn hown1 (made_zeros _); have hc1 := rowU_fr ((Fr.refl New w).grownNew hg1) hc (fun _ _ h => h); have hb1 := ((Fr.refl New w).grownNew hg1).below (Nat.le_refl _) (fun _ _ h => h); clear hown1 hg1)
    | (refine wpList_copy_splice rfl (.tmp 9) (.tmp 10) 43 43 rfl 50 Tryz.underlying43 Tryz.size50 (some ⟨w.heap.size, 0, none⟩) a (zs.length + 8) (zs.length + 8) zs.length cap (by rfl) (by rfl) w.heap.size 0 _ 50 hr1 (zs.map (Value.int .u64)) hmin.out (fun hp => ⟨rfl, news_row hc1 hp⟩) (by simp) (ints_oneU zs) w.heap.size w hb1 (Nat.le_refl _) ?_; intro w2 hr2 hb2)
    | fail)
  have hr3 : Row w2 w.heap.size (zs ++ List.replicate 8 0) := by unfold Row; rw [← spliced]; exact hr2.out
  clear hr2 hr1 hc1 hb1
  go_loopw [4] (fun i wr => ∃ k : Nat, k ≤ 8 ∧ i = .int .i64 ((zs.length + k : Nat) : Int) ∧ Row wr w.heap.size (zs ++ (List.replicate k 770077 ++ List.replicate (8 - k) 0)) ∧ Fr New w wr) (fun i _ => zs.length + 8 - (intOf i).toNat)
  case atStart => exact ⟨0, by omega, rfl, hr3, (Fr.ofBelow hb2).mono (fun j hj h => by omega)⟩
  case round =>
    obtain ⟨k, hk, rfl, hr, hf⟩ := hrel
    clear hr3 hb2
    by_cases hlt : k < 8
    · have hcl := hr.cell (zs.length + k) (by simp; omega)
      have hfz := hr.free (zs.length + k)
      have hset := hr.set (zs.length + k) 770077
      rw [lent_step zs k hlt] at hset
      have hf' := hf.setCell (p := ⟨w.heap.size, zs.length + k, none⟩) (fun h => absurd h (by simp)) (.int .u64 770077)
      have HR : Hid (Row _ _ _) := hset
      clear hset hr
      go_wp2
      go_roundw
      case rel => exact ⟨k + 1, by omega, by go_num, HR.out, hf'⟩
      case measure => simp [intOf]; omega
    · obtain rfl : k = 8 := by omega
      go_wp2
      go_ret
      exact ⟨rfl, by simpa [withEight] using hr, hf⟩
end Go.Proofs.YtbagcjlimdilpaaGreat
/- Walks of the document's blocks, object, place, find: they answer as the mathematics says. -/
namespace Go.Proofs.YtbagcjlimdilpaaGreat
open Go.RowKit

theorem blocks_any (n : Nat) (w : World) (hn : n ≤ 9223372036854775807) :
    Calls Tryz.prog 127 #[.int .i64 n] w fun e w' => e = .returned (.int .i64 (nblk n)) ∧ w' = w := by
  go_enter Tryz.func127, Tryz.ntmps127
  go_wp2
  go_loop [3] (fun t => ∃ b : Nat, 1 ≤ b ∧ b ≤ 33 ∧ t = .int .i64 b ∧ ∀ c, 1 ≤ c → c < b → n ≠ 106 + 8 * c) (fun t => 33 - (intOf t).toNat)
  case atStart => exact ⟨1, by omega, by omega, rfl, fun c h1 h2 => by omega⟩
  case round =>
    obtain ⟨b, h1, h33, rfl, hno⟩ := hrel
    have HN : Hid (∀ c, 1 ≤ c → c < b → n ≠ 106 + 8 * c) := hno
    clear hno
    by_cases hb : b ≤ 32
    · by_cases he : n = 106 + 8 * b
      · subst he
        go_wp2
        go_ret
        exact ⟨ret_i (by rw [nblk_mk b h1 hb]), rfl⟩
      · go_wp2
        go_round
        case rel => exact ⟨b + 1, by omega, by omega, by go_num, fun c h1 h2 => by
          rcases Nat.lt_or_ge c b with h | h
          · exact HN.out c h1 h
          · have : c = b := by omega
            subst this; exact he⟩
        case measure => simp [intOf]; omega
    · go_wp2
      go_ret
      refine ⟨ret_i ?_, rfl⟩
      have : nblk n = 0 := by
        by_cases h : nblk n = 0
        · exact h
        · obtain ⟨e1, e2, e3⟩ := nblk_some h
          exact absurd e1 (HN.out _ e2 (by omega))
      rw [this]; rfl

/-- an object as a value -/
abbrev obV (o : Ob) : Value := .agg #[.int .i64 o.block, .int .i64 o.span, .int .i64 o.ptrs]
/-- what the document's 'object' answers -/
def objectV (s : Option (Option Ob)) : Value :=
  match s with
  | none => .tuple #[.agg #[.int .i64 0, .int .i64 0, .int .i64 0], .int .i64 0]
  | some (some o) => .tuple #[obV o, .int .i64 1]
  | some none => .tuple #[.agg #[.int .i64 0, .int .i64 0, .int .i64 0], .int .i64 2]

/-- words that come in, by their plain address -/
theorem rowU_plain {w : World} {a : Option Addr} {ws : List Int} (h : RowU w a ws) (hp : 0 < ws.length) :
    ∃ sb so, a = some ⟨sb, so, none⟩ ∧ sb < w.heap.size ∧ ∀ i, i < ws.length → w.cell? ⟨sb, so + i, none⟩ = some (.int .u64 (wd ws i)) := by
  obtain ⟨x, rfl, h0⟩ := h 0 hp
  obtain ⟨sb, so, spot⟩ := x
  obtain rfl : spot = none := by simpa [Addr.add] using World.cell?_spot h0
  have hlt := World.block_lt_of_cell? w _ h0
  refine ⟨sb, so, rfl, by simpa [Addr.add] using hlt, fun i hi => ?_⟩
  obtain ⟨y, hy, hc⟩ := h i hi
  cases hy
  rw [Addr.add_lit] at hc
  exact hc

set_option maxHeartbeats 1000000 in
set_option maxRecDepth 1000000 in
theorem object_any (a : Option Addr) (cap : Nat) (ws : List Int) (b : Nat) (w : World) (hm : ws.length ≤ 1048576) (hb : 106 + 8 * b < ws.length) (hr : RowU w a ws) :
    Calls Tryz.prog 151 #[.slice a ws.length cap, .int .i64 b] w fun e w' => e = .returned (objectV (slotAt ws b)) ∧ Fr New w w' := by
  obtain ⟨sb, so, rfl, hsb, hcs⟩ := rowU_plain hr (by omega)
  have hc0 := hcs _ hb
  clear hcs hr
  obtain ⟨h, hh⟩ : ∃ h, h = wd ws (106 + 8 * b) := ⟨_, rfl⟩
  rw [← hh] at hc0
  have HH : Hid (h = wd ws (106 + 8 * b)) := hh
  clear hh
  by_cases h0 : h = 0
  · subst h0
    rw [slot_free HH.out.symm]
    go_enter Tryz.func151, Tryz.ntmps151
    go_wp2
    exact bodyPost_ret (v := objectV none) (by simp [results, Tryz.results151, go_sem, objectV]) rfl ⟨rfl, (Fr.refl _ _).alloc _⟩
  · have hz : (h == 0) = false := by simpa using h0
    go_enter Tryz.func151, Tryz.ntmps151
    go_wp2
    have hf0 : Fr New w (w.alloc (.cells #[.int .i64 0, .int .i64 0, .int .i64 0] 190)) := (Fr.refl _ _).alloc _
    go_loopg [7] 4 (fun g t wr => ∃ s : Nat, 1 ≤ s ∧ s ≤ 5 ∧ g = 5 - s ∧ t = .int .i64 s ∧ wr = w.alloc (.cells #[.int .i64 0, .int .i64 0, .int .i64 0] 190) ∧ ∀ s' p', 1 ≤ s' → s' < s → p' < 8 * s' → ¬ Hdr ws.length b h s' p')
    case atStart => exact ⟨1, by omega, by omega, rfl, rfl, rfl, fun s' p' h1 h2 => by omega⟩
    case round =>
      obtain ⟨s, h1, h5, rfl, rfl, rfl, hno⟩ := hrel
      have HN : Hid (∀ s' p', 1 ≤ s' → s' < s → p' < 8 * s' → ¬ Hdr ws.length b h s' p') := hno
      clear hno
      by_cases h4 : s ≤ 4
      · have hd4 : decide ((s : Int) ≤ 4) = true := by simp; omega
        go_wp2
        go_loopg [8] (8 * s) (fun g t wr => ∃ p : Nat, p ≤ 8 * s ∧ g = 8 * s - p ∧ t = .int .i64 p ∧ wr = w.alloc (.cells #[.int .i64 0, .int .i64 0, .int .i64 0] 190) ∧ ∀ p', p' < p → ¬ Hdr ws.length b h s p')
        case atStart => exact ⟨0, by omega, rfl, rfl, rfl, fun p' h => by omega⟩
        case round =>
          obtain ⟨p, hp, rfl, rfl, rfl, hno⟩ := hrel
          have HP : Hid (∀ p', p' < p → ¬ Hdr ws.length b h s p') := hno
          clear hno
          by_cases hp8 : p < 8 * s
          · by_cases he : h = 1000000 + 100 * (s : Int) + (p : Int)
            · by_cases hl : 106 + 8 * (b + s) ≤ ws.length
              · have HS : Hid (slotAt ws b = some (some ⟨b, s, p⟩)) := slot_ob (by rw [← HH.out]; exact ⟨he, hl⟩) h1 h4 hp8
                subst he
                go_wp2
                rw [HS.out]
                exact bodyPost_ret (v := objectV (some (some ⟨b, s, p⟩))) (by simp [results, Tryz.results151, go_sem, objectV]) rfl ⟨rfl, (Fr.refl _ _).alloc _⟩
              · have HX : Hid (¬ Hdr ws.length b h s p) := fun hx => hl hx.2
                have HE : Hid (h = 1000000 + 100 * (s : Int) + (p : Int)) := he
                go_wp2
                go_roundg (8 * s - (p + 1))
                case measure => omega
                case rel => exact ⟨p + 1, by omega, rfl, by go_num, rfl, fun p' hp' => by
                  rcases Nat.lt_or_ge p' p with hlt | hge
                  · exact HP.out p' hlt
                  · obtain rfl : p' = p := by omega
                    exact HX.out⟩
            · have HX : Hid (¬ Hdr ws.length b h s p) := fun hx => he hx.1
              go_wp2
              go_roundg (8 * s - (p + 1))
              case measure => omega
              case rel => exact ⟨p + 1, by omega, rfl, by go_num, rfl, fun p' hp' => by
                rcases Nat.lt_or_ge p' p with hlt | hge
                · exact HP.out p' hlt
                · obtain rfl : p' = p := by omega
                  exact HX.out⟩
          · go_wp2
            go_roundg (5 - (s + 1))
            case measure => omega
            case rel => exact ⟨s + 1, by omega, by omega, rfl, by go_num, rfl, fun s' p' h1' h2' h3' => by
              rcases Nat.lt_or_ge s' s with hlt | hge
              · exact HN.out s' p' h1' hlt h3'
              · obtain rfl : s' = s := by omega
                exact HP.out p' (by omega)⟩
      · have HS : Hid (slotAt ws b = some none) := slot_bad (by rw [← HH.out]; exact h0) (fun s' p' a1 a2 a3 => by rw [← HH.out]; exact HN.out s' p' a1 (by omega) a3)
        go_wp2
        rw [HS.out]
        exact bodyPost_ret (v := objectV (some none)) (by simp [results, Tryz.results151, go_sem, objectV]) rfl ⟨rfl, (Fr.refl _ _).alloc _⟩
end Go.Proofs.YtbagcjlimdilpaaGreat
/- The walk of back: a lent list reads as it was, with what is behind it; then its owner writes over it. -/
namespace Go.Proofs.YtbagcjlimdilpaaGreat
open Go.RowKit

def over (zs : List Int) (k : Nat) : List Int := List.replicate k 550055 ++ (withEight zs).drop k
theorem withEight_len (zs : List Int) : (withEight zs).length = zs.length + 8 := by simp [withEight]
theorem over_len (zs : List Int) (k : Nat) (h : k ≤ zs.length + 8) : (over zs k).length = zs.length + 8 := by simp [over, withEight_len]; omega
theorem over_zero (zs : List Int) : over zs 0 = withEight zs := by simp [over]
theorem over_set (zs : List Int) (k : Nat) (h : k < zs.length + 8) : (over zs k).set k 550055 = over zs (k + 1) := by
  unfold over
  rw [List.set_append_right _ _ (by simp)]
  simp only [List.length_replicate, Nat.sub_self]
  rw [List.drop_eq_getElem_cons (by rw [withEight_len]; exact h), List.set_cons_zero, List.replicate_succ' (n := k)]
  simp
theorem over_get (zs : List Int) (k : Nat) (h : k < zs.length + 8) (h2 : zs.length ≤ k) (hb : k < (over zs k).length) : (over zs k)[k] = 770077 := by
  have e : (over zs k)[k]? = some 770077 := by
    unfold over withEight
    rw [List.getElem?_append_right (by simp), List.length_replicate, Nat.sub_self, List.getElem?_drop, Nat.add_zero, List.getElem?_append_right h2]
    exact List.getElem?_replicate_of_lt (by omega)
  rw [List.getElem?_eq_getElem hb] at e
  exact Option.some.inj e

set_option maxRecDepth 100000 in
theorem back_true (g : Nat) (a : Option Addr) (cap : Nat) (zs : List Int) (w : World) (hm : zs.length ≤ 1048576) (hr : Row w g (withEight zs)) (hc : RowU w a zs) :
    Calls Tryz.prog 122 #[.slice (some ⟨g, 0, none⟩) (zs.length + 8) (zs.length + 8), .slice a zs.length cap] w fun e w' => e = .returned (.bool true) ∧ Fr (fun k => k = g) w w' := by
  have hl : RowU w (some ⟨g, 0, none⟩) zs := by
    have := rowU_take hr.rowU zs.length
    rwa [show (withEight zs).take zs.length = zs by simp [withEight]] at this
  have HS : Hid (Calls Tryz.prog 87 #[.slice (some ⟨g, 0, none⟩) zs.length (zs.length + 8), .slice a zs.length cap] w fun e w' => e = .returned (.bool true) ∧ ∃ n, w' = w.drewN n) :=
    same_true _ _ _ _ zs w (by unfold maxLen; omega) hl hc
  clear hl hc
  go_enter Tryz.func122, Tryz.ntmps122
  go_wp2_with (go_at_call 87; refine HS.out.mono ?_; rintro e w1 ⟨rfl, n0, hw1⟩)
  subst hw1
  go_loopw [6, 7] (fun t i wr => ∃ k : Nat, k ≤ zs.length + 8 ∧ t = .bool true ∧ i = .int .i64 k ∧ Row wr g (over zs k) ∧ Fr (fun k => k = g) w wr) (fun _ i _ => zs.length + 8 - (intOf i).toNat)
  case atStart => exact ⟨0, by omega, rfl, rfl, by rw [over_zero]; exact hr, (Fr.refl _ _).drewN _⟩
  case round =>
    obtain ⟨k, hk, rfl, rfl, hrk, hf⟩ := hrel
    clear hr HS
    by_cases hlt : k < zs.length + 8
    · have hset := hrk.set k 550055
      rw [over_set zs k hlt] at hset
      have HR : Hid (Row _ _ _) := hset
      have hf' := hf.setCell (p := ⟨g, k, none⟩) (fun _ => rfl) (.int .u64 550055)
      have hfz := hrk.free k
      by_cases hn : k < zs.length
      · have hcl := hrk.cell k (by rw [over_len _ _ hk]; exact hlt)
        clear hset hrk
        go_wp2
        go_roundw
        case rel => exact ⟨k + 1, by omega, rfl, by go_num, HR.out, hf'⟩
        case measure => simp [intOf]; omega
      · have hcl := hrk.cell k (by rw [over_len _ _ hk]; exact hlt)
        rw [over_get zs k hlt (by omega)] at hcl
        clear hset hrk
        go_wp2
        go_roundw
        case rel => exact ⟨k + 1, by omega, rfl, by go_num, HR.out, hf'⟩
        case measure => simp [intOf]; omega
    · go_wp2
      go_ret
      exact ⟨rfl, hf⟩
end Go.Proofs.YtbagcjlimdilpaaGreat
