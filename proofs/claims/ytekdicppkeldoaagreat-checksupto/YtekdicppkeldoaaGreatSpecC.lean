/- The document's Check, as mathematics over words: blocks, headers, objects, what is reached. No program is named here. -/
import Derived.Test.YtekdicppkeldoaaGreatSumM
namespace Go.Proofs.YtekdicppkeldoaaGreat

/-- the i-th word -/
def wd (ws : List Int) (i : Nat) : Int := ws.getD i 0

/-- how many blocks an image of so many words has; 0: it is none -/
def nblk (len : Nat) : Nat := if 114 ≤ len ∧ len ≤ 362 ∧ (len - 106) % 8 = 0 then (len - 106) / 8 else 0
theorem nblk_some {len : Nat} (h : nblk len ≠ 0) : len = 106 + 8 * nblk len ∧ 1 ≤ nblk len ∧ nblk len ≤ 32 := by
  unfold nblk at *
  split at h
  · rename_i hh
    rw [if_pos hh]
    omega
  · exact absurd rfl h
theorem nblk_mk (b : Nat) (h1 : 1 ≤ b) (h2 : b ≤ 32) : nblk (106 + 8 * b) = b := by
  unfold nblk
  rw [if_pos (by omega)]
  omega
theorem nblk_none {len : Nat} (h : nblk len = 0) (b : Nat) (h1 : 1 ≤ b) (h2 : b ≤ 32) : len ≠ 106 + 8 * b := by
  rintro rfl
  rw [nblk_mk b h1 h2] at h
  omega

/-- an object: its first block, its span, its pointers -/
structure Ob where
  block : Nat
  span : Nat
  ptrs : Nat

/-- a header of that span and so many pointers, at block b of an image of len words -/
def Hdr (len b : Nat) (h : Int) (s p : Nat) : Prop := h = 1000000 + 100 * (s : Int) + (p : Int) ∧ 106 + 8 * (b + s) ≤ len

def spanOf (h : Int) : Nat := ((h - 1000000) / 100).toNat
def ptrsOf (h : Int) : Nat := ((h - 1000000) % 100).toNat
def okHdr (len b : Nat) (h : Int) : Prop := 1000100 ≤ h ∧ h < 1000500 ∧ ptrsOf h < 8 * spanOf h ∧ 106 + 8 * (b + spanOf h) ≤ len
/-- the same, told -/
def okB (len b : Nat) (h : Int) : Bool := decide (1000100 ≤ h) && decide (h < 1000500) && decide (ptrsOf h < 8 * spanOf h) && decide (106 + 8 * (b + spanOf h) ≤ len)
theorem okB_iff {len b : Nat} {h : Int} : okB len b h = true ↔ okHdr len b h := by
  unfold okB okHdr
  simp only [Bool.and_eq_true, decide_eq_true_eq]
  exact ⟨fun ⟨⟨⟨a, b⟩, c⟩, d⟩ => ⟨a, b, c, d⟩, fun ⟨a, b, c, d⟩ => ⟨⟨⟨a, b⟩, c⟩, d⟩⟩
theorem hdr_ok {len b s p : Nat} {h : Int} (hh : Hdr len b h s p) (h1 : 1 ≤ s) (h4 : s ≤ 4) (hp : p < 8 * s) : okHdr len b h ∧ spanOf h = s ∧ ptrsOf h = p := by
  obtain ⟨rfl, hl⟩ := hh
  have e1 : spanOf (1000000 + 100 * (s : Int) + (p : Int)) = s := by unfold spanOf; omega
  have e2 : ptrsOf (1000000 + 100 * (s : Int) + (p : Int)) = p := by unfold ptrsOf; omega
  refine ⟨⟨by omega, by omega, ?_, ?_⟩, e1, e2⟩
  · rw [e1, e2]; exact hp
  · rw [e1]; exact hl
theorem ok_hdr {len b : Nat} {h : Int} (hh : okHdr len b h) : Hdr len b h (spanOf h) (ptrsOf h) ∧ 1 ≤ spanOf h ∧ spanOf h ≤ 4 ∧ ptrsOf h < 8 * spanOf h := by
  obtain ⟨h1, h2, h3, h4⟩ := hh
  refine ⟨⟨?_, h4⟩, ?_, ?_, h3⟩
  · unfold spanOf ptrsOf; omega
  · unfold spanOf; omega
  · unfold spanOf; omega

/-- what stands at a block: nothing; an object; a wrong header -/
def slotAt (ws : List Int) (b : Nat) : Option (Option Ob) :=
  if wd ws (106 + 8 * b) = 0 then none
  else if okB ws.length b (wd ws (106 + 8 * b)) then some (some ⟨b, spanOf (wd ws (106 + 8 * b)), ptrsOf (wd ws (106 + 8 * b))⟩)
  else some none
theorem slot_free {ws : List Int} {b : Nat} (h : wd ws (106 + 8 * b) = 0) : slotAt ws b = none := by unfold slotAt; rw [if_pos h]
theorem slot_ob {ws : List Int} {b s p : Nat} (hh : Hdr ws.length b (wd ws (106 + 8 * b)) s p) (h1 : 1 ≤ s) (h4 : s ≤ 4) (hp : p < 8 * s) : slotAt ws b = some (some ⟨b, s, p⟩) := by
  obtain ⟨h, e1, e2⟩ := hdr_ok hh h1 h4 hp
  unfold slotAt
  rw [if_neg (by have := h.1; omega), if_pos (okB_iff.2 h), e1, e2]
theorem slot_bad {ws : List Int} {b : Nat} (h0 : wd ws (106 + 8 * b) ≠ 0) (h : ∀ s p, 1 ≤ s → s ≤ 4 → p < 8 * s → ¬ Hdr ws.length b (wd ws (106 + 8 * b)) s p) : slotAt ws b = some none := by
  unfold slotAt
  rw [if_neg h0, if_neg]
  intro hk
  obtain ⟨a, b, c, d⟩ := ok_hdr (okB_iff.1 hk)
  exact h _ _ b c d a
theorem slot_obs {ws : List Int} {b : Nat} {o : Ob} (h : slotAt ws b = some (some o)) : o.block = b ∧ 1 ≤ o.span ∧ o.span ≤ 4 ∧ o.ptrs < 8 * o.span ∧ 106 + 8 * (b + o.span) ≤ ws.length := by
  unfold slotAt at h
  split at h
  · cases h
  · split at h
    · rename_i hk
      obtain ⟨a, b', c, d⟩ := ok_hdr (okB_iff.1 hk)
      cases h
      exact ⟨rfl, b', c, d, a.2⟩
    · cases h

/-- the objects and the places of wrong headers, from block b on; n: how many blocks there are; f: so many are looked at -/
def walkF (ws : List Int) (n : Nat) : Nat → Nat → List Ob × List Nat
  | 0, _ => ([], [])
  | f + 1, b =>
    if b < n then
      match slotAt ws b with
      | some (some o) => (o :: (walkF ws n f (b + o.span)).1, (walkF ws n f (b + o.span)).2)
      | some none => ((walkF ws n f (b + 1)).1, (106 + 8 * b) :: (walkF ws n f (b + 1)).2)
      | none => walkF ws n f (b + 1)
    else ([], [])
theorem walkF_end (ws : List Int) (n f b : Nat) (h : n ≤ b) : walkF ws n f b = ([], []) := by
  cases f with
  | zero => rfl
  | succ f => rw [walkF, if_neg (by omega)]
theorem walkF_more (ws : List Int) (n f b : Nat) (h : n - b ≤ f) : walkF ws n f b = walkF ws n (n - b) b := by
  induction f using Nat.strongRecOn generalizing b with
  | ind f ih =>
    by_cases hb : b < n
    · obtain ⟨f', rfl⟩ : ∃ f', f = f' + 1 := ⟨f - 1, by omega⟩
      obtain ⟨m, hm⟩ : ∃ m, n - b = m + 1 := ⟨n - b - 1, by omega⟩
      rw [hm, walkF, walkF, if_pos hb, if_pos hb]
      have key : ∀ c, b < c → walkF ws n f' c = walkF ws n m c := by
        intro c hc
        by_cases hcn : n ≤ c
        · rw [walkF_end ws n f' c hcn, walkF_end ws n m c hcn]
        · rw [ih f' (by omega) c (by omega)]
          rcases Nat.lt_or_ge m (f' + 1) with hlt | hge
          · exact (ih m (by omega) c (by omega)).symm
          · omega
      split
      · rename_i o ho
        have := (slot_obs ho).2.1
        rw [key (b + o.span) (by omega)]
      · rw [key (b + 1) (by omega)]
      · rw [key (b + 1) (by omega)]
    · rw [walkF_end ws n f b (by omega), walkF_end ws n _ b (by omega)]
def walkS (ws : List Int) (n b : Nat) : List Ob × List Nat := walkF ws n (n - b) b
def objs (ws : List Int) : List Ob := (walkS ws (nblk ws.length) 0).1
def bads (ws : List Int) : List Nat := (walkS ws (nblk ws.length) 0).2

theorem walk_step {ws : List Int} {n b : Nat} (h : b < n) : walkS ws n b = match slotAt ws b with
      | some (some o) => (o :: (walkS ws n (b + o.span)).1, (walkS ws n (b + o.span)).2)
      | some none => ((walkS ws n (b + 1)).1, (106 + 8 * b) :: (walkS ws n (b + 1)).2)
      | none => walkS ws n (b + 1) := by
  unfold walkS
  obtain ⟨m, hm⟩ : ∃ m, n - b = m + 1 := ⟨n - b - 1, by omega⟩
  rw [hm, walkF, if_pos h]
  split
  · rename_i o ho
    have := (slot_obs ho).2.1
    rw [walkF_more ws n m (b + o.span) (by omega)]
  · rw [walkF_more ws n m (b + 1) (by omega)]
  · rw [walkF_more ws n m (b + 1) (by omega)]
theorem walk_ob {ws : List Int} {n b : Nat} {o : Ob} (h : b < n) (hs : slotAt ws b = some (some o)) : walkS ws n b = (o :: (walkS ws n (b + o.span)).1, (walkS ws n (b + o.span)).2) := by
  rw [walk_step h, hs]
theorem walk_bad {ws : List Int} {n b : Nat} (h : b < n) (hs : slotAt ws b = some none) : walkS ws n b = ((walkS ws n (b + 1)).1, (106 + 8 * b) :: (walkS ws n (b + 1)).2) := by
  rw [walk_step h, hs]
theorem walk_free {ws : List Int} {n b : Nat} (h : b < n) (hs : slotAt ws b = none) : walkS ws n b = walkS ws n (b + 1) := by
  rw [walk_step h, hs]
theorem walk_end {ws : List Int} {n b : Nat} (h : ¬ b < n) : walkS ws n b = ([], []) := by
  unfold walkS; exact walkF_end ws n _ b (by omega)

end Go.Proofs.YtekdicppkeldoaaGreat
