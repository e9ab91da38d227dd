/- Texts that follow one another, joined. -/
import Derived.Test.YtbagcjlimdilpabGreatKtJ6
import Derived.Deep.RegionHeld3
import Derived.Test.YtbagcjlimdilpabGreatKtJ0
/- Walks of the document's Read, Root, SetRoot. -/
namespace Go.Proofs.YtbagcjlimdilpabGreat
open Go.RowKit

/-- what Read tells -/
def readS (now : List Int) (n i : Int) : Int × Int := match idx (objs now) n with
  | none => (0, 9)
  | some k => if i < 0 ∨ 8 * (((objs now).getD k ⟨0, 0, 0⟩).span : Int) - 1 ≤ i then (0, 1) else (wd now (pl ((objs now).getD k ⟨0, 0, 0⟩) i.toNat), 0)
/-- what Root tells -/
def rootS (now : List Int) (i : Int) : Int × Int := if i < 0 ∨ 4 ≤ i then (0, 1) else (wrap64 (wd now (3 + i.toNat)), 0)
/-- what SetRoot makes -/
def setRootS (now : List Int) (i n : Int) : List Int × Int := if i < 0 ∨ 4 ≤ i then (now, 1) else if n ≠ 0 ∧ idx (objs now) n = none then (now, 9) else (now.set (3 + i.toNat) n, 0)

end Go.Proofs.YtbagcjlimdilpabGreat

/- The walk of the document's Alloc. -/
namespace Go.Proofs.YtbagcjlimdilpabGreat
open Go.RowKit

/-- s blocks from b on are free -/
def FreeRow (l : List Ob) (n s b : Nat) : Prop := b + s ≤ n ∧ ∀ o ∈ l, o.block + o.span ≤ b ∨ b + s ≤ o.block
/-- the places of s blocks from b on -/
def blockZ (b s q : Nat) : Prop := 106 + 8 * b ≤ q ∧ q < 106 + 8 * b + s
def argOk (s p : Int) : Prop := 1 ≤ s ∧ s ≤ 4 ∧ 0 ≤ p ∧ p ≤ 8 * s - 1
/-- what Alloc makes -/
def AllocIs (now : List Int) (s p : Int) (r : List Int) (h c : Int) : Prop :=
  (¬ argOk s p ∧ r = now ∧ h = 0 ∧ c = 1) ∨
  (argOk s p ∧ (∀ b, ¬ FreeRow (objs now) (nblk now.length) s.toNat b) ∧ r = now ∧ h = 0 ∧ c = 11) ∨
  (argOk s p ∧ ∃ b z, FreeRow (objs now) (nblk now.length) s.toNat b ∧ (∀ b', b' < b → ¬ FreeRow (objs now) (nblk now.length) s.toNat b') ∧ Zeroed now z (blockZ b (8 * s.toNat)) ∧ r = z.set (106 + 8 * b) (1000000 + 100 * s + p) ∧ h = ((b + 1 : Nat) : Int) ∧ c = 0)
theorem alloc_one {now r r' : List Int} {s p h h' c c' : Int} (a : AllocIs now s p r h c) (a' : AllocIs now s p r' h' c') : r = r' ∧ h = h' ∧ c = c' := by
  rcases a with ⟨h1, rfl, rfl, rfl⟩ | ⟨h1, h2, rfl, rfl, rfl⟩ | ⟨h1, b, z, h2, h3, h4, rfl, rfl, rfl⟩
  · rcases a' with ⟨_, rfl, rfl, rfl⟩ | ⟨g1, _⟩ | ⟨g1, _⟩
    · exact ⟨rfl, rfl, rfl⟩
    · exact absurd g1 h1
    · exact absurd g1 h1
  · rcases a' with ⟨g1, _⟩ | ⟨_, _, rfl, rfl, rfl⟩ | ⟨_, b', _, g2, _⟩
    · exact absurd h1 g1
    · exact ⟨rfl, rfl, rfl⟩
    · exact absurd g2 (h2 b')
  · rcases a' with ⟨g1, _⟩ | ⟨_, g2, _⟩ | ⟨_, b', z', g2, g3, g4, rfl, rfl, rfl⟩
    · exact absurd h1 g1
    · exact absurd h2 (g2 b)
    · have e : b = b' := by
        rcases Nat.lt_or_ge b b' with h | h
        · exact absurd h2 (g3 b h)
        · rcases Nat.lt_or_ge b' b with h' | h'
          · exact absurd g2 (h3 b' h')
          · omega
      subst e
      obtain rfl := h4.one g4
      exact ⟨rfl, rfl, rfl⟩
theorem blockZ_zero (b q : Nat) : ¬ blockZ b 0 q := fun h => by unfold blockZ at h; omega
theorem blockZ_succ (b s q : Nat) : (blockZ b s q ∨ q = 106 + 8 * b + s) ↔ blockZ b (s + 1) q := by unfold blockZ; omega

end Go.Proofs.YtbagcjlimdilpabGreat

/- The walk of the document's Free. -/
namespace Go.Proofs.YtbagcjlimdilpabGreat
open Go.RowKit

/-- a root or a pointer holds n -/
def HeldBy (now : List Int) (l : List Ob) (n : Int) : Prop := (∃ r, r < 4 ∧ wd now (3 + r) = n) ∨ ∃ i, ∃ hi : i < l.length, ∃ p, p < (l[i]).ptrs ∧ wd now (pl l[i] p) = n
/-- what Free makes -/
def FreeIs (now : List Int) (n : Int) (r : List Int) (c : Int) : Prop :=
  (idx (objs now) n = none ∧ r = now ∧ c = 9) ∨ (idx (objs now) n ≠ none ∧ HeldBy now (objs now) n ∧ r = now ∧ c = 10) ∨
  (∃ k, ∃ hk : k < (objs now).length, idx (objs now) n = some k ∧ ¬ HeldBy now (objs now) n ∧ Zeroed now r (leakZ1 (objs now)[k] ((objs now)[k]).span) ∧ c = 0)
theorem free_one {now r r' : List Int} {n c c' : Int} (h : FreeIs now n r c) (h' : FreeIs now n r' c') : r = r' ∧ c = c' := by
  rcases h with ⟨h1, rfl, rfl⟩ | ⟨h1, h2, rfl, rfl⟩ | ⟨k, hk, h1, h2, h3, rfl⟩
  · rcases h' with ⟨_, rfl, rfl⟩ | ⟨g1, _⟩ | ⟨k', _, g1, _⟩
    · exact ⟨rfl, rfl⟩
    · exact absurd h1 g1
    · rw [h1] at g1; cases g1
  · rcases h' with ⟨g1, _⟩ | ⟨_, _, rfl, rfl⟩ | ⟨k', _, _, g2, _⟩
    · exact absurd g1 h1
    · exact ⟨rfl, rfl⟩
    · exact absurd h2 g2
  · rcases h' with ⟨g1, _⟩ | ⟨_, g2, _⟩ | ⟨k', hk', g1, _, g3, rfl⟩
    · rw [h1] at g1; cases g1
    · exact absurd g2 h2
    · rw [h1] at g1
      cases g1
      exact ⟨h3.one g3, rfl⟩

end Go.Proofs.YtbagcjlimdilpabGreat

/- The walk of the document's Write. -/
namespace Go.Proofs.YtbagcjlimdilpabGreat
open Go.RowKit

/-- what Write makes -/
def writeS (now : List Int) (n i v : Int) : List Int × Int := match idx (objs now) n with
  | none => (now, 9)
  | some k => if i < 0 ∨ 8 * (((objs now).getD k ⟨0, 0, 0⟩).span : Int) - 1 ≤ i then (now, 1)
    else if i < ((objs now).getD k ⟨0, 0, 0⟩).ptrs ∧ v ≠ 0 ∧ idx (objs now) v = none then (now, 7) else (now.set (pl ((objs now).getD k ⟨0, 0, 0⟩) i.toNat) v, 0)

end Go.Proofs.YtbagcjlimdilpabGreat

