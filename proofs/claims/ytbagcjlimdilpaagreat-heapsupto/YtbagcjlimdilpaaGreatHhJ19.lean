/- Texts that follow one another, joined. -/
import Derived.Test.YtbagcjlimdilpaaGreatHhJ18
import Derived.Test.YtbagcjlimdilpaaGreatHhJ15
/- A story in memory: a heap, what is in it, what was committed last. The walk of begun. -/
namespace Go.Proofs.YtbagcjlimdilpaaGreat
open Go.RowKit Go.Maps

/-- the cells of a story -/
def stArr (hb n : Nat) (vn vk : Value) (now ws : List Int) : Array Value := #[.pointer (some ⟨hb, 0, none⟩), .int .i64 (n : Int), vn, .int .i64 (wd now 3), .int .i64 (wd now 4), .int .i64 (wd now 5), .int .i64 (wd now 6), vk, .int .i64 (wd ws 3), .int .i64 (wd ws 4), .int .i64 (wd ws 5), .int .i64 (wd ws 6)]
/-- a story, with all that lies in memory of it -/
structure Sty (sb n hb tb cb mb g : Nat) (vs vn vk : Value) (un uk : List Value) (ws now : List Int) (sts : List St) (w : World) : Prop where
  blk : w.heap[sb]? = some (.cells (stArr hb n vn vk now ws) 39 (0, 0))
  ph : PH hb tb cb mb g vs ws now sts w
  hw : HW ws now
  tn : ThAt w vn (things now) un
  tk : ThAt w vk (things ws) uk
  n : nblk ws.length = n
  gn : ∀ u ∈ un, u.ownBlock ≠ some g
  gk : ∀ u ∈ uk, u.ownBlock ≠ some g
  nk : ∀ u ∈ un, ∀ u' ∈ uk, u.ownBlock ≠ u'.ownBlock
/-- its blocks -/
def Foot (sb hb tb cb mb g : Nat) (vs vn vk : Value) (un uk : List Value) (k : Nat) : Prop := k = sb ∨ k = hb ∨ k = tb ∨ k = cb ∨ k = mb ∨ k = g ∨ vs.ownBlock = some k ∨ ThB vn un k ∨ ThB vk uk k
namespace Sty
variable {sb n hb tb cb mb g : Nat} {vs vn vk : Value} {un uk : List Value} {ws now : List Int} {sts : List St} {w : World}
end Sty
/-- a story whose blocks lie in F -/
def Story (F : Nat → Prop) (sb n : Nat) (ws now : List Int) (sts : List St) (w : World) : Prop := ∃ hb tb cb mb g vs vn vk un uk, Sty sb n hb tb cb mb g vs vn vk un uk ws now sts w ∧ ∀ k, Foot sb hb tb cb mb g vs vn vk un uk k → F k
end Go.Proofs.YtbagcjlimdilpaaGreat
/- What a story's alloc leaves behind. -/
namespace Go.Proofs.YtbagcjlimdilpaaGreat
open Go.RowKit Go.Maps

theorem add_plain (g o j : Nat) : (⟨g, o, none⟩ : Addr).add j = ⟨g, o + j, none⟩ := by
  unfold Addr.add
  split
  · subst_vars; rfl
  · rfl
end Go.Proofs.YtbagcjlimdilpaaGreat
