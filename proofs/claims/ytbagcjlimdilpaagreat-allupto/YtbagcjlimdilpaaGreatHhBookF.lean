/- What the book's call 'words' does to memory, apart from its walk. -/
import Derived.Test.YtbagcjlimdilpaaGreatHhJ1
import Derived.ArgAppend
import Derived.Deep.AppendLies
namespace Go.Proofs.YtbagcjlimdilpaaGreat
open Go.RowKit

/-- the six cells of a World -/
abbrev Wb (w : World) (b : Nat) (vws vhs : Value) (n : Nat) (vb vss vos : Value) : Prop := w.heap[b]? = some (.cells #[vws, vhs, .int .i64 (n : Int), vb, vss, vos] 88 (0, 0))

/-- a list of words by its address: nil, or a row of its own -/
def LR (w : World) (ao : Option Addr) (zs : List Int) : Prop := (ao = none ∧ zs = []) ∨ ∃ g, ao = some ⟨g, 0, none⟩ ∧ Row w g zs
theorem LR.rowU {w : World} {ao : Option Addr} {zs : List Int} (h : LR w ao zs) : RowU w ao zs := by
  rcases h with ⟨rfl, rfl⟩ | ⟨g, rfl, hr⟩
  · exact rowU_nil _ _
  · exact hr.rowU
theorem LR.own {w : World} {ao : Option Addr} {zs : List Int} (h : LR w ao zs) (hm : zs.length ≤ maxLen) : Own 0 w (.slice ao zs.length zs.length) zs := by
  rcases h with ⟨rfl, rfl⟩ | ⟨g, rfl, hr⟩
  · exact World.ownsRow_nil ..
  · exact hr.own (Nat.zero_le _) hm
theorem LR.isNil {w : World} {ao : Option Addr} {zs : List Int} (h : LR w ao zs) (hn : ao = none) : zs.length = 0 ∧ zs.length = 0 := by
  rcases h with ⟨_, rfl⟩ | ⟨g, rfl, _⟩
  · exact ⟨rfl, rfl⟩
  · cases hn
theorem LR.olds {w : World} {ao : Option Addr} {zs : List Int} (h : LR w ao zs) : ∀ x, ao = some x → ∀ j u, (zs.map (Value.int .u64))[j]? = some u → w.cell? (x.add j) = some u := by
  intro x hx j u hu
  have hp : 0 < (zs.map (Value.int .u64)).length := by
    rcases Nat.lt_or_ge j (zs.map (Value.int .u64)).length with h | h
    · omega
    · rw [List.getElem?_eq_none h] at hu; cases hu
  obtain ⟨ad, had, h2⟩ := news_row h.rowU hp
  rw [hx] at had
  cases had
  exact h2 j u hu
theorem LR.fr {T : Nat → Prop} {w w' : World} {ao : Option Addr} {zs : List Int} (h : LR w ao zs) (hf : Fr T w w') (hn : ∀ g, ao = some ⟨g, 0, none⟩ → ¬ T g) : LR w' ao zs := by
  rcases h with h | ⟨g, rfl, hr⟩
  · exact .inl h
  · exact .inr ⟨g, rfl, hr.fr hf (hn g rfl)⟩

/-- the list v is full of m -/
def Full (w : World) (v : Value) (m : Int) : Prop := ∃ k, Own 0 w v (List.replicate k m)
/-- which block holds words -/
theorem Full.block {w : World} {v : Value} {m : Int} (h : Full w v m) {g : Nat} (hg : v.ownBlock = some g) : ∃ cur, w.heap[g]? = some (.cells cur 50 (0, 0)) := by
  obtain ⟨k, h⟩ := h
  rcases h.2 with ⟨rfl, _⟩ | ⟨g', cap, cur, rfl, _, hh, _⟩
  · cases hg
  · simp [Value.ownBlock] at hg; subst hg; exact ⟨cur, hh⟩
theorem Full.fr {T : Nat → Prop} {w w' : World} {v : Value} {m : Int} (h : Full w v m) (hf : Fr T w w') (hT : ∀ g cur, w.heap[g]? = some (.cells cur 50 (0, 0)) → ¬ T g) : Full w' v m := by
  obtain ⟨k, ho⟩ := h
  exact ⟨k, hf.owns ho (fun g hg => by obtain ⟨cur, hc⟩ := Full.block ⟨k, ho⟩ hg; exact hT g cur hc)⟩

/-- which old blocks 'words' turns -/
def Turned (b : Nat) (ao : Option Addr) (vb : Value) (k : Nat) : Prop := k = b ∨ ao = some ⟨k, 0, none⟩ ∨ vb.ownBlock = some k

/-- midway: the new entry lies at X -/
structure Mid (w : World) (b X n : Nat) (vws vhs vb vss vos : Value) (ao : Option Addr) (len : Nat) (m : Int) (B nb : Nat) (cells : List Value) (xs : Array Value) (fs : List Value) (wX : World) : Prop where
  x : wX.heap[X]? = some (.cells xs 146 (0, 0))
  bk : Wb wX b vws vhs n vb vss vos
  l : LR wX ao (List.replicate len m)
  own : wX.ownsRow B 146 5 vb nb cells
  fr : Fr (Turned b ao vb) w wX
  old : w.heap.size ≤ X
  lb : b < w.heap.size
  lv : ∀ g, vb.ownBlock = some g → g < w.heap.size
  full : ∀ v ∈ fs, Full wX v m

namespace Mid
variable {w : World} {b X n : Nat} {vws vhs vb vss vos : Value} {ao : Option Addr} {len : Nat} {m : Int} {B nb : Nat} {cells : List Value} {xs : Array Value} {fs : List Value} {wX : World}
end Mid

theorem full_app {w : World} {N : Nat} {v : Value} {m : Int} {n k : Nat} (h : w.ownsRow N 50 1 v (n + k) ((List.replicate n m).map (Value.int .u64) ++ (List.replicate k m).map (Value.int .u64))) : Full w v m := by
  refine ⟨n + k, ?_⟩
  rw [← List.map_append, List.replicate_append_replicate] at h
  rcases h with ⟨h1, h2 | ⟨g, cap, cur, rfl, _, r⟩⟩
  · exact ⟨by simp, .inl (by simpa using h2)⟩
  · exact ⟨by simp, .inr ⟨g, cap, cur, by simp, Nat.zero_le _, by simpa using r⟩⟩

end Go.Proofs.YtbagcjlimdilpaaGreat
