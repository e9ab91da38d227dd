/- What is known of the objects that a walk finds. -/
import Derived.Test.YtekdicppkeldoaaGreatSpecK
namespace Go.Proofs.YtekdicppkeldoaaGreat

theorem walkF_mem {ws : List Int} {n f b : Nat} {o : Ob} (h : o ∈ (walkF ws n f b).1) : o.block < n ∧ b ≤ o.block ∧ slotAt ws o.block = some (some o) := by
  induction f generalizing b with
  | zero => simp [walkF] at h
  | succ f ih =>
    rw [walkF] at h
    split at h
    · rename_i hb
      split at h
      · rename_i o' ho
        have hs := slot_obs ho
        rcases List.mem_cons.1 h with rfl | h
        · rw [hs.1]; exact ⟨hb, Nat.le_refl _, ho⟩
        · have := ih h; exact ⟨this.1, by omega, this.2.2⟩
      · have := ih h; exact ⟨this.1, by omega, this.2.2⟩
      · have := ih h; exact ⟨this.1, by omega, this.2.2⟩
    · simp at h
theorem walkF_len (ws : List Int) (n f b : Nat) : (walkF ws n f b).1.length ≤ f ∧ (walkF ws n f b).2.length ≤ f := by
  induction f generalizing b with
  | zero => simp [walkF]
  | succ f ih =>
    rw [walkF]
    split
    · split
      · rename_i o _; have := ih (b + o.span); simp; omega
      · have := ih (b + 1); simp; omega
      · have := ih (b + 1); omega
    · simp
theorem walkF_bad {ws : List Int} {n f b p : Nat} (h : p ∈ (walkF ws n f b).2) : ∃ b', b' < n ∧ p = 106 + 8 * b' := by
  induction f generalizing b with
  | zero => simp [walkF] at h
  | succ f ih =>
    rw [walkF] at h
    split at h
    · rename_i hb
      split at h
      · exact ih h
      · rcases List.mem_cons.1 h with rfl | h
        · exact ⟨b, hb, rfl⟩
        · exact ih h
      · exact ih h
    · simp at h
theorem bads_lt {ws : List Int} {p : Nat} (hn : nblk ws.length ≠ 0) (h : p ∈ bads ws) : 106 ≤ p ∧ p < ws.length := by
  obtain ⟨b, hb, rfl⟩ := walkF_bad h
  have := (nblk_some hn).1
  omega
theorem objs_mem {ws : List Int} {o : Ob} (h : o ∈ objs ws) : o.block < nblk ws.length ∧ slotAt ws o.block = some (some o) := by
  have := walkF_mem h
  exact ⟨this.1, this.2.2⟩
theorem objs_in {ws : List Int} {o : Ob} (h : o ∈ objs ws) : 106 + 8 * (o.block + o.span) ≤ ws.length ∧ 1 ≤ o.span ∧ o.span ≤ 4 ∧ o.ptrs < 8 * o.span ∧ o.block < nblk ws.length := by
  obtain ⟨h1, h2⟩ := objs_mem h
  have := slot_obs h2
  exact ⟨this.2.2.2.2, this.2.1, this.2.2.1, this.2.2.2.1, h1⟩
theorem nblk_le (len : Nat) : nblk len ≤ 32 := by
  by_cases h : nblk len = 0
  · omega
  · exact (nblk_some h).2.2
theorem objs_len (ws : List Int) : (objs ws).length ≤ 32 := Nat.le_trans (walkF_len ws _ _ 0).1 (by have := nblk_le ws.length; omega)
theorem bads_len (ws : List Int) : (bads ws).length ≤ 32 := Nat.le_trans (walkF_len ws _ _ 0).2 (by have := nblk_le ws.length; omega)

end Go.Proofs.YtekdicppkeldoaaGreat
