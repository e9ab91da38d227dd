/- Mathematics of the program's Repair: objects behind the mending of wrong headers; what is reached behind the mending of roots. -/
import Derived.Test.YtekdicppkeldoaaGreatSpecP
namespace Go.Proofs.YtekdicppkeldoaaGreat

theorem slot_same {ws w2 : List Int} {b : Nat} (hl : w2.length = ws.length) (hw : wd w2 (106 + 8 * b) = wd ws (106 + 8 * b)) : slotAt w2 b = slotAt ws b := by
  unfold slotAt
  rw [hw, hl]
theorem walkF_zero {ws w2 : List Int} {Z : Nat → Prop} (h : Zeroed ws w2 Z) (hZ : ∀ b, Z (106 + 8 * b) → slotAt ws b = some none) {n : Nat} : ∀ f b, (∀ q ∈ (walkF ws n f b).2, Z q) → (walkF w2 n f b).1 = (walkF ws n f b).1
  | 0, _, _ => rfl
  | f + 1, b, hq => by
    rw [walkF] at hq
    rw [walkF, walkF]
    by_cases hb : b < n
    · rw [if_pos hb] at hq
      rw [if_pos hb, if_pos hb]
      rcases hs : slotAt ws b with _ | _ | o
      · rw [hs] at hq
        rw [slot_same h.len (h.no _ (fun hz => by rw [hZ b hz] at hs; cases hs)), hs]
        exact walkF_zero h hZ f (b + 1) hq
      · rw [hs] at hq
        have hz : wd w2 (106 + 8 * b) = 0 := h.yes _ (hq _ (by simp))
        rw [slot_free hz]
        exact walkF_zero h hZ f (b + 1) (fun q hq' => hq q (by simp [hq']))
      · rw [hs] at hq
        rw [slot_same h.len (h.no _ (fun hz => by rw [hZ b hz] at hs; cases hs)), hs]
        simp only
        rw [walkF_zero h hZ f (b + o.span) hq]
    · rw [if_neg hb, if_neg hb]
theorem walkF_bad2 {ws : List Int} {n f b p : Nat} (h : p ∈ (walkF ws n f b).2) : ∃ b', p = 106 + 8 * b' ∧ slotAt ws b' = some none := by
  induction f generalizing b with
  | zero => simp [walkF] at h
  | succ f ih =>
    rw [walkF] at h
    split at h
    · split at h
      · exact ih h
      · rename_i hs
        rcases List.mem_cons.1 h with rfl | h
        · exact ⟨b, rfl, hs⟩
        · exact ih h
      · exact ih h
    · simp at h
/-- the objects stay, where wrong headers become 0 -/
theorem objs_zeroed {ws w2 : List Int} (h : Zeroed ws w2 (fun q => q ∈ bads ws)) : objs w2 = objs ws := by
  unfold objs walkS
  rw [h.len]
  refine walkF_zero h (fun b hb => ?_) _ _ (fun q hq => hq)
  obtain ⟨b', e, hs⟩ := walkF_bad2 hb
  obtain rfl : b = b' := by omega
  exact hs

theorem closed_roots {w2 cur : List Int} {l : List Ob} (h : Zeroed w2 cur (rootZ w2 l 4)) (S : Nat → Prop) : Closed cur l S ↔ Closed w2 l S := by
  have hroot : ∀ r, idx l (wd cur (3 + r)) = idx l (wd w2 (3 + r)) := fun r => by
    by_cases hz : rootZ w2 l 4 (3 + r)
    · rw [h.yes _ hz, idx_zero, hz.2.2]
    · rw [h.no _ hz]
  have hptr : ∀ i (hi : i < l.length) p, wd cur (pl l[i] p) = wd w2 (pl l[i] p) := fun i hi p => h.no _ (fun hz => by
    have := hz.2.1
    unfold pl at this
    omega)
  unfold Closed
  constructor
  · rintro ⟨h1, h2⟩
    exact ⟨fun r hr k hk => h1 r hr k (by rw [hroot]; exact hk), fun i hi p k hS hp hk => h2 i hi p k hS hp (by rw [hptr]; exact hk)⟩
  · rintro ⟨h1, h2⟩
    exact ⟨fun r hr k hk => h1 r hr k (by rw [← hroot]; exact hk), fun i hi p k hS hp hk => h2 i hi p k hS hp (by rw [← hptr i hi]; exact hk)⟩
theorem reach_roots {w2 cur : List Int} {l : List Ob} (h : Zeroed w2 cur (rootZ w2 l 4)) (i : Nat) : Reach cur l i ↔ Reach w2 l i :=
  ⟨fun hr S hS => hr S ((closed_roots h S).2 hS), fun hr S hS => hr S ((closed_roots h S).1 hS)⟩
end Go.Proofs.YtekdicppkeldoaaGreat
