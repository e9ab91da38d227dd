/- The walk of the law's 'image', of words of whatever number: what is kept is a copy of them. -/
import Derived.Test.YtekdicppkeldoaaGreatImgW
import Derived.Test.YtekdicppkeldoaaGreatStateF
import Derived.Deep.RegionLaw
namespace Go.Proofs.YtekdicppkeldoaaGreat
open Go.RowKit
attribute [local go_sem ↓] Go.wp_at_zero Go.wp_at_succ

theorem own_empty {w : World} {g : Nat} (hb : w.heap[g]? = some (.cells #[] 36 (0, 0))) : Own 0 w (.slice (some ⟨g, 0, none⟩) 0 0) [] :=
  ⟨by simp, .inr ⟨g, 0, #[], rfl, Nat.zero_le _, hb, Nat.le_refl _, by decide, by simp, by simp⟩⟩

/-- nothing is copied, at a step of a region that draws its order -/
theorem step_copied0 {W : World} {ad : Addr} {cap : Nat}
    {ops : Array Oper} {o : Oper} {a : Act} {w3 : World} {K : Act → World → Prop} {Q : Exit → Act → World → Prop} {E : Prop} (s x : Operand) (hgd : o.guard = none)
    (ho : o.op = .call { callee := .builtin .append, args := #[s, x], argTypes := #[37, 37] }) (hs : a.eval s = .slice (some ⟨W.heap.size, 0, none⟩) 0 0) (hx : a.eval x = .slice (some ad) 0 cap)
    (hf : Fr New W w3) (hb : w3.heap[W.heap.size]? = some (.cells #[] 36 (0, 0)))
    (h : ∀ g c w', Own 0 w' (.slice (some ⟨g, 0, none⟩) 0 c) [] → Fr New W w' → K (a.put o.dst (.slice (some ⟨g, 0, none⟩) 0 c)) w') :
    if Region.wanted o (yielded ops a.tmps) = true then Oper.wp Tryz.prog o a w3 K Q else E := by
  obtain ⟨i0, hi, hz0, hz1, hz2⟩ := info_parts Tryz.info36
  refine step_append_room hgd s x 37 ho 36 i0 1 Tryz.underlying37 hi hz1 W.heap.size 0 0 0 hs ad 0 cap [] hx rfl (fun j u h => by simp at h) (fun u h => by simp at h) (Nat.le_refl _) (fun j h => by simp at h) ?_
  exact h W.heap.size 0 w3 (own_empty hb) hf
/-- what 'image' leaves -/
def Kept (zs : List Int) (xs xs' : List Value) (w' : World) : Prop := xs' = xs ∨ (zs.length < 1000 ∧ ∃ v', xs' = xs ++ [v'] ∧ Own 0 w' v' zs)

set_option maxHeartbeats 2000000 in
set_option maxRecDepth 1000000 in
theorem image2_any (b n : Nat) (vws vhs vb vss vos : Value) (ad : Addr) (cap : Nat) (zs : List Int) (B nw : Nat) (xs : List Value) (w : World)
    (hbk : Wb w b vws vhs n vb vss vos) (hws : w.ownsRow B 37 1 vws nw xs) (hB : B ≤ w.heap.size) (hnw : nw ≤ 12) (hr : RowU w (some ad) zs) (hz : zs.length ≤ 2097152) :
    Calls Tryz.prog 34 #[.pointer (some ⟨b, 0, none⟩), .slice (some ad) zs.length cap] w fun e w' => e = .returned (.tuple #[]) ∧ ∃ vws' nw' xs', nw' ≤ 12 ∧ nw ≤ nw' ∧
      Wb w' b vws' vhs n vb vss vos ∧ w'.ownsRow B 37 1 vws' nw' xs' ∧ Kept zs xs xs' w' ∧ Fr (TurnedI b vws) w w' := by
  obtain ⟨aw, cw, hvw⟩ := own_slice hws
  obtain ⟨hcb, hzb⟩ := block_cells hbk
  have hbW : b < w.heap.size := lt_of_block hbk
  by_cases h12 : nw < 12
  · have hd : decide ((nw : Int) < 12) = true := by simp; omega
    by_cases h1000 : zs.length < 1000
    · by_cases hp : 0 < zs.length
      · subst hvw
        go_enter Tryz.func34, Tryz.ntmps34
        go_wp2
        go_region_law (first
          | (refine step_copied (W := w) (cap := cap) hr hp (by omega) (.tmp 20) (.tmp 21) rfl rfl (by simp [Act.eval]) (by simp [Act.eval]) (by first | exact (Fr.refl New w).alloc _ | exact (Fr.refl New w).drew.alloc _) (by first | exact Go.Deep.blk_alloc_new w _ | exact Go.Deep.blk_alloc_new w.drew _) ?_; intro g c w4 ho4 hf4; obtain ⟨hc4, hz4⟩ := block_cells (hf4.heap hbk id); have hb4 := lt_of_block (hf4.heap hbk id))
          | (refine step_image hbk hws hB h12 (hf4.alloc _) (own_fr ho4 ((Fr.refl New _).alloc _) (fun _ _ _ h => h)) rfl w4.heap.size (Go.Deep.blk_alloc_new w4 _) (.tmp 19) (.tmp 23) rfl rfl (by simp [Act.eval]) (by simp [Act.eval]) ?_; intro g6 c6 w6 ho6 HL; obtain ⟨hc6, hf6⟩ := block_cells HL.bk))
        all_goals
          obtain ⟨b1, b2, b3, b4⟩ := HL.last ho6
          go_end0
          exact ⟨rfl, _, _, _, by omega, Nat.le_succ _, b1, b2, .inr ⟨h1000, _, rfl, b3⟩, b4⟩
      · obtain rfl : zs = [] := by cases zs with | nil => rfl | cons a r => simp at hp
        subst hvw
        go_enter Tryz.func34, Tryz.ntmps34
        go_wp2
        go_region_law (first
          | (refine step_copied0 (W := w) (ad := ad) (cap := cap) (.tmp 20) (.tmp 21) rfl rfl (by simp [Act.eval]) (by simp [Act.eval]) (by first | exact (Fr.refl New w).alloc _ | exact (Fr.refl New w).drew.alloc _) (by first | exact Go.Deep.blk_alloc_new w _ | exact Go.Deep.blk_alloc_new w.drew _) ?_; intro g c w4 ho4 hf4; obtain ⟨hc4, hz4⟩ := block_cells (hf4.heap hbk id); have hb4 := lt_of_block (hf4.heap hbk id))
          | (refine step_image hbk hws hB h12 (hf4.alloc _) (own_fr ho4 ((Fr.refl New _).alloc _) (fun _ _ _ h => h)) rfl w4.heap.size (Go.Deep.blk_alloc_new w4 _) (.tmp 19) (.tmp 23) rfl rfl (by simp [Act.eval]) (by simp [Act.eval]) ?_; intro g6 c6 w6 ho6 HL; obtain ⟨hc6, hf6⟩ := block_cells HL.bk))
        all_goals
          obtain ⟨b1, b2, b3, b4⟩ := HL.last ho6
          go_end0
          exact ⟨rfl, _, _, _, by omega, Nat.le_succ _, b1, b2, .inr ⟨h1000, _, rfl, b3⟩, b4⟩
    · subst hvw
      have hd2 : decide ((zs.length : Int) < 1000) = false := by simp; omega
      go_enter Tryz.func34, Tryz.ntmps34
      go_wp2
      go_end0
      exact ⟨rfl, _, nw, xs, hnw, Nat.le_refl _, hbk, hws, .inl rfl, Fr.refl _ _⟩
  · have hd : decide ((nw : Int) < 12) = false := by simp; omega
    subst hvw
    go_enter Tryz.func34, Tryz.ntmps34
    go_wp2
    go_end0
    exact ⟨rfl, _, nw, xs, hnw, Nat.le_refl _, hbk, hws, .inl rfl, Fr.refl _ _⟩
end Go.Proofs.YtekdicppkeldoaaGreat
