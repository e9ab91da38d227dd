/- The walk of the law's 'image': one more image is kept, as a copy. -/
import Derived.Test.YtbagcjlimdilpaaGreatSuBookW
namespace Go.Proofs.YtbagcjlimdilpaaGreat
open Go.RowKit
attribute [local go_sem ↓] Go.wp_at_zero Go.wp_at_succ

theorem Tryz.info43 : (Tryz.prog.info? 43).map (fun i => (i.zero, i.size, i.bytes)) = some (some (.slice none 0 0), 1, 24) := by kernel_rfl

/-- which old blocks 'image' turns -/
def TurnedI (b : Nat) (vws : Value) (k : Nat) : Prop := k = b ∨ vws.ownBlock = some k

theorem own_fr {T : Nat → Prop} {w w' : World} {B : Nat} {v : Value} {zs : List Int} (h : Own B w v zs) (hf : Fr T w w') (hT : ∀ g cur, w.heap[g]? = some (.cells cur 50 (0, 0)) → ¬ T g) : Own B w' v zs := by
  refine hf.owns h (fun g hg => ?_)
  rcases h.2 with ⟨rfl, _⟩ | ⟨g', cap, cur, rfl, _, hh, _⟩
  · cases hg
  · simp [Value.ownBlock] at hg; subst hg; exact hT _ cur hh
theorem own_base {w : World} {B : Nat} {v : Value} {zs : List Int} (h : Own B w v zs) : Own 0 w v zs := by
  refine ⟨h.1, ?_⟩
  rcases h.2 with h | ⟨g, cap, cur, rfl, _, r⟩
  · exact .inl h
  · exact .inr ⟨g, cap, cur, rfl, Nat.zero_le _, r⟩

/-- the copy is made, at a step of a region that draws its order -/
theorem step_copied {W : World} {ad : Addr} {cap : Nat} {zs : List Int} (hr : RowU W (some ad) zs) (hp : 0 < zs.length) (hz : zs.length ≤ 1048576)
    {ops : Array Oper} {o : Oper} {a : Act} {w3 : World} {K : Act → World → Prop} {Q : Exit → Act → World → Prop} {E : Prop} (s x : Operand) (hgd : o.guard = none)
    (ho : o.op = .call { callee := .builtin .append, args := #[s, x], argTypes := #[43, 43] }) (hs : a.eval s = .slice (some ⟨W.heap.size, 0, none⟩) 0 0) (hx : a.eval x = .slice (some ad) zs.length cap)
    (hf : Fr New W w3) (hb : w3.heap[W.heap.size]? = some (.cells #[] 50 (0, 0)))
    (h : ∀ g c w', Own 0 w' (.slice (some ⟨g, 0, none⟩) zs.length c) zs → Fr New W w' → K (a.put o.dst (.slice (some ⟨g, 0, none⟩) zs.length c)) w') :
    if Region.wanted o (yielded ops a.tmps) = true then Oper.wp Tryz.prog o a w3 K Q else E := by
  obtain ⟨i0, hi, hz0, hz1, hz2⟩ := info_parts Tryz.info50
  have hown : w3.ownsRow 0 50 1 (.slice (some ⟨W.heap.size, 0, none⟩) 0 0) 0 [] := ⟨by simp, .inr ⟨W.heap.size, 0, #[], rfl, Nat.zero_le _, hb, Nat.le_refl _, by decide, by simp, by simp⟩⟩
  obtain ⟨ad', had, hn⟩ := news_row (rowU_fr hf hr (fun _ _ h => h)) (by simpa using hp)
  cases had
  refine step_append_lies w3 hgd s x 43 ho 0 50 i0 _ 1 8 Tryz.underlying43 hi hz0 hz1 hz2 rfl (by decide) _ 0 [] hs hown ad zs.length cap (zs.map (Value.int .u64)) hx (by simp) hn (ints_oneU zs) hp (by unfold maxLen; omega) (by omega) (Nat.zero_le _) _ rfl ?_
  intro g c w4 ho4 hg4 _ _
  have := h g c w4 (by simpa using ho4) (hf.grown hg4 (fun k hk hv => by simp [Value.ownBlock] at hv; omega))
  simpa using this

/-- behind the append to the images -/
structure LateI (W : World) (b n : Nat) (vws vhs vb vss vos : Value) (v : Value) (zs : List Int) (w6 : World) : Prop where
  bk : Wb w6 b vws vhs n vb vss vos
  own : Own 0 w6 v zs
  fr : Fr (TurnedI b vws) W w6

theorem step_image {W : World} {b n : Nat} {vws vhs vb vss vos : Value} {B nw : Nat} {xs : List Value} (hbk : Wb W b vws vhs n vb vss vos) (hws : W.ownsRow B 43 1 vws nw xs) (hB : B ≤ W.heap.size) (hnw : nw < 12)
    {v : Value} {zs : List Int} {w5 : World} (hf : Fr New W w5) (hv : Own 0 w5 v zs) (h1c : v.oneCell' = true) (N : Nat) (hb : w5.heap[N]? = some (.cells #[v] 43 (0, 0)))
    {ops : Array Oper} {o : Oper} {a : Act} {K : Act → World → Prop} {Q : Exit → Act → World → Prop} {E : Prop} (s x : Operand) (hgd : o.guard = none)
    (ho : o.op = .call { callee := .builtin .append, args := #[s, x], argTypes := #[80, 80] }) (hs : a.eval s = vws) (hx : a.eval x = .slice (some ⟨N, 0, none⟩) 1 1)
    (h : ∀ g c w', w'.ownsRow B 43 1 (.slice (some ⟨g, 0, none⟩) (nw + 1) c) (nw + 1) (xs ++ [v]) → LateI W b n vws vhs vb vss vos v zs w' → K (a.put o.dst (.slice (some ⟨g, 0, none⟩) (nw + 1) c)) w') :
    if Region.wanted o (yielded ops a.tmps) = true then Oper.wp Tryz.prog o a w5 K Q else E := by
  obtain ⟨i0, hi, hz0, hz1, hz2⟩ := info_parts Tryz.info43
  have hown := hf.owns hws (fun _ _ h => h)
  refine step_append_lies w5 hgd s x 80 ho B 43 i0 _ 1 24 Tryz.underlying80 hi hz0 hz1 hz2 rfl (by decide) vws nw xs hs hown ⟨N, 0, none⟩ 1 1 [v] hx rfl (World.news_of_block hb) (by simpa using h1c) (by decide) (by unfold maxLen; omega) (by omega) (by have := hf.size; omega) _ rfl ?_
  intro g c w6 ho6 hg6 _ _
  have hf6 : Fr (fun k => vws.ownBlock = some k) w5 w6 := (Fr.refl _ _).grown hg6 (fun k _ hk => hk)
  have hX : ∀ g cur t, t ≠ 43 → w5.heap[g]? = some (.cells cur t (0, 0)) → ¬ vws.ownBlock = some g := by
    intro g cur t ht hg hv
    rcases hown.2 with ⟨rfl, _⟩ | ⟨g', cap, cur', rfl, _, hh, _⟩
    · cases hv
    · simp [Value.ownBlock] at hv; subst hv
      rw [hh] at hg
      simp only [Option.some.injEq, Obj.cells.injEq] at hg
      exact ht hg.2.1.symm
  exact h g c w6 ho6 ⟨hf6.heap (hf.heap hbk id) (hX _ _ _ (by decide) (hf.heap hbk id)), own_fr hv hf6 (fun g cur hg => hX g cur _ (by decide) hg), ((Fr.refl _ _).same hf).trans hf6 (fun j _ hj => .inr hj)⟩

theorem LateI.last {W : World} {b n : Nat} {vws vhs vb vss vos v : Value} {zs : List Int} {w6 : World} (h : LateI W b n vws vhs vb vss vos v zs w6) {B nw : Nat} {vws' : Value} {xs : List Value} (ho : w6.ownsRow B 43 1 vws' nw xs) :
    Wb (w6.setCell ⟨b, 0, none⟩ vws') b vws' vhs n vb vss vos ∧ (w6.setCell ⟨b, 0, none⟩ vws').ownsRow B 43 1 vws' nw xs ∧ Own 0 (w6.setCell ⟨b, 0, none⟩ vws') v zs ∧ Fr (TurnedI b vws) W (w6.setCell ⟨b, 0, none⟩ vws') := by
  have hf : Fr (fun k => k = b) w6 (w6.setCell ⟨b, 0, none⟩ vws') := (Fr.refl (fun k => k = b) w6).setCell (p := ⟨b, 0, none⟩) (fun _ => rfl) _
  have hX : ∀ g cur t, t ≠ 88 → w6.heap[g]? = some (.cells cur t (0, 0)) → ¬ g = b := by
    rintro g cur t ht hg rfl
    rw [h.bk] at hg
    simp only [Option.some.injEq, Obj.cells.injEq] at hg
    exact ht hg.2.1.symm
  refine ⟨(heap_setCell_same w6 b 0 _ _ _ h.bk).trans (by simp), hf.owns ho ?_, own_fr h.own hf (fun g cur hg => hX g cur _ (by decide) hg), h.fr.setCell (fun _ => .inl rfl) _⟩
  intro g hg
  rcases ho.2 with ⟨rfl, _⟩ | ⟨g', cap, cur, rfl, _, hh, _⟩
  · cases hg
  · simp [Value.ownBlock] at hg; subst hg; exact hX _ _ _ (by decide) hh

theorem own_slice {w : World} {B : Nat} {e : TypeId} {size : Nat} {v : Value} {n : Nat} {xs : List Value} (h : w.ownsRow B e size v n xs) : ∃ a c, v = .slice a n c := by
  rcases h.2 with ⟨rfl, rfl⟩ | ⟨g, cap, cur, rfl, _⟩
  · exact ⟨_, _, rfl⟩
  · exact ⟨_, _, rfl⟩

set_option maxHeartbeats 1000000 in
set_option maxRecDepth 1000000 in
theorem image_any (b n : Nat) (vws vhs vb vss vos : Value) (ad : Addr) (cap : Nat) (zs : List Int) (B nw : Nat) (xs : List Value) (w : World)
    (hbk : Wb w b vws vhs n vb vss vos) (hws : w.ownsRow B 43 1 vws nw xs) (hB : B ≤ w.heap.size) (hnw : nw ≤ 12) (hr : RowU w (some ad) zs) (hp : 0 < zs.length) (hz : zs.length < 1000) :
    Calls Tryz.prog 89 #[.pointer (some ⟨b, 0, none⟩), .slice (some ad) zs.length cap] w fun e w' => e = .returned (.tuple #[]) ∧ ∃ vws' nw' xs', nw' ≤ 12 ∧
      Wb w' b vws' vhs n vb vss vos ∧ w'.ownsRow B 43 1 vws' nw' xs' ∧ Fr (TurnedI b vws) w w' := by
  obtain ⟨aw, cw, hvw⟩ := own_slice hws
  obtain ⟨hcb, hzb⟩ := block_cells hbk
  have hbW : b < w.heap.size := lt_of_block hbk
  by_cases h12 : nw < 12
  · have hd : decide ((nw : Int) < 12) = true := by simp; omega
    subst hvw
    go_enter Tryz.func89, Tryz.ntmps89
    go_wp2
    go_region_law (first
      | (refine step_copied (W := w) (cap := cap) hr hp (by omega) (.tmp 20) (.tmp 21) rfl rfl (by simp [Act.eval]) (by simp [Act.eval]) (by first | exact (Fr.refl New w).alloc _ | exact (Fr.refl New w).drew.alloc _) (by first | exact Go.Deep.blk_alloc_new w _ | exact Go.Deep.blk_alloc_new w.drew _) ?_; intro g c w4 ho4 hf4; obtain ⟨hc4, hz4⟩ := block_cells (hf4.heap hbk id); have hb4 := lt_of_block (hf4.heap hbk id))
      | (refine step_image hbk hws hB h12 (hf4.alloc _) (own_fr ho4 ((Fr.refl New _).alloc _) (fun _ _ _ h => h)) rfl w4.heap.size (Go.Deep.blk_alloc_new w4 _) (.tmp 19) (.tmp 23) rfl rfl (by simp [Act.eval]) (by simp [Act.eval]) ?_; intro g6 c6 w6 ho6 HL; obtain ⟨hc6, hf6⟩ := block_cells HL.bk))
    all_goals
      obtain ⟨b1, b2, _, b4⟩ := HL.last ho6
      go_end0
      exact ⟨rfl, _, _, _, by omega, b1, b2, b4⟩
  · have hd : decide ((nw : Int) < 12) = false := by simp; omega
    subst hvw
    go_enter Tryz.func89, Tryz.ntmps89
    go_wp2
    go_end0
    exact ⟨rfl, _, nw, xs, hnw, hbk, hws, Fr.refl _ _⟩
end Go.Proofs.YtbagcjlimdilpaaGreat
