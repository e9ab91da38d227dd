/- Mathematics of a row of blocks without wrong headers: its objects as a tiling; where room is found. -/
import Derived.Test.YtbagcjlimdilpabGreatKtJ0
namespace Go.Proofs.YtbagcjlimdilpabGreat

/-- from block b on: the objects are l, and all else is free -/
structure TilesF (ws : List Int) (n b : Nat) (l : List Ob) : Prop where
  apart : l.Pairwise (fun o o' => o.block + o.span ≤ o'.block)
  fits : ∀ o ∈ l, b ≤ o.block ∧ 1 ≤ o.span ∧ o.span ≤ 4 ∧ o.ptrs < 8 * o.span ∧ o.block + o.span ≤ n ∧ wd ws (106 + 8 * o.block) = 1000000 + 100 * (o.span : Int) + (o.ptrs : Int)
  free : ∀ c, b ≤ c → c < n → (∀ o ∈ l, ¬ (o.block ≤ c ∧ c < o.block + o.span)) → wd ws (106 + 8 * c) = 0
theorem TilesF.slot {ws : List Int} {n b : Nat} {l : List Ob} (h : TilesF ws n b l) (hl : ws.length = 106 + 8 * n) {o : Ob} (ho : o ∈ l) : slotAt ws o.block = some (some o) := by
  obtain ⟨_, h1, h2, h3, h4, h5⟩ := h.fits o ho
  exact slot_ob ⟨h5, by omega⟩ h1 h2 h3
theorem tiles_walk {ws : List Int} {n : Nat} (hl : ws.length = 106 + 8 * n) : ∀ (f b : Nat) (l : List Ob), n - b ≤ f → TilesF ws n b l → walkS ws n b = (l, []) := by
  intro f
  induction f with
  | zero =>
    intro b l hf h
    rw [walk_end (by omega)]
    cases l with
    | nil => rfl
    | cons o l =>
      obtain ⟨h0, h1, _, _, h4, _⟩ := h.fits o (by simp)
      omega
  | succ f ih =>
    intro b l hf h
    by_cases hb : b < n
    · by_cases hc : ∃ o ∈ l, o.block ≤ b ∧ b < o.block + o.span
      · obtain ⟨o, ho, h1, h2⟩ := hc
        have hob : o.block = b := by have := (h.fits o ho).1; omega
        cases l with
        | nil => cases ho
        | cons x l =>
          have hx : o = x := by
            rcases List.mem_cons.1 ho with e | e
            · exact e
            · have := (List.pairwise_cons.1 h.apart).1 o e
              have := h.fits x (by simp)
              omega
          subst hx
          have hs := h.slot hl (o := o) (by simp)
          rw [hob] at hs
          rw [walk_ob hb hs]
          have := h.fits o (by simp)
          rw [ih (b + o.span) l (by omega) ⟨(List.pairwise_cons.1 h.apart).2, fun y hy => ⟨by have := (List.pairwise_cons.1 h.apart).1 y hy; omega, (h.fits y (List.mem_cons_of_mem _ hy)).2⟩, fun c hc1 hc2 hc3 => h.free c (by omega) hc2 (fun y hy => by
            rcases List.mem_cons.1 hy with rfl | hy
            · omega
            · exact hc3 y hy)⟩]
      · have hz := h.free b (Nat.le_refl _) hb (fun o ho hh => hc ⟨o, ho, hh⟩)
        rw [walk_free hb (slot_free hz)]
        exact ih (b + 1) l (by omega) ⟨h.apart, fun o ho => ⟨by
          have h0 := h.fits o ho
          have : ¬ (o.block ≤ b ∧ b < o.block + o.span) := fun hh => hc ⟨o, ho, hh⟩
          omega, (h.fits o ho).2⟩, fun c hc1 => h.free c (by omega)⟩
    · rw [walk_end hb]
      cases l with
      | nil => rfl
      | cons o l =>
        obtain ⟨h0, h1, _, _, h4, _⟩ := h.fits o (by simp)
        omega
theorem walk_tiles {ws : List Int} {n : Nat} (hl : ws.length = 106 + 8 * n) : ∀ (f b : Nat) (l : List Ob), n - b ≤ f → walkS ws n b = (l, []) → TilesF ws n b l := by
  intro f
  induction f with
  | zero =>
    intro b l hf h
    rw [walk_end (by omega)] at h
    cases h
    exact ⟨List.Pairwise.nil, (fun o ho => by cases ho), fun c h1 h2 => by omega⟩
  | succ f ih =>
    intro b l hf h
    by_cases hb : b < n
    · rcases hs : slotAt ws b with _ | _ | o
      · rw [walk_free hb hs] at h
        have t := ih (b + 1) l (by omega) h
        refine ⟨t.apart, fun o ho => ⟨by have := (t.fits o ho).1; omega, (t.fits o ho).2⟩, fun c h1 h2 h3 => ?_⟩
        by_cases hcb : c = b
        · subst hcb
          unfold slotAt at hs
          split at hs
          · assumption
          · split at hs <;> cases hs
        · exact t.free c (by omega) h2 h3
      · rw [walk_bad hb hs] at h
        have := congrArg Prod.snd h
        simp at this
      · obtain ⟨h1, h2, h3, h4, h5⟩ := slot_obs hs
        rw [walk_ob hb hs] at h
        cases l with
        | nil => have := congrArg Prod.fst h; simp at this
        | cons x l =>
          have e1 := congrArg Prod.fst h
          have e2 := congrArg Prod.snd h
          simp only [List.cons.injEq] at e1 e2
          obtain ⟨rfl, e1⟩ := e1
          have t := ih (b + o.span) l (by omega) (by rw [← e1, ← e2])
          have hh : wd ws (106 + 8 * o.block) = 1000000 + 100 * (o.span : Int) + (o.ptrs : Int) := by
            rw [h1]
            unfold slotAt at hs
            split at hs
            · cases hs
            · split at hs
              · next hok =>
                have hk := (ok_hdr (okB_iff.1 hok)).1.1
                cases hs
                exact hk
              · cases hs
          refine ⟨List.pairwise_cons.2 ⟨fun y hy => by have := (t.fits y hy).1; omega, t.apart⟩, fun y hy => ?_, fun c hc1 hc2 hc3 => ?_⟩
          · rcases List.mem_cons.1 hy with rfl | hy
            · exact ⟨by omega, h2, h3, h4, by omega, hh⟩
            · exact ⟨by have := (t.fits y hy).1; omega, (t.fits y hy).2⟩
          · have := hc3 o (by simp)
            exact t.free c (by omega) hc2 (fun y hy => hc3 y (List.mem_cons_of_mem _ hy))
    · rw [walk_end hb] at h
      cases h
      exact ⟨List.Pairwise.nil, (fun o ho => by cases ho), fun c h1 h2 => by omega⟩
/-- the objects of the words, and no wrong header -/
abbrev Tiles (ws : List Int) (l : List Ob) : Prop := TilesF ws (nblk ws.length) 0 l
theorem objs_tiles {ws : List Int} (hn : nblk ws.length ≠ 0) (hb : bads ws = []) : Tiles ws (objs ws) :=
  walk_tiles (nblk_some hn).1 _ 0 _ (Nat.le_refl _) (by
    have : walkS ws (nblk ws.length) 0 = (objs ws, bads ws) := rfl
    rw [this, hb])
theorem tiles_objs {ws : List Int} (hn : nblk ws.length ≠ 0) {l : List Ob} (h : Tiles ws l) : objs ws = l ∧ bads ws = [] := by
  have := tiles_walk (nblk_some hn).1 _ 0 l (Nat.le_refl _) h
  exact ⟨congrArg Prod.fst this, congrArg Prod.snd this⟩
/-- is block c some object's? -/
def Cov (l : List Ob) (c : Nat) : Prop := ∃ o ∈ l, o.block ≤ c ∧ c < o.block + o.span
/-- words that have the same headers, where any are -/
theorem TilesF.congr {ws ws' : List Int} {n b : Nat} {l : List Ob} (h : TilesF ws n b l) (h1 : ∀ o ∈ l, wd ws' (106 + 8 * o.block) = wd ws (106 + 8 * o.block)) (h2 : ∀ c, c < n → ¬ Cov l c → wd ws' (106 + 8 * c) = wd ws (106 + 8 * c)) : TilesF ws' n b l :=
  ⟨h.apart, fun o ho => by rw [h1 o ho]; exact h.fits o ho, fun c hc1 hc2 hc3 => by rw [h2 c hc2 (fun ⟨o, ho, hh⟩ => hc3 o ho hh)]; exact h.free c hc1 hc2 hc3⟩
theorem pair_mem {l : List Ob} (h : l.Pairwise (fun o o' => o.block + o.span ≤ o'.block)) {o o' : Ob} (ho : o ∈ l) (ho' : o' ∈ l) : o = o' ∨ o.block + o.span ≤ o'.block ∨ o'.block + o'.span ≤ o.block := by
  induction l with
  | nil => cases ho
  | cons x l ih =>
    obtain ⟨h1, h2⟩ := List.pairwise_cons.1 h
    rcases List.mem_cons.1 ho with e | ho
    · rcases List.mem_cons.1 ho' with e' | ho'
      · exact .inl (e.trans e'.symm)
      · rw [e]; exact .inr (.inl (h1 _ ho'))
    · rcases List.mem_cons.1 ho' with e' | ho'
      · rw [e']; exact .inr (.inr (h1 _ ho))
      · exact ih h2 ho ho'
/-- a word of the head or the log is no header -/
theorem Tiles.low {ws : List Int} {l : List Ob} (h : Tiles ws l) {q : Nat} {v : Int} (hq : q < 106) : Tiles (ws.set q v) l := by
  have e : ∀ c, wd (ws.set q v) (106 + 8 * c) = wd ws (106 + 8 * c) := fun c => by
    by_cases hl : q < ws.length
    · rw [wd_set hl, if_neg (by omega)]
    · rw [List.set_eq_of_length_le (by omega)]
  have := TilesF.congr (ws' := ws.set q v) h (fun o _ => e o.block) (fun c _ _ => e c)
  unfold Tiles
  rwa [List.length_set]
/-- nor is a word behind an object's header -/
theorem Tiles.word {ws : List Int} {l : List Ob} (h : Tiles ws l) {o : Ob} (ho : o ∈ l) {i : Nat} {v : Int} (hi : i < 8 * o.span - 1) : Tiles (ws.set (pl o i) v) l := by
  have hpl : pl o i = 106 + 8 * o.block + 1 + i := rfl
  have e : ∀ c, pl o i ≠ 106 + 8 * c → wd (ws.set (pl o i) v) (106 + 8 * c) = wd ws (106 + 8 * c) := fun c hne => by
    by_cases hl : pl o i < ws.length
    · rw [wd_set hl, if_neg (fun e => hne e.symm)]
    · rw [List.set_eq_of_length_le (by omega)]
  have hs := (h.fits o ho).2.1
  have := TilesF.congr (ws' := ws.set (pl o i) v) h (fun o' ho' => e o'.block (fun hh => by
      rcases pair_mem h.apart ho ho' with rfl | hx | hx
      · omega
      · omega
      · have := (h.fits o' ho').2.1; omega)) (fun c _ hc => e c (fun hh => hc ⟨o, ho, by omega, by omega⟩))
  unfold Tiles
  rwa [List.length_set]

/-- blocks c .. c + s - 1 are free -/
def RowFree (l : List Ob) (s c : Nat) : Prop := ∀ j, j < s → ¬ Cov l (c + j)
theorem rowFree_apart {l : List Ob} {s c : Nat} (hs : 1 ≤ s) (h1 : ∀ o ∈ l, 1 ≤ o.span) : RowFree l s c ↔ ∀ o ∈ l, o.block + o.span ≤ c ∨ c + s ≤ o.block := by
  constructor
  · intro h o ho
    rcases (show o.block + o.span ≤ c ∨ c + s ≤ o.block ∨ (c < o.block + o.span ∧ o.block < c + s) by omega) with hx | hx | ⟨hx, hy⟩
    · exact .inl hx
    · exact .inr hx
    · exfalso
      have := h1 o ho
      by_cases hc : o.block ≤ c
      · exact h 0 (by omega) ⟨o, ho, by omega, by omega⟩
      · exact h (o.block - c) (by omega) ⟨o, ho, by omega, by omega⟩
  · rintro h j hj ⟨o, ho, h2, h3⟩
    have := h o ho
    omega
end Go.Proofs.YtbagcjlimdilpabGreat

