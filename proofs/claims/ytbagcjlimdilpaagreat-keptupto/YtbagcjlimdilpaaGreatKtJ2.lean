/- Texts that follow one another, joined. -/
import Derived.Test.YtbagcjlimdilpaaGreatKtJ1
import Derived.Shelf.SlIterI.Nil
import Derived.Shelf.SortM.Plain
import Derived.Shelf.SortM.SortNone
import Derived.Shelf.SlMaps.Clone
import Derived.Ground.GgzProg
import Derived.Ground.SlgmProg
import Derived.Ground.SlmcProg
import Derived.Test.YtbagcjlimdilpaaGreatProg
/- Mathematics of a row of blocks without wrong headers: its objects as a tiling; where room is found. -/
namespace Go.Proofs.YtbagcjlimdilpaaGreat

/-- from block b on: the objects are l, and all else is free -/
structure TilesF (ws : List Int) (n b : Nat) (l : List Ob) : Prop where
  apart : l.Pairwise (fun o o' => o.block + o.span ≤ o'.block)
  fits : ∀ o ∈ l, b ≤ o.block ∧ 1 ≤ o.span ∧ o.span ≤ 4 ∧ o.ptrs < 8 * o.span ∧ o.block + o.span ≤ n ∧ wd ws (106 + 8 * o.block) = 1000000 + 100 * (o.span : Int) + (o.ptrs : Int)
  free : ∀ c, b ≤ c → c < n → (∀ o ∈ l, ¬ (o.block ≤ c ∧ c < o.block + o.span)) → wd ws (106 + 8 * c) = 0
theorem TilesF.slot {ws : List Int} {n b : Nat} {l : List Ob} (h : TilesF ws n b l) (hl : ws.length = 106 + 8 * n) {o : Ob} (ho : o ∈ l) : slotAt ws o.block = some (some o) := by
  obtain ⟨_, h1, h2, h3, h4, h5⟩ := h.fits o ho
  exact slot_ob ⟨h5, by omega⟩ h1 h2 h3
theorem tiles_walk {ws : List Int} {n : Nat} (hl : ws.length = 106 + 8 * n) : ∀ (f b : Nat) (l : List Ob), n - b ≤ f → TilesF ws n b l → walkS ws n b = (l, []) := by
  intro f
  induction f with
  | zero =>
    intro b l hf h
    rw [walk_end (by omega)]
    cases l with
    | nil => rfl
    | cons o l =>
      obtain ⟨h0, h1, _, _, h4, _⟩ := h.fits o (by simp)
      omega
  | succ f ih =>
    intro b l hf h
    by_cases hb : b < n
    · by_cases hc : ∃ o ∈ l, o.block ≤ b ∧ b < o.block + o.span
      · obtain ⟨o, ho, h1, h2⟩ := hc
        have hob : o.block = b := by have := (h.fits o ho).1; omega
        cases l with
        | nil => cases ho
        | cons x l =>
          have hx : o = x := by
            rcases List.mem_cons.1 ho with e | e
            · exact e
            · have := (List.pairwise_cons.1 h.apart).1 o e
              have := h.fits x (by simp)
              omega
          subst hx
          have hs := h.slot hl (o := o) (by simp)
          rw [hob] at hs
          rw [walk_ob hb hs]
          have := h.fits o (by simp)
          rw [ih (b + o.span) l (by omega) ⟨(List.pairwise_cons.1 h.apart).2, fun y hy => ⟨by have := (List.pairwise_cons.1 h.apart).1 y hy; omega, (h.fits y (List.mem_cons_of_mem _ hy)).2⟩, fun c hc1 hc2 hc3 => h.free c (by omega) hc2 (fun y hy => by
            rcases List.mem_cons.1 hy with rfl | hy
            · omega
            · exact hc3 y hy)⟩]
      · have hz := h.free b (Nat.le_refl _) hb (fun o ho hh => hc ⟨o, ho, hh⟩)
        rw [walk_free hb (slot_free hz)]
        exact ih (b + 1) l (by omega) ⟨h.apart, fun o ho => ⟨by
          have h0 := h.fits o ho
          have : ¬ (o.block ≤ b ∧ b < o.block + o.span) := fun hh => hc ⟨o, ho, hh⟩
          omega, (h.fits o ho).2⟩, fun c hc1 => h.free c (by omega)⟩
    · rw [walk_end hb]
      cases l with
      | nil => rfl
      | cons o l =>
        obtain ⟨h0, h1, _, _, h4, _⟩ := h.fits o (by simp)
        omega
theorem walk_tiles {ws : List Int} {n : Nat} (hl : ws.length = 106 + 8 * n) : ∀ (f b : Nat) (l : List Ob), n - b ≤ f → walkS ws n b = (l, []) → TilesF ws n b l := by
  intro f
  induction f with
  | zero =>
    intro b l hf h
    rw [walk_end (by omega)] at h
    cases h
    exact ⟨List.Pairwise.nil, (fun o ho => by cases ho), fun c h1 h2 => by omega⟩
  | succ f ih =>
    intro b l hf h
    by_cases hb : b < n
    · rcases hs : slotAt ws b with _ | _ | o
      · rw [walk_free hb hs] at h
        have t := ih (b + 1) l (by omega) h
        refine ⟨t.apart, fun o ho => ⟨by have := (t.fits o ho).1; omega, (t.fits o ho).2⟩, fun c h1 h2 h3 => ?_⟩
        by_cases hcb : c = b
        · subst hcb
          unfold slotAt at hs
          split at hs
          · assumption
          · split at hs <;> cases hs
        · exact t.free c (by omega) h2 h3
      · rw [walk_bad hb hs] at h
        have := congrArg Prod.snd h
        simp at this
      · obtain ⟨h1, h2, h3, h4, h5⟩ := slot_obs hs
        rw [walk_ob hb hs] at h
        cases l with
        | nil => have := congrArg Prod.fst h; simp at this
        | cons x l =>
          have e1 := congrArg Prod.fst h
          have e2 := congrArg Prod.snd h
          simp only [List.cons.injEq] at e1 e2
          obtain ⟨rfl, e1⟩ := e1
          have t := ih (b + o.span) l (by omega) (by rw [← e1, ← e2])
          have hh : wd ws (106 + 8 * o.block) = 1000000 + 100 * (o.span : Int) + (o.ptrs : Int) := by
            rw [h1]
            unfold slotAt at hs
            split at hs
            · cases hs
            · split at hs
              · next hok =>
                have hk := (ok_hdr (okB_iff.1 hok)).1.1
                cases hs
                exact hk
              · cases hs
          refine ⟨List.pairwise_cons.2 ⟨fun y hy => by have := (t.fits y hy).1; omega, t.apart⟩, fun y hy => ?_, fun c hc1 hc2 hc3 => ?_⟩
          · rcases List.mem_cons.1 hy with rfl | hy
            · exact ⟨by omega, h2, h3, h4, by omega, hh⟩
            · exact ⟨by have := (t.fits y hy).1; omega, (t.fits y hy).2⟩
          · have := hc3 o (by simp)
            exact t.free c (by omega) hc2 (fun y hy => hc3 y (List.mem_cons_of_mem _ hy))
    · rw [walk_end hb] at h
      cases h
      exact ⟨List.Pairwise.nil, (fun o ho => by cases ho), fun c h1 h2 => by omega⟩
/-- the objects of the words, and no wrong header -/
abbrev Tiles (ws : List Int) (l : List Ob) : Prop := TilesF ws (nblk ws.length) 0 l
theorem objs_tiles {ws : List Int} (hn : nblk ws.length ≠ 0) (hb : bads ws = []) : Tiles ws (objs ws) :=
  walk_tiles (nblk_some hn).1 _ 0 _ (Nat.le_refl _) (by
    have : walkS ws (nblk ws.length) 0 = (objs ws, bads ws) := rfl
    rw [this, hb])
theorem tiles_objs {ws : List Int} (hn : nblk ws.length ≠ 0) {l : List Ob} (h : Tiles ws l) : objs ws = l ∧ bads ws = [] := by
  have := tiles_walk (nblk_some hn).1 _ 0 l (Nat.le_refl _) h
  exact ⟨congrArg Prod.fst this, congrArg Prod.snd this⟩
/-- is block c some object's? -/
def Cov (l : List Ob) (c : Nat) : Prop := ∃ o ∈ l, o.block ≤ c ∧ c < o.block + o.span
/-- words that have the same headers, where any are -/
theorem TilesF.congr {ws ws' : List Int} {n b : Nat} {l : List Ob} (h : TilesF ws n b l) (h1 : ∀ o ∈ l, wd ws' (106 + 8 * o.block) = wd ws (106 + 8 * o.block)) (h2 : ∀ c, c < n → ¬ Cov l c → wd ws' (106 + 8 * c) = wd ws (106 + 8 * c)) : TilesF ws' n b l :=
  ⟨h.apart, fun o ho => by rw [h1 o ho]; exact h.fits o ho, fun c hc1 hc2 hc3 => by rw [h2 c hc2 (fun ⟨o, ho, hh⟩ => hc3 o ho hh)]; exact h.free c hc1 hc2 hc3⟩
theorem pair_mem {l : List Ob} (h : l.Pairwise (fun o o' => o.block + o.span ≤ o'.block)) {o o' : Ob} (ho : o ∈ l) (ho' : o' ∈ l) : o = o' ∨ o.block + o.span ≤ o'.block ∨ o'.block + o'.span ≤ o.block := by
  induction l with
  | nil => cases ho
  | cons x l ih =>
    obtain ⟨h1, h2⟩ := List.pairwise_cons.1 h
    rcases List.mem_cons.1 ho with e | ho
    · rcases List.mem_cons.1 ho' with e' | ho'
      · exact .inl (e.trans e'.symm)
      · rw [e]; exact .inr (.inl (h1 _ ho'))
    · rcases List.mem_cons.1 ho' with e' | ho'
      · rw [e']; exact .inr (.inr (h1 _ ho))
      · exact ih h2 ho ho'
/-- a word of the head or the log is no header -/
theorem Tiles.low {ws : List Int} {l : List Ob} (h : Tiles ws l) {q : Nat} {v : Int} (hq : q < 106) : Tiles (ws.set q v) l := by
  have e : ∀ c, wd (ws.set q v) (106 + 8 * c) = wd ws (106 + 8 * c) := fun c => by
    by_cases hl : q < ws.length
    · rw [wd_set hl, if_neg (by omega)]
    · rw [List.set_eq_of_length_le (by omega)]
  have := TilesF.congr (ws' := ws.set q v) h (fun o _ => e o.block) (fun c _ _ => e c)
  unfold Tiles
  rwa [List.length_set]
/-- nor is a word behind an object's header -/
theorem Tiles.word {ws : List Int} {l : List Ob} (h : Tiles ws l) {o : Ob} (ho : o ∈ l) {i : Nat} {v : Int} (hi : i < 8 * o.span - 1) : Tiles (ws.set (pl o i) v) l := by
  have hpl : pl o i = 106 + 8 * o.block + 1 + i := rfl
  have e : ∀ c, pl o i ≠ 106 + 8 * c → wd (ws.set (pl o i) v) (106 + 8 * c) = wd ws (106 + 8 * c) := fun c hne => by
    by_cases hl : pl o i < ws.length
    · rw [wd_set hl, if_neg (fun e => hne e.symm)]
    · rw [List.set_eq_of_length_le (by omega)]
  have hs := (h.fits o ho).2.1
  have := TilesF.congr (ws' := ws.set (pl o i) v) h (fun o' ho' => e o'.block (fun hh => by
      rcases pair_mem h.apart ho ho' with rfl | hx | hx
      · omega
      · omega
      · have := (h.fits o' ho').2.1; omega)) (fun c _ hc => e c (fun hh => hc ⟨o, ho, by omega, by omega⟩))
  unfold Tiles
  rwa [List.length_set]

/-- blocks c .. c + s - 1 are free -/
def RowFree (l : List Ob) (s c : Nat) : Prop := ∀ j, j < s → ¬ Cov l (c + j)
theorem rowFree_apart {l : List Ob} {s c : Nat} (hs : 1 ≤ s) (h1 : ∀ o ∈ l, 1 ≤ o.span) : RowFree l s c ↔ ∀ o ∈ l, o.block + o.span ≤ c ∨ c + s ≤ o.block := by
  constructor
  · intro h o ho
    rcases (show o.block + o.span ≤ c ∨ c + s ≤ o.block ∨ (c < o.block + o.span ∧ o.block < c + s) by omega) with hx | hx | ⟨hx, hy⟩
    · exact .inl hx
    · exact .inr hx
    · exfalso
      have := h1 o ho
      by_cases hc : o.block ≤ c
      · exact h 0 (by omega) ⟨o, ho, by omega, by omega⟩
      · exact h (o.block - c) (by omega) ⟨o, ho, by omega, by omega⟩
  · rintro h j hj ⟨o, ho, h2, h3⟩
    have := h o ho
    omega
end Go.Proofs.YtbagcjlimdilpaaGreat
/- Contracts of four functions of the library (maps.Keys, slices.Sorted, slices.Sort, maps.Clone), laid at this program. -/
namespace Go.Proofs.YtbagcjlimdilpaaGreat
open Go.Shelf
def Tryz.keysA_ren : Go.Shelf.Ren := ⟨fun | 7 => 143 | 10 => 155 | n => n, fun | 23 => 166 | 26 => 3 | 3 => 50 | 28 => 205 | 0 => 0 | 27 => 204 | 33 => 92 | 4 => 4 | n => n, fun | n => n⟩
theorem Tryz.keysA : Go.Proofs.SlLaysZI.n7 Tryz.prog Tryz.keysA_ren := {
  mixed := by kernel_rfl
  f7 := ⟨Tryz.f143.name, by decide, Tryz.func143.trans (congrArg some (by kernel_rfl))⟩
  f10 := ⟨Tryz.f155.name, by decide, Tryz.func155.trans (congrArg some (by kernel_rfl))⟩
  t0 := Tryz.underlying0
  a0 := Tryz.isAgg0
  z0 := Tryz.sizeOf0
  v0 := Tryz.zeroValue0
  t4 := Tryz.underlying4
  a4 := Tryz.isAgg4
  z4 := Tryz.sizeOf4
  v4 := Tryz.zeroValue4
  t23 := Tryz.underlying166
  a23 := Tryz.isAgg166
  z23 := Tryz.sizeOf166
  v23 := Tryz.zeroValue166
  t26 := Tryz.underlying3
  a26 := Tryz.isAgg3
  z26 := Tryz.sizeOf3
  v26 := Tryz.zeroValue3
  t27 := Tryz.underlying204
  a27 := Tryz.isAgg204
  z27 := Tryz.sizeOf204
  v27 := Tryz.zeroValue204
  t28 := Tryz.underlying205
  a28 := Tryz.isAgg205
  z28 := Tryz.sizeOf205
  v28 := Tryz.zeroValue205
  t33 := Tryz.underlying92
  a33 := Tryz.isAgg92
  z33 := Tryz.sizeOf92
  v33 := Tryz.zeroValue92 }
def Tryz.sortedA_ren : Go.Shelf.Ren := ⟨fun | 6 => 142 | 8 => 153 | 9 => 154 | 11 => 158 | 13 => 160 | 12 => 159 | 23 => 171 | 24 => 172 | 14 => 162 | 15 => 163 | 16 => 164 | 17 => 165 | 18 => 166 | 19 => 167 | 20 => 168 | 21 => 169 | 22 => 170 | 25 => 173 | 26 => 174 | 27 => 175 | 28 => 176 | 29 => 177 | 30 => 178 | 31 => 179 | n => n, fun | 26 => 3 | 28 => 205 | 24 => 25 | 0 => 0 | 3 => 3 | 37 => 208 | 48 => 231 | 50 => 50 | 4 => 4 | 40 => 225 | 39 => 224 | 45 => 128 | 5 => 5 | 9 => 9 | 51 => 232 | 55 => 236 | 57 => 238 | 58 => 239 | 33 => 92 | n => n, fun | n => n⟩
theorem Tryz.sortedA : Go.Proofs.SlLaysZI.n6 Tryz.prog Tryz.sortedA_ren := {
  mixed := by kernel_rfl
  f6 := ⟨Tryz.f142.name, by decide, Tryz.func142.trans (congrArg some (by kernel_rfl))⟩
  f8 := ⟨Tryz.f153.name, by decide, Tryz.func153.trans (congrArg some (by kernel_rfl))⟩
  f11 := ⟨Tryz.f158.name, by decide, Tryz.func158.trans (congrArg some (by kernel_rfl))⟩
  t0 := Tryz.underlying0
  a0 := Tryz.isAgg0
  z0 := Tryz.sizeOf0
  v0 := Tryz.zeroValue0
  t24 := Tryz.underlying25
  a24 := Tryz.isAgg25
  z24 := Tryz.sizeOf25
  v24 := Tryz.zeroValue25
  t26 := Tryz.underlying3
  a26 := Tryz.isAgg3
  z26 := Tryz.sizeOf3
  v26 := Tryz.zeroValue3
  t28 := Tryz.underlying205
  a28 := Tryz.isAgg205
  z28 := Tryz.sizeOf205
  v28 := Tryz.zeroValue205
  i26 := by kernel_rfl }
def Tryz.sortA_ren : Go.Shelf.Ren := ⟨fun | 5 => 154 | 8 => 160 | 7 => 159 | 19 => 171 | 20 => 172 | 10 => 162 | 11 => 163 | 12 => 164 | 13 => 165 | 14 => 166 | 15 => 167 | 16 => 168 | 17 => 169 | 18 => 170 | 30 => 173 | 31 => 174 | 32 => 175 | 33 => 176 | 34 => 177 | 35 => 178 | 40 => 179 | n => n, fun | 23 => 25 | 25 => 3 | 3 => 3 | 32 => 208 | 22 => 25 | 0 => 0 | 44 => 231 | 46 => 50 | 4 => 4 | 36 => 225 | 35 => 224 | 41 => 128 | 5 => 5 | 9 => 9 | 53 => 232 | 57 => 236 | 63 => 238 | 64 => 239 | n => n, fun | n => n⟩
theorem Tryz.sortA : Go.Proofs.SlLaysM.n5 Tryz.prog Tryz.sortA_ren := {
  mixed := by kernel_rfl
  f5 := ⟨Tryz.f154.name, by decide, Tryz.func154.trans (congrArg some (by kernel_rfl))⟩
  f7 := ⟨Tryz.f159.name, by decide, Tryz.func159.trans (congrArg some (by kernel_rfl))⟩
  f8 := Tryz.func160.trans (congrArg some (by kernel_rfl))
  f10 := ⟨Tryz.f162.name, by decide, Tryz.func162.trans (congrArg some (by kernel_rfl))⟩
  f11 := ⟨Tryz.f163.name, by decide, Tryz.func163.trans (congrArg some (by kernel_rfl))⟩
  f12 := ⟨Tryz.f164.name, by decide, Tryz.func164.trans (congrArg some (by kernel_rfl))⟩
  f13 := ⟨Tryz.f165.name, by decide, Tryz.func165.trans (congrArg some (by kernel_rfl))⟩
  f14 := ⟨Tryz.f166.name, by decide, Tryz.func166.trans (congrArg some (by kernel_rfl))⟩
  f15 := ⟨Tryz.f167.name, by decide, Tryz.func167.trans (congrArg some (by kernel_rfl))⟩
  f16 := ⟨Tryz.f168.name, by decide, Tryz.func168.trans (congrArg some (by kernel_rfl))⟩
  f17 := ⟨Tryz.f169.name, by decide, Tryz.func169.trans (congrArg some (by kernel_rfl))⟩
  f18 := ⟨Tryz.f170.name, by decide, Tryz.func170.trans (congrArg some (by kernel_rfl))⟩
  f19 := Tryz.func171.trans (congrArg some (by kernel_rfl))
  f20 := Tryz.func172.trans (congrArg some (by kernel_rfl))
  f30 := ⟨Tryz.f173.name, by decide, Tryz.func173.trans (congrArg some (by kernel_rfl))⟩
  f31 := Tryz.func174.trans (congrArg some (by kernel_rfl))
  f32 := Tryz.func175.trans (congrArg some (by kernel_rfl))
  f33 := ⟨Tryz.f176.name, by decide, Tryz.func176.trans (congrArg some (by kernel_rfl))⟩
  f34 := ⟨Tryz.f177.name, by decide, Tryz.func177.trans (congrArg some (by kernel_rfl))⟩
  f35 := ⟨Tryz.f178.name, by decide, Tryz.func178.trans (congrArg some (by kernel_rfl))⟩
  f40 := ⟨Tryz.f179.name, by decide, Tryz.func179.trans (congrArg some (by kernel_rfl))⟩
  t0 := Tryz.underlying0
  a0 := Tryz.isAgg0
  z0 := Tryz.sizeOf0
  v0 := Tryz.zeroValue0
  t3 := Tryz.underlying3
  a3 := Tryz.isAgg3
  z3 := Tryz.sizeOf3
  v3 := Tryz.zeroValue3
  t4 := Tryz.underlying4
  a4 := Tryz.isAgg4
  z4 := Tryz.sizeOf4
  v4 := Tryz.zeroValue4
  t5 := Tryz.underlying5
  a5 := Tryz.isAgg5
  z5 := Tryz.sizeOf5
  v5 := Tryz.zeroValue5
  t9 := Tryz.underlying9
  a9 := Tryz.isAgg9
  z9 := Tryz.sizeOf9
  v9 := Tryz.zeroValue9
  t22 := Tryz.underlying25
  a22 := Tryz.isAgg25
  z22 := Tryz.sizeOf25
  v22 := Tryz.zeroValue25
  t23 := Tryz.underlying25
  a23 := Tryz.isAgg25
  z23 := Tryz.sizeOf25
  v23 := Tryz.zeroValue25
  t25 := Tryz.underlying3
  a25 := Tryz.isAgg3
  z25 := Tryz.sizeOf3
  v25 := Tryz.zeroValue3
  t32 := Tryz.underlying208
  a32 := Tryz.isAgg208
  z32 := Tryz.sizeOf208
  v32 := Tryz.zeroValue208
  t35 := Tryz.underlying224
  a35 := Tryz.isAgg224
  z35 := Tryz.sizeOf224
  v35 := Tryz.zeroValue224
  t36 := Tryz.underlying225
  a36 := Tryz.isAgg225
  z36 := Tryz.sizeOf225
  v36 := Tryz.zeroValue225
  t41 := Tryz.underlying128
  a41 := Tryz.isAgg128
  z41 := Tryz.sizeOf128
  v41 := Tryz.zeroValue128
  t44 := Tryz.underlying231
  a44 := Tryz.isAgg231
  z44 := Tryz.sizeOf231
  v44 := Tryz.zeroValue231
  t46 := Tryz.underlying50
  a46 := Tryz.isAgg50
  z46 := Tryz.sizeOf50
  v46 := Tryz.zeroValue50
  t53 := Tryz.underlying232
  a53 := Tryz.isAgg232
  z53 := Tryz.sizeOf232
  v53 := Tryz.zeroValue232
  t57 := Tryz.underlying236
  a57 := Tryz.isAgg236
  z57 := Tryz.sizeOf236
  v57 := Tryz.zeroValue236
  t63 := Tryz.underlying238
  a63 := Tryz.isAgg238
  z63 := Tryz.sizeOf238
  v63 := Tryz.zeroValue238
  t64 := Tryz.underlying239
  a64 := Tryz.isAgg239
  z64 := Tryz.sizeOf239
  v64 := Tryz.zeroValue239 }
def Tryz.cloneA_ren : Go.Shelf.Ren := ⟨fun | 5 => 156 | 7 => 161 | n => n, fun | 23 => 166 | 25 => 3 | 3 => 50 | 4 => 4 | 20 => 20 | n => n, fun | n => n⟩
theorem Tryz.cloneA : Go.Proofs.SlLaysW.n5 Tryz.prog Tryz.cloneA_ren := {
  mixed := by kernel_rfl
  f5 := ⟨Tryz.f156.name, by decide, Tryz.func156.trans (congrArg some (by kernel_rfl))⟩
  f7 := Tryz.func161.trans (congrArg some (by kernel_rfl))
  t4 := Tryz.underlying4
  a4 := Tryz.isAgg4
  z4 := Tryz.sizeOf4
  v4 := Tryz.zeroValue4
  t20 := Tryz.underlying20
  a20 := Tryz.isAgg20
  z20 := Tryz.sizeOf20
  v20 := Tryz.zeroValue20
  t23 := Tryz.underlying166
  a23 := Tryz.isAgg166
  z23 := Tryz.sizeOf166
  v23 := Tryz.zeroValue166 }
end Go.Proofs.YtbagcjlimdilpaaGreat
