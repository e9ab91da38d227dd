/- A heap in a story, its calls made directly: what stays of the story. -/
import Derived.Test.YtbagcjlimdilpaaGreatKtKrA
import Derived.Test.YtbagcjlimdilpaaGreatKtKqP
namespace Go.Proofs.YtbagcjlimdilpaaGreat
open Go.RowKit Go.Maps

/-- a heap, and the shape of words that a story holds beside it -/
structure Hf (w0 : World) (sb hb tb cb mb g : Nat) (vs vn : Value) (un : List Value) (A : Array Value) (ws now shp : List Int) (sts : List St) (w : World) : Prop where
  blk : w.heap[sb]? = some (.cells A 39 (0, 0))
  ph : PH hb tb cb mb g vs ws now sts w
  tn : ThAt w vn (things shp) un
  gn : ∀ u ∈ un, u.ownBlock ≠ some g
  low : ∀ k, (k = sb ∨ TurnedP tb mb g vs k ∨ ThB vn un k) → w0.heap.size ≤ k
  f : Fr New w0 w
namespace Hf
variable {w0 w w1 : World} {sb hb tb cb mb g : Nat} {vs vn vs' : Value} {un : List Value} {A : Array Value} {ws now shp ws' now' : List Int} {sts sts' : List St}
theorem turned (h : Hf w0 sb hb tb cb mb g vs vn un A ws now shp sts w) (hf : Fr (TurnedP tb mb g vs) w w1) : w1.heap[sb]? = some (.cells A 39 (0, 0)) ∧ ThAt w1 vn (things shp) un ∧ Fr New w0 w1 := by
  have hsb : ¬ TurnedP tb mb g vs sb := by
    rintro (e | e | e | e)
    · exact type_ne h.blk h.ph.tg.t.td (by decide) e
    · exact h.ph.mapNe h.blk e
    · exact type_ne h.blk h.ph.tg.t.wb (by decide) e
    · obtain ⟨_, c, hc⟩ := own_block h.ph.tg.o e
      exact type_ne h.blk hc (by decide) rfl
  have hth : ∀ k, ThB vn un k → ¬ TurnedP tb mb g vs k := fun k hk => by
    rintro (e | e | e | e)
    · subst e; exact h.tn.no h.ph.tg.t.td (by decide) (by decide) hk
    · subst e
      obtain ⟨D, ⟨es, clock, hm, _⟩, _⟩ := h.ph.cg.mp
      exact h.tn.noMap hm hk
    · subst e
      rcases hk with hk | ⟨u, hu, hk⟩
      · obtain ⟨_, c, hc⟩ := own_block h.tn.own hk
        exact type_ne h.ph.tg.t.wb hc (by decide) rfl
      · exact h.gn u hu hk
    · obtain ⟨_, c, hc⟩ := own_block h.ph.tg.o e
      exact h.tn.no hc (by decide) (by decide) hk
  exact ⟨hf.heap h.blk hsb, h.tn.fr hf hth, h.f.trans hf (fun j hj hh => by have := h.low j (.inr (.inl hh)); omega)⟩
theorem onto (h : Hf w0 sb hb tb cb mb g vs vn un A ws now shp sts w) (hf : Fr (TurnedP tb mb g vs) w w1) (hp : PH hb tb cb mb g vs' ws' now' sts' w1) (hm : Moved w vs vs') : Hf w0 sb hb tb cb mb g vs' vn un A ws' now' shp sts' w1 := by
  obtain ⟨h1, h2, h3⟩ := h.turned hf
  refine ⟨h1, hp, h2, h.gn, fun k hk => ?_, h3⟩
  rcases hk with hk | (hk | hk | hk | hk) | hk
  · exact h.low k (.inl hk)
  · exact h.low k (.inr (.inl (.inl hk)))
  · exact h.low k (.inr (.inl (.inr (.inl hk))))
  · exact h.low k (.inr (.inl (.inr (.inr (.inl hk)))))
  · rcases hm with hm | hm
    · exact h.low k (.inr (.inl (.inr (.inr (.inr (by rw [← hm]; exact hk))))))
    · have := hm k hk; have := h.f.size; omega
  · exact h.low k (.inr (.inr hk))
theorem op (h : Hf w0 sb hb tb cb mb g vs vn un A ws now shp sts w) (hf : Fr (fun k => k = mb) w w1) (hp : PH hb tb cb mb g vs ws now' sts w1) : Hf w0 sb hb tb cb mb g vs vn un A ws now' shp sts w1 :=
  h.onto (hf.mono (fun _ _ e => .inr (.inl e))) hp (Moved.refl _ _)
theorem new (h : Hf w0 sb hb tb cb mb g vs vn un A ws now shp sts w) (hf : Fr New w w1) : Hf w0 sb hb tb cb mb g vs vn un A ws now shp sts w1 :=
  h.onto (hf.mono (fun _ _ e => e.elim)) (h.ph.new hf) (Moved.refl _ _)
theorem told (h : Hf w0 sb hb tb cb mb g vs vn un A ws now shp sts w) (hf : Fr (fun k => k = tb) w w1) (hp : PH hb tb cb mb g (.slice none 0 0) ws now [] w1) : Hf w0 sb hb tb cb mb g (.slice none 0 0) vn un A ws now shp [] w1 :=
  h.onto (hf.mono (fun _ _ e => .inl e)) hp (.inr (fun k hk => by cases hk))
theorem cell (h : Hf w0 sb hb tb cb mb g vs vn un A ws now shp sts w) (k : Nat) : w.cell? ⟨sb, k, none⟩ = A[k]? := (block_cells h.blk).1 k
theorem lt (h : Hf w0 sb hb tb cb mb g vs vn un A ws now shp sts w) : sb < w.heap.size := lt_of_block h.blk
/-- a word of the shape beside it is set -/
theorem put {k i gi ci : Nat} {y : Int} {shp' : List Int} (h : Hf w0 sb hb tb cb mb g vs vn un A ws now shp sts w) (hk : k < (things shp).length) (hu : ∃ hv : k < un.length, un[k] = .slice (some ⟨gi, 0, none⟩) ((things shp)[k]).2.length ci)
    (he : things shp' = (things shp).set k (((things shp)[k]).1, ((things shp)[k]).2.set i y)) : Hf w0 sb hb tb cb mb g vs vn un A ws now shp' sts (w.setCell ⟨gi, i, none⟩ (.int .u64 y)) := by
  obtain ⟨hkv, hue⟩ := hu
  have hgm : un[k] ∈ un := List.getElem_mem hkv
  have hgg : gi ≠ g := fun e => h.gn _ hgm (by rw [hue, e]; rfl)
  have hrk := h.tn.rows k hk hkv
  rw [hue] at hrk
  obtain ⟨_, cg, hgb⟩ := own_block hrk (g := gi) rfl
  have hst : Fr (fun j => j = gi) w (w.setCell ⟨gi, i, none⟩ (.int .u64 y)) := (Fr.refl (fun j => j = gi) w).setCell (p := ⟨gi, i, none⟩) (fun _ => rfl) _
  have hp2 : PH hb tb cb mb g vs ws now sts (w.setCell ⟨gi, i, none⟩ (.int .u64 y)) := by
    refine h.ph.fr hst (fun e => type_ne h.ph.hp hgb (by decide) e) (fun e => type_ne h.ph.tg.t.td hgb (by decide) e) (fun e => type_ne h.ph.cg.cg hgb (by decide) e) (fun e => h.ph.mapNe hgb e.symm) (fun e => hgg e.symm) (fun j hj e => ?_)
    obtain ⟨_, c', hc⟩ := own_block h.ph.tg.o hj
    exact type_ne hc hgb (by decide) e
  have ht2 := h.tn.write hk ⟨hkv, hue⟩ (i := i) y
  rw [← he] at ht2
  refine ⟨hst.heap h.blk (fun e => type_ne h.blk hgb (by decide) e), hp2, ht2, h.gn, h.low, h.f.trans hst (fun j hj e => ?_)⟩
  subst e
  have := h.low j (.inr (.inr (.inr ⟨_, hgm, by rw [hue]; rfl⟩)))
  omega
/-- a cell of the story itself is set -/
theorem set {k : Nat} {v : Value} (h : Hf w0 sb hb tb cb mb g vs vn un A ws now shp sts w) : Hf w0 sb hb tb cb mb g vs vn un (A.setIfInBounds k v) ws now shp sts (w.setCell ⟨sb, k, none⟩ v) := by
  have hst : Fr (fun j => j = sb) w (w.setCell ⟨sb, k, none⟩ v) := (Fr.refl (fun j => j = sb) w).setCell (p := ⟨sb, k, none⟩) (fun _ => rfl) _
  exact ⟨heap_setCell_same _ _ k _ _ _ h.blk, h.ph.story h.blk hst, h.tn.story h.blk hst, h.gn, h.low, h.f.trans hst (fun j hj e => by have := h.low sb (.inl rfl); omega)⟩
/-- its shape, told otherwise -/
theorem shape {shp' : List Int} (h : Hf w0 sb hb tb cb mb g vs vn un A ws now shp sts w) (he : things shp' = things shp) : Hf w0 sb hb tb cb mb g vs vn un A ws now shp' sts w :=
  ⟨h.blk, h.ph, by rw [he]; exact h.tn, h.gn, h.low, h.f⟩
theorem commit_ (h : Hf w0 sb hb tb cb mb g vs vn un A ws now shp sts w) (h2 : wd now 2 = wd ws 2) (hl : sts.length ≤ 1099511000000) : Calls Tryz.prog 24 #[.pointer (some ⟨hb, 0, none⟩)] w fun e w' => ∃ c, e = .returned (.int .i64 c) ∧
    ((now = ws ∧ c = 0 ∧ Hf w0 sb hb tb cb mb g vs vn un A ws now shp sts w' ∧ Fr New w w') ∨ (now ≠ ws ∧ 48 < (recsOf ws (nextS now)).length ∧ c = 4 ∧ Hf w0 sb hb tb cb mb g vs vn un A ws now shp sts w' ∧ Fr New w w') ∨
    (now ≠ ws ∧ (recsOf ws (nextS now)).length ≤ 48 ∧ c = 0 ∧ ∃ vs', Hf w0 sb hb tb cb mb g vs' vn un A (pcommitW ws now) (pcommitW ws now) shp (sts ++ pcommitSt ws now) w' ∧ Fr (TurnedP tb mb g vs) w w')) := by
  refine (hcommit_any hb tb cb mb g vs ws now sts w h.ph h2 hl).mono ?_
  rintro e w' ⟨c, rfl, hc⟩
  refine ⟨c, rfl, ?_⟩
  rcases hc with ⟨h1, h2, hp, hf⟩ | ⟨h1, h2, h3, hp, hf⟩ | ⟨h1, h2, h3, vs', hp, hf, hm⟩
  · exact .inl ⟨h1, h2, h.new hf, hf⟩
  · exact .inr (.inl ⟨h1, h2, h3, h.new hf, hf⟩)
  · exact .inr (.inr ⟨h1, h2, h3, vs', h.onto hf hp hm, hf⟩)
theorem image_ (h : Hf w0 sb hb tb cb mb g vs vn un A ws now shp sts w) : Calls Tryz.prog 21 #[.pointer (some ⟨hb, 0, none⟩)] w fun e w' => e = .returned (.slice (some ⟨w.heap.size, 0, none⟩) ws.length ws.length) ∧ Row w' w.heap.size ws ∧ Hf w0 sb hb tb cb mb g vs vn un A ws now shp sts w' ∧ Fr New w w' := by
  refine (himage_any hb tb cb mb g vs ws now sts w h.ph).mono ?_
  rintro e w' ⟨rfl, hR, hf⟩
  exact ⟨rfl, hR, h.new hf, hf⟩
theorem stores_ (h : Hf w0 sb hb tb cb mb g vs vn un A ws now shp sts w) : Calls Tryz.prog 25 #[.pointer (some ⟨hb, 0, none⟩)] w fun e w' => ∃ sa sc, e = .returned (.slice sa sts.length sc) ∧ Hf w0 sb hb tb cb mb g (.slice none 0 0) vn un A ws now shp [] w' ∧ Fr (fun k => k = tb) w w' := by
  refine (hstores_any hb tb cb mb g vs ws now sts w h.ph).mono ?_
  rintro e w' ⟨rfl, hp, hf, ho, _⟩
  obtain ⟨sa, sc, e⟩ := own_slice ho
  exact ⟨sa, sc, by rw [e], h.told hf hp, hf⟩
theorem write_ (h : Hf w0 sb hb tb cb mb g vs vn un A ws now shp sts w) (n i v : Int) (h0 : -9223372036854775808 ≤ n) (h1 : n ≤ 9223372036854775807) (hv : U v) : Calls Tryz.prog 26 #[.pointer (some ⟨hb, 0, none⟩), .int .i64 n, .int .i64 i, .int .u64 v] w fun e w' => e = .returned (.int .i64 (writeS now n i v).2) ∧ Hf w0 sb hb tb cb mb g vs vn un A ws (writeS now n i v).1 shp sts w' ∧ Fr (fun k => k = mb) w w' := by
  refine (hwrite_any hb tb cb mb g vs ws now sts n i v w h0 h1 hv h.ph).mono ?_
  rintro e w' ⟨rfl, hp, hf⟩
  exact ⟨rfl, h.op hf hp, hf⟩
theorem is_ (h : Hf w0 sb hb tb cb mb g vs vn un A ws now shp sts w) (r0 r1 r2 r3 : Int) : Calls Tryz.prog 19 #[.pointer (some ⟨hb, 0, none⟩), .agg #[vn, .int .i64 r0, .int .i64 r1, .int .i64 r2, .int .i64 r3]] w fun e w' => ∃ b, e = .returned (.bool b) ∧ (b = true ↔ IsIt now (things shp) r0 r1 r2 r3) ∧ Fr New w w' :=
  kis_any hb tb cb mb g vs ws now sts vn (things shp) un r0 r1 r2 r3 w h.ph h.tn
theorem at_ (h : Hf w0 sb hb tb cb mb g vs vn un A ws now shp sts w) (r0 r1 r2 r3 x : Int) : Calls Tryz.prog 27 #[.agg #[vn, .int .i64 r0, .int .i64 r1, .int .i64 r2, .int .i64 r3], .int .u64 x] w fun e w' => e = .returned (.int .i64 (findI (objs shp) x)) ∧ Fr New w w' := by
  have := kat_any vn (things shp) un r0 r1 r2 r3 x w h.tn
  rwa [show (things shp).map Prod.fst = objs shp by simp [things, Function.comp_def]] at this
end Hf
/-- out of a story -/
theorem Story.half {F : Nat → Prop} {sb n : Nat} {ws now : List Int} {sts : List St} {w0 w : World} (h : Story F sb n ws now sts w) (hF : ∀ k, F k → w0.heap.size ≤ k) (hf : Fr New w0 w) : ∃ hb tb cb mb g vs vn vk un, Hf w0 sb hb tb cb mb g vs vn un (stArr hb n vn vk now ws) ws now now sts w := by
  obtain ⟨hb, tb, cb, mb, g, vs, vn, vk, un, uk, S, hFt⟩ := h
  refine ⟨hb, tb, cb, mb, g, vs, vn, vk, un, S.blk, S.ph, S.tn, S.gn, fun k hk => hF k (hFt k ?_), hf⟩
  rcases hk with hk | (hk | hk | hk | hk) | hk
  · exact .inl hk
  · exact .inr (.inr (.inl hk))
  · exact .inr (.inr (.inr (.inr (.inl hk))))
  · exact .inr (.inr (.inr (.inr (.inr (.inl hk)))))
  · exact .inr (.inr (.inr (.inr (.inr (.inr (.inl hk))))))
  · exact .inr (.inr (.inr (.inr (.inr (.inr (.inr (.inl hk)))))))
end Go.Proofs.YtbagcjlimdilpaaGreat
