/- Texts that follow one another, joined. -/
import Derived.Test.YtbagcjlimdilpaaGreatKtKrA
import Derived.Test.YtbagcjlimdilpaaGreatKtKqP
import Derived.Test.YtbagcjlimdilpaaGreatKtKqL
import Derived.Test.YtbagcjlimdilpaaGreatKtKqJ
import Derived.Test.YtbagcjlimdilpaaGreatKtJ20
/- A heap in a story, its calls made directly: what stays of the story. -/
namespace Go.Proofs.YtbagcjlimdilpaaGreat
open Go.RowKit Go.Maps

/-- a heap, and the shape of words that a story holds beside it -/
structure Hf (w0 : World) (sb hb tb cb mb g : Nat) (vs vn : Value) (un : List Value) (A : Array Value) (ws now shp : List Int) (sts : List St) (w : World) : Prop where
  blk : w.heap[sb]? = some (.cells A 39 (0, 0))
  ph : PH hb tb cb mb g vs ws now sts w
  tn : ThAt w vn (things shp) un
  gn : ∀ u ∈ un, u.ownBlock ≠ some g
  low : ∀ k, (k = sb ∨ TurnedP tb mb g vs k ∨ ThB vn un k) → w0.heap.size ≤ k
  f : Fr New w0 w
namespace Hf
variable {w0 w w1 : World} {sb hb tb cb mb g : Nat} {vs vn vs' : Value} {un : List Value} {A : Array Value} {ws now shp ws' now' : List Int} {sts sts' : List St}
theorem turned (h : Hf w0 sb hb tb cb mb g vs vn un A ws now shp sts w) (hf : Fr (TurnedP tb mb g vs) w w1) : w1.heap[sb]? = some (.cells A 39 (0, 0)) ∧ ThAt w1 vn (things shp) un ∧ Fr New w0 w1 := by
  have hsb : ¬ TurnedP tb mb g vs sb := by
    rintro (e | e | e | e)
    · exact type_ne h.blk h.ph.tg.t.td (by decide) e
    · exact h.ph.mapNe h.blk e
    · exact type_ne h.blk h.ph.tg.t.wb (by decide) e
    · obtain ⟨_, c, hc⟩ := own_block h.ph.tg.o e
      exact type_ne h.blk hc (by decide) rfl
  have hth : ∀ k, ThB vn un k → ¬ TurnedP tb mb g vs k := fun k hk => by
    rintro (e | e | e | e)
    · subst e; exact h.tn.no h.ph.tg.t.td (by decide) (by decide) hk
    · subst e
      obtain ⟨D, ⟨es, clock, hm, _⟩, _⟩ := h.ph.cg.mp
      exact h.tn.noMap hm hk
    · subst e
      rcases hk with hk | ⟨u, hu, hk⟩
      · obtain ⟨_, c, hc⟩ := own_block h.tn.own hk
        exact type_ne h.ph.tg.t.wb hc (by decide) rfl
      · exact h.gn u hu hk
    · obtain ⟨_, c, hc⟩ := own_block h.ph.tg.o e
      exact h.tn.no hc (by decide) (by decide) hk
  exact ⟨hf.heap h.blk hsb, h.tn.fr hf hth, h.f.trans hf (fun j hj hh => by have := h.low j (.inr (.inl hh)); omega)⟩
theorem onto (h : Hf w0 sb hb tb cb mb g vs vn un A ws now shp sts w) (hf : Fr (TurnedP tb mb g vs) w w1) (hp : PH hb tb cb mb g vs' ws' now' sts' w1) (hm : Moved w vs vs') : Hf w0 sb hb tb cb mb g vs' vn un A ws' now' shp sts' w1 := by
  obtain ⟨h1, h2, h3⟩ := h.turned hf
  refine ⟨h1, hp, h2, h.gn, fun k hk => ?_, h3⟩
  rcases hk with hk | (hk | hk | hk | hk) | hk
  · exact h.low k (.inl hk)
  · exact h.low k (.inr (.inl (.inl hk)))
  · exact h.low k (.inr (.inl (.inr (.inl hk))))
  · exact h.low k (.inr (.inl (.inr (.inr (.inl hk)))))
  · rcases hm with hm | hm
    · exact h.low k (.inr (.inl (.inr (.inr (.inr (by rw [← hm]; exact hk))))))
    · have := hm k hk; have := h.f.size; omega
  · exact h.low k (.inr (.inr hk))
theorem op (h : Hf w0 sb hb tb cb mb g vs vn un A ws now shp sts w) (hf : Fr (fun k => k = mb) w w1) (hp : PH hb tb cb mb g vs ws now' sts w1) : Hf w0 sb hb tb cb mb g vs vn un A ws now' shp sts w1 :=
  h.onto (hf.mono (fun _ _ e => .inr (.inl e))) hp (Moved.refl _ _)
theorem new (h : Hf w0 sb hb tb cb mb g vs vn un A ws now shp sts w) (hf : Fr New w w1) : Hf w0 sb hb tb cb mb g vs vn un A ws now shp sts w1 :=
  h.onto (hf.mono (fun _ _ e => e.elim)) (h.ph.new hf) (Moved.refl _ _)
theorem told (h : Hf w0 sb hb tb cb mb g vs vn un A ws now shp sts w) (hf : Fr (fun k => k = tb) w w1) (hp : PH hb tb cb mb g (.slice none 0 0) ws now [] w1) : Hf w0 sb hb tb cb mb g (.slice none 0 0) vn un A ws now shp [] w1 :=
  h.onto (hf.mono (fun _ _ e => .inl e)) hp (.inr (fun k hk => by cases hk))
theorem cell (h : Hf w0 sb hb tb cb mb g vs vn un A ws now shp sts w) (k : Nat) : w.cell? ⟨sb, k, none⟩ = A[k]? := (block_cells h.blk).1 k
theorem lt (h : Hf w0 sb hb tb cb mb g vs vn un A ws now shp sts w) : sb < w.heap.size := lt_of_block h.blk
/-- a word of the shape beside it is set -/
theorem put {k i gi ci : Nat} {y : Int} {shp' : List Int} (h : Hf w0 sb hb tb cb mb g vs vn un A ws now shp sts w) (hk : k < (things shp).length) (hu : ∃ hv : k < un.length, un[k] = .slice (some ⟨gi, 0, none⟩) ((things shp)[k]).2.length ci)
    (he : things shp' = (things shp).set k (((things shp)[k]).1, ((things shp)[k]).2.set i y)) : Hf w0 sb hb tb cb mb g vs vn un A ws now shp' sts (w.setCell ⟨gi, i, none⟩ (.int .u64 y)) := by
  obtain ⟨hkv, hue⟩ := hu
  have hgm : un[k] ∈ un := List.getElem_mem hkv
  have hgg : gi ≠ g := fun e => h.gn _ hgm (by rw [hue, e]; rfl)
  have hrk := h.tn.rows k hk hkv
  rw [hue] at hrk
  obtain ⟨_, cg, hgb⟩ := own_block hrk (g := gi) rfl
  have hst : Fr (fun j => j = gi) w (w.setCell ⟨gi, i, none⟩ (.int .u64 y)) := (Fr.refl (fun j => j = gi) w).setCell (p := ⟨gi, i, none⟩) (fun _ => rfl) _
  have hp2 : PH hb tb cb mb g vs ws now sts (w.setCell ⟨gi, i, none⟩ (.int .u64 y)) := by
    refine h.ph.fr hst (fun e => type_ne h.ph.hp hgb (by decide) e) (fun e => type_ne h.ph.tg.t.td hgb (by decide) e) (fun e => type_ne h.ph.cg.cg hgb (by decide) e) (fun e => h.ph.mapNe hgb e.symm) (fun e => hgg e.symm) (fun j hj e => ?_)
    obtain ⟨_, c', hc⟩ := own_block h.ph.tg.o hj
    exact type_ne hc hgb (by decide) e
  have ht2 := h.tn.write hk ⟨hkv, hue⟩ (i := i) y
  rw [← he] at ht2
  refine ⟨hst.heap h.blk (fun e => type_ne h.blk hgb (by decide) e), hp2, ht2, h.gn, h.low, h.f.trans hst (fun j hj e => ?_)⟩
  subst e
  have := h.low j (.inr (.inr (.inr ⟨_, hgm, by rw [hue]; rfl⟩)))
  omega
/-- a cell of the story itself is set -/
theorem set {k : Nat} {v : Value} (h : Hf w0 sb hb tb cb mb g vs vn un A ws now shp sts w) : Hf w0 sb hb tb cb mb g vs vn un (A.setIfInBounds k v) ws now shp sts (w.setCell ⟨sb, k, none⟩ v) := by
  have hst : Fr (fun j => j = sb) w (w.setCell ⟨sb, k, none⟩ v) := (Fr.refl (fun j => j = sb) w).setCell (p := ⟨sb, k, none⟩) (fun _ => rfl) _
  exact ⟨heap_setCell_same _ _ k _ _ _ h.blk, h.ph.story h.blk hst, h.tn.story h.blk hst, h.gn, h.low, h.f.trans hst (fun j hj e => by have := h.low sb (.inl rfl); omega)⟩
/-- its shape, told otherwise -/
theorem shape {shp' : List Int} (h : Hf w0 sb hb tb cb mb g vs vn un A ws now shp sts w) (he : things shp' = things shp) : Hf w0 sb hb tb cb mb g vs vn un A ws now shp' sts w :=
  ⟨h.blk, h.ph, by rw [he]; exact h.tn, h.gn, h.low, h.f⟩
theorem commit_ (h : Hf w0 sb hb tb cb mb g vs vn un A ws now shp sts w) (h2 : wd now 2 = wd ws 2) (hl : sts.length ≤ 1099511000000) : Calls Tryz.prog 24 #[.pointer (some ⟨hb, 0, none⟩)] w fun e w' => ∃ c, e = .returned (.int .i64 c) ∧
    ((now = ws ∧ c = 0 ∧ Hf w0 sb hb tb cb mb g vs vn un A ws now shp sts w' ∧ Fr New w w') ∨ (now ≠ ws ∧ 48 < (recsOf ws (nextS now)).length ∧ c = 4 ∧ Hf w0 sb hb tb cb mb g vs vn un A ws now shp sts w' ∧ Fr New w w') ∨
    (now ≠ ws ∧ (recsOf ws (nextS now)).length ≤ 48 ∧ c = 0 ∧ ∃ vs', Hf w0 sb hb tb cb mb g vs' vn un A (pcommitW ws now) (pcommitW ws now) shp (sts ++ pcommitSt ws now) w' ∧ Fr (TurnedP tb mb g vs) w w')) := by
  refine (hcommit_any hb tb cb mb g vs ws now sts w h.ph h2 hl).mono ?_
  rintro e w' ⟨c, rfl, hc⟩
  refine ⟨c, rfl, ?_⟩
  rcases hc with ⟨h1, h2, hp, hf⟩ | ⟨h1, h2, h3, hp, hf⟩ | ⟨h1, h2, h3, vs', hp, hf, hm⟩
  · exact .inl ⟨h1, h2, h.new hf, hf⟩
  · exact .inr (.inl ⟨h1, h2, h3, h.new hf, hf⟩)
  · exact .inr (.inr ⟨h1, h2, h3, vs', h.onto hf hp hm, hf⟩)
theorem image_ (h : Hf w0 sb hb tb cb mb g vs vn un A ws now shp sts w) : Calls Tryz.prog 21 #[.pointer (some ⟨hb, 0, none⟩)] w fun e w' => e = .returned (.slice (some ⟨w.heap.size, 0, none⟩) ws.length ws.length) ∧ Row w' w.heap.size ws ∧ Hf w0 sb hb tb cb mb g vs vn un A ws now shp sts w' ∧ Fr New w w' := by
  refine (himage_any hb tb cb mb g vs ws now sts w h.ph).mono ?_
  rintro e w' ⟨rfl, hR, hf⟩
  exact ⟨rfl, hR, h.new hf, hf⟩
theorem stores_ (h : Hf w0 sb hb tb cb mb g vs vn un A ws now shp sts w) : Calls Tryz.prog 25 #[.pointer (some ⟨hb, 0, none⟩)] w fun e w' => ∃ sa sc, e = .returned (.slice sa sts.length sc) ∧ Hf w0 sb hb tb cb mb g (.slice none 0 0) vn un A ws now shp [] w' ∧ Fr (fun k => k = tb) w w' := by
  refine (hstores_any hb tb cb mb g vs ws now sts w h.ph).mono ?_
  rintro e w' ⟨rfl, hp, hf, ho, _⟩
  obtain ⟨sa, sc, e⟩ := own_slice ho
  exact ⟨sa, sc, by rw [e], h.told hf hp, hf⟩
theorem write_ (h : Hf w0 sb hb tb cb mb g vs vn un A ws now shp sts w) (n i v : Int) (h0 : -9223372036854775808 ≤ n) (h1 : n ≤ 9223372036854775807) (hv : U v) : Calls Tryz.prog 26 #[.pointer (some ⟨hb, 0, none⟩), .int .i64 n, .int .i64 i, .int .u64 v] w fun e w' => e = .returned (.int .i64 (writeS now n i v).2) ∧ Hf w0 sb hb tb cb mb g vs vn un A ws (writeS now n i v).1 shp sts w' ∧ Fr (fun k => k = mb) w w' := by
  refine (hwrite_any hb tb cb mb g vs ws now sts n i v w h0 h1 hv h.ph).mono ?_
  rintro e w' ⟨rfl, hp, hf⟩
  exact ⟨rfl, h.op hf hp, hf⟩
theorem is_ (h : Hf w0 sb hb tb cb mb g vs vn un A ws now shp sts w) (r0 r1 r2 r3 : Int) : Calls Tryz.prog 19 #[.pointer (some ⟨hb, 0, none⟩), .agg #[vn, .int .i64 r0, .int .i64 r1, .int .i64 r2, .int .i64 r3]] w fun e w' => ∃ b, e = .returned (.bool b) ∧ (b = true ↔ IsIt now (things shp) r0 r1 r2 r3) ∧ Fr New w w' :=
  kis_any hb tb cb mb g vs ws now sts vn (things shp) un r0 r1 r2 r3 w h.ph h.tn
theorem at_ (h : Hf w0 sb hb tb cb mb g vs vn un A ws now shp sts w) (r0 r1 r2 r3 x : Int) : Calls Tryz.prog 27 #[.agg #[vn, .int .i64 r0, .int .i64 r1, .int .i64 r2, .int .i64 r3], .int .u64 x] w fun e w' => e = .returned (.int .i64 (findI (objs shp) x)) ∧ Fr New w w' := by
  have := kat_any vn (things shp) un r0 r1 r2 r3 x w h.tn
  rwa [show (things shp).map Prod.fst = objs shp by simp [things, Function.comp_def]] at this
end Hf
/-- out of a story -/
theorem Story.half {F : Nat → Prop} {sb n : Nat} {ws now : List Int} {sts : List St} {w0 w : World} (h : Story F sb n ws now sts w) (hF : ∀ k, F k → w0.heap.size ≤ k) (hf : Fr New w0 w) : ∃ hb tb cb mb g vs vn vk un, Hf w0 sb hb tb cb mb g vs vn un (stArr hb n vn vk now ws) ws now now sts w := by
  obtain ⟨hb, tb, cb, mb, g, vs, vn, vk, un, uk, S, hFt⟩ := h
  refine ⟨hb, tb, cb, mb, g, vs, vn, vk, un, S.blk, S.ph, S.tn, S.gn, fun k hk => hF k (hFt k ?_), hf⟩
  rcases hk with hk | (hk | hk | hk | hk) | hk
  · exact .inl hk
  · exact .inr (.inr (.inl hk))
  · exact .inr (.inr (.inr (.inr (.inl hk))))
  · exact .inr (.inr (.inr (.inr (.inr (.inl hk)))))
  · exact .inr (.inr (.inr (.inr (.inr (.inr (.inl hk))))))
  · exact .inr (.inr (.inr (.inr (.inr (.inr (.inr (.inl hk)))))))
end Go.Proofs.YtbagcjlimdilpaaGreat
/- What Firm needs: words with two objects and one root, and what is refused of them. -/
namespace Go.Proofs.YtbagcjlimdilpaaGreat
open Go.RowKit Go.Maps

/-- the objects of Firm -/
abbrev fobs : List Ob := [⟨0, 1, 1⟩, ⟨1, 1, 0⟩]
theorem fidx (x : Int) : idx fobs x = if x = 1 then some 0 else if x = 2 then some 1 else none := by
  unfold idx
  simp only [List.findIdx?_cons, List.findIdx?_nil, Nat.zero_add, Nat.reduceAdd]
  by_cases h1 : x = 1
  · subst h1; rfl
  · rw [if_neg h1, if_neg (by simp; omega)]
    by_cases h3 : x = 2
    · subst h3; rfl
    · rw [if_neg h3, if_neg (by simp; omega)]
      rfl
structure Fm (n : Nat) (now : List Int) : Prop where
  hw : HW (imgL n) now
  ob : objs now = fobs
  r0 : wd now 3 = 0
  r1 : wd now 4 = 0
  r2 : wd now 5 = 0
  r3 : wd now 6 = 1
theorem Fm.more {n : Nat} {now now' : List Int} (h : Fm n now) (hw : HW (imgL n) now') (ho : objs now' = objs now) (hq : ∀ q, q < 106 → wd now' q = wd now q) : Fm n now' :=
  ⟨hw, ho.trans h.ob, (hq 3 (by omega)).trans h.r0, (hq 4 (by omega)).trans h.r1, (hq 5 (by omega)).trans h.r2, (hq 6 (by omega)).trans h.r3⟩
theorem fm_alloc {n : Nat} {now1 now2 : List Int} (h3 : 3 ≤ n) (h32 : n ≤ 32) (h1 : AllocTo (imgL n) n 1 1 now1) (h2 : AllocTo now1 n 1 0 now2) : HW (imgL n) now2 ∧ objs now2 = fobs ∧ setRootS now2 3 1 = (now2.set 6 1, 0) ∧ Fm n (now2.set 6 1) := by
  obtain ⟨hw0, e1, h0⟩ := imgL_hw n (by omega) h32
  obtain ⟨l1, l2, a1⟩ := alloc_first (b := 0) h1 (by rw [e1]; exact ⟨by omega, fun o ho => by cases ho⟩) (fun b' h => by omega)
  have o1 : objs now1 = [⟨0, 1, 1⟩] := by rw [alloced_last a1 (fun x hx => by rw [e1] at hx; cases hx), e1]; rfl
  obtain ⟨m1, m2, a2⟩ := alloc_first (b := 1) h2 (by rw [o1]; exact ⟨by omega, fun o ho => by simp at ho; subst ho; simp⟩) (fun b' hb hf => by
    rw [o1] at hf
    have := hf.2 ⟨0, 1, 1⟩ (by simp)
    simp only at this
    omega)
  have o2 : objs now2 = fobs := by rw [alloced_last a2 (fun x hx => by rw [o1] at hx; simp at hx; subst hx; simp), o1]; rfl
  have hw2 : HW (imgL n) now2 := (hw0.to a1.good a1.len (fun q _ h => a1.head q h)).to a2.good a2.len (fun q _ h => a2.head q h)
  have hl : now2.length = 106 + 8 * n := by rw [hw2.len, imgL_len]
  have hnd : Hnd (objs now2) 1 := ⟨⟨0, 1, 1⟩, by rw [o2]; simp, rfl⟩
  obtain ⟨g1, g2, g3, g4⟩ := root_good hw2.gn (i := 3) (n := 1) (by omega) (.inr hnd)
  have hz : ∀ q, 3 ≤ q → q < 6 → wd (now2.set 6 1) q = 0 := fun q k1 k2 => by
    rw [wd_set (by omega), if_neg (by omega), a2.head q (by omega), a1.head q (by omega), h0 q (by omega) (by omega)]
  refine ⟨hw2, o2, ?_, hw2.to g1 (by simp) (fun q h1 h2 => g4 q (by omega)), g2.trans o2, hz 3 (by omega) (by omega), hz 4 (by omega) (by omega), hz 5 (by omega) (by omega), by rw [wd_set (by omega), if_pos rfl]⟩
  unfold setRootS
  rw [if_neg (by omega), if_neg (fun hx => idx_hnd.2 hnd hx.2)]
  rfl
/-- a root that is noted behind SetRoot -/
theorem root_late {F : Nat → Prop} {sb n hb tb cb mb g : Nat} {vs vn vk : Value} {un uk : List Value} {ws now : List Int} {sts : List St} {w w2 : World} {i : Nat} {x : Int}
    (S : Sty sb n hb tb cb mb g vs vn vk un uk ws now sts w) (hF : ∀ k, Foot sb hb tb cb mb g vs vn vk un uk k → F k) (hi : i < 4) (hx : x = 0 ∨ Hnd (objs now) x)
    (hph : PH hb tb cb mb g vs ws (now.set (3 + i) x) sts w2) (hfr : Fr (fun k => k = mb) w w2) :
    Story F sb n ws (now.set (3 + i) x) sts (w2.setCell ⟨sb, 3 + i, none⟩ (.int .i64 x)) ∧ Fr F w (w2.setCell ⟨sb, 3 + i, none⟩ (.int .i64 x)) := by
  obtain ⟨n1, n2, n3⟩ := S.next hfr hph
  have hst : Fr (fun k => k = sb) w2 (w2.setCell ⟨sb, 3 + i, none⟩ (.int .i64 x)) := (Fr.refl (fun k => k = sb) w2).setCell (p := ⟨sb, 3 + i, none⟩) (fun _ => rfl) _
  have b1 : (w2.setCell ⟨sb, 3 + i, none⟩ (.int .i64 x)).heap[sb]? = some (.cells (stArr hb n vn vk (now.set (3 + i) x) ws) 39 (0, 0)) := by
    rw [heap_setCell_same _ sb (3 + i) _ _ _ n1, stArr_root hb n vn vk now ws i hi (by have := S.lens; omega) x]
  obtain ⟨g1, g2, g3, g4⟩ := root_good S.hw.gn hi hx
  have hth : things (now.set (3 + i) x) = things now := by
    unfold things
    rw [g2]
    exact List.map_congr_left (fun o _ => by rw [g3])
  refine ⟨⟨hb, tb, cb, mb, g, vs, vn, vk, un, uk, ⟨b1, hph.story n1 hst, S.hw.to g1 (by simp) (fun q h1 h2 => g4 q (by omega)), ?_, n3.story n1 hst, S.n, S.gn, S.gk, S.nk⟩, hF⟩, ?_⟩
  · rw [hth]
    exact n2.story n1 hst
  · exact (hfr.mono (fun j _ e => by subst e; exact hF _ (.inr (.inr (.inr (.inr (.inl rfl)))))) : Fr F w w2).trans hst (fun j _ e => by subst e; exact hF _ (.inl rfl))
/-- a word is written, or a pointer -/
theorem play_four (F : Nat → Prop) (sb n : Nat) (ws now : List Int) (sts : List St) (a b c : Int) (w : World) (ha : I64 a) (hb : I64 b) (hc : I64 c) (h : Story F sb n ws now sts w) (hne : (things now).length ≠ 0) :
    Calls Tryz.prog 18 #[.pointer (some ⟨sb, 0, none⟩), .int .i64 4, .int .i64 a, .int .i64 b, .int .i64 c] w fun e w' => e = .returned (.bool true) ∧ PlayedW F sb n ws now sts w w' := by
  have h4 : pickN 4 8 = 4 := by decide
  have hw : I64 4 := by unfold I64; omega
  have hk := pickN_lt a hne
  by_cases hd : pickN b ((things now)[pickN a (things now).length]).2.length < ((things now)[pickN a (things now).length]).1.ptrs
  · by_cases h5 : pickN c 5 = 0
    · exact play_write_z4 F sb n ws now sts 4 a b c w hw ha hb hc (fun _ => hd) h5 h hne h4
    · exact play_write_p4 F sb n ws now sts 4 a b c w hw ha hb hc (fun _ => hd) h5 h hne h4
  · exact play_write_d4 F sb n ws now sts 4 a b c w hw ha hb (fun _ => hd) h hne h4
namespace Hf
variable {w0 w : World} {sb hb tb cb mb g : Nat} {vs vn : Value} {un : List Value} {A : Array Value} {ws now shp : List Int} {sts : List St}
/-- what is refused -/
theorem badAlloc (h : Hf w0 sb hb tb cb mb g vs vn un A ws now shp sts w) (hbd : bads now = []) (s p : Int) (hn : ¬ argOk s p) : Calls Tryz.prog 38 #[.pointer (some ⟨hb, 0, none⟩), .int .i64 s, .int .i64 p] w fun e w' => e = .returned (.tuple #[.int .i64 0, .int .i64 1]) ∧ Hf w0 sb hb tb cb mb g vs vn un A ws now shp sts w' ∧ Fr (fun k => k = mb) w w' := by
  refine (halloc_any hb tb cb mb g vs ws now sts s p w h.ph hbd).mono ?_
  rintro e w' ⟨r, hd, c, rfl, hA, hp, hf⟩
  rcases hA with ⟨_, rfl, rfl, rfl⟩ | ⟨h1, _⟩ | ⟨h1, _⟩
  · exact ⟨rfl, h.op hf hp, hf⟩
  · exact absurd h1 hn
  · exact absurd h1 hn
theorem noRead (h : Hf w0 sb hb tb cb mb g vs vn un A ws now shp sts w) (ho : objs now = fobs) (n i : Int) (h0 : -9223372036854775808 ≤ n) (h1 : n ≤ 9223372036854775807) (hn : n ≠ 1 ∧ n ≠ 2) : Calls Tryz.prog 39 #[.pointer (some ⟨hb, 0, none⟩), .int .i64 n, .int .i64 i] w fun e w' => e = .returned (.tuple #[.int .u64 0, .int .i64 9]) ∧ Fr New w w' := by
  have := hread_any hb tb cb mb g vs ws now sts n i w h0 h1 h.ph
  rwa [show readS now n i = (0, 9) by unfold readS; rw [ho, fidx, if_neg hn.1, if_neg hn.2]] at this
theorem noWrite (h : Hf w0 sb hb tb cb mb g vs vn un A ws now shp sts w) (ho : objs now = fobs) (n i v : Int) (h0 : -9223372036854775808 ≤ n) (h1 : n ≤ 9223372036854775807) (hv : U v) (hn : n ≠ 1 ∧ n ≠ 2) : Calls Tryz.prog 26 #[.pointer (some ⟨hb, 0, none⟩), .int .i64 n, .int .i64 i, .int .u64 v] w fun e w' => e = .returned (.int .i64 9) ∧ Hf w0 sb hb tb cb mb g vs vn un A ws now shp sts w' ∧ Fr (fun k => k = mb) w w' := by
  have := h.write_ n i v h0 h1 hv
  rwa [show writeS now n i v = (now, 9) by unfold writeS; rw [ho, fidx, if_neg hn.1, if_neg hn.2]] at this
theorem noFree (h : Hf w0 sb hb tb cb mb g vs vn un A ws now shp sts w) (ho : objs now = fobs) (n : Int) (h0 : -9223372036854775808 ≤ n) (h1 : n ≤ 9223372036854775807) (hn : n ≠ 1 ∧ n ≠ 2) : Calls Tryz.prog 40 #[.pointer (some ⟨hb, 0, none⟩), .int .i64 n] w fun e w' => e = .returned (.int .i64 9) ∧ Hf w0 sb hb tb cb mb g vs vn un A ws now shp sts w' ∧ Fr (fun k => k = mb) w w' := by
  have hx : idx (objs now) n = none := by rw [ho, fidx, if_neg hn.1, if_neg hn.2]
  refine (hfree_any hb tb cb mb g vs ws now sts n w h0 h1 h.ph).mono ?_
  rintro e w' ⟨r, c, rfl, hF, hp, hf⟩
  rcases hF with ⟨_, rfl, rfl⟩ | ⟨k1, _⟩ | ⟨k, _, k1, _⟩
  · exact ⟨rfl, h.op hf hp, hf⟩
  · exact absurd hx k1
  · rw [hx] at k1; cases k1
theorem noRoot (h : Hf w0 sb hb tb cb mb g vs vn un A ws now shp sts w) (ho : objs now = fobs) (n : Int) (h0 : -9223372036854775808 ≤ n) (h1 : n ≤ 9223372036854775807) (hn : n ≠ 0 ∧ n ≠ 1 ∧ n ≠ 2) : Calls Tryz.prog 35 #[.pointer (some ⟨hb, 0, none⟩), .int .i64 0, .int .i64 n] w fun e w' => e = .returned (.int .i64 9) ∧ Hf w0 sb hb tb cb mb g vs vn un A ws now shp sts w' ∧ Fr (fun k => k = mb) w w' := by
  refine (hsetRoot_any hb tb cb mb g vs ws now sts 0 n w h0 h1 h.ph).mono ?_
  rw [show setRootS now 0 n = (now, 9) by unfold setRootS; rw [if_neg (by omega), if_pos ⟨hn.1, by rw [ho, fidx, if_neg hn.2.1, if_neg hn.2.2]⟩]]
  rintro e w' ⟨rfl, hp, hf⟩
  exact ⟨rfl, h.op hf hp, hf⟩
theorem farRead (h : Hf w0 sb hb tb cb mb g vs vn un A ws now shp sts w) (ho : objs now = fobs) (i : Int) (hi : i < 0 ∨ 7 ≤ i) : Calls Tryz.prog 39 #[.pointer (some ⟨hb, 0, none⟩), .int .i64 1, .int .i64 i] w fun e w' => e = .returned (.tuple #[.int .u64 0, .int .i64 1]) ∧ Fr New w w' := by
  have := hread_any hb tb cb mb g vs ws now sts 1 i w (by omega) (by omega) h.ph
  rwa [show readS now 1 i = (0, 1) by
    unfold readS
    rw [ho, fidx, if_pos rfl]
    dsimp only
    rw [show (fobs.getD 0 ⟨0, 0, 0⟩) = ⟨0, 1, 1⟩ from rfl, if_pos (by simp only; omega)]] at this
theorem farWrite (h : Hf w0 sb hb tb cb mb g vs vn un A ws now shp sts w) (ho : objs now = fobs) (i : Int) (hi : i < 0 ∨ 7 ≤ i) : Calls Tryz.prog 26 #[.pointer (some ⟨hb, 0, none⟩), .int .i64 1, .int .i64 i, .int .u64 0] w fun e w' => e = .returned (.int .i64 1) ∧ Hf w0 sb hb tb cb mb g vs vn un A ws now shp sts w' ∧ Fr (fun k => k = mb) w w' := by
  have := h.write_ 1 i 0 (by omega) (by omega) (by unfold U; omega)
  rwa [show writeS now 1 i 0 = (now, 1) by
    unfold writeS
    rw [ho, fidx, if_pos rfl]
    dsimp only
    rw [show (fobs.getD 0 ⟨0, 0, 0⟩) = ⟨0, 1, 1⟩ from rfl, if_pos (by simp only; omega)]] at this
theorem farRoot (h : Hf w0 sb hb tb cb mb g vs vn un A ws now shp sts w) (i : Int) (hi : i < 0 ∨ 4 ≤ i) : Calls Tryz.prog 41 #[.pointer (some ⟨hb, 0, none⟩), .int .i64 i] w fun e w' => e = .returned (.tuple #[.int .i64 0, .int .i64 1]) ∧ w' = w := by
  have := hroot_any hb tb cb mb g vs ws now sts i w h.ph
  rwa [show rootS now i = (0, 1) by unfold rootS; rw [if_pos hi]] at this
theorem farSetRoot (h : Hf w0 sb hb tb cb mb g vs vn un A ws now shp sts w) (i : Int) (hi : i < 0 ∨ 4 ≤ i) : Calls Tryz.prog 35 #[.pointer (some ⟨hb, 0, none⟩), .int .i64 i, .int .i64 (-1)] w fun e w' => e = .returned (.int .i64 1) ∧ Hf w0 sb hb tb cb mb g vs vn un A ws now shp sts w' ∧ Fr (fun k => k = mb) w w' := by
  refine (hsetRoot_any hb tb cb mb g vs ws now sts i (-1) w (by omega) (by omega) h.ph).mono ?_
  rw [show setRootS now i (-1) = (now, 1) by unfold setRootS; rw [if_pos hi]]
  rintro e w' ⟨rfl, hp, hf⟩
  exact ⟨rfl, h.op hf hp, hf⟩
theorem badPtr (h : Hf w0 sb hb tb cb mb g vs vn un A ws now shp sts w) (ho : objs now = fobs) (v : Int) (hv : U v) (hn : v ≠ 0 ∧ v ≠ 1 ∧ v ≠ 2) : Calls Tryz.prog 26 #[.pointer (some ⟨hb, 0, none⟩), .int .i64 1, .int .i64 0, .int .u64 v] w fun e w' => e = .returned (.int .i64 7) ∧ Hf w0 sb hb tb cb mb g vs vn un A ws now shp sts w' ∧ Fr (fun k => k = mb) w w' := by
  have := h.write_ 1 0 v (by omega) (by omega) hv
  rwa [show writeS now 1 0 v = (now, 7) by
    unfold writeS
    rw [ho, fidx, if_pos rfl]
    dsimp only
    rw [show (fobs.getD 0 ⟨0, 0, 0⟩) = ⟨0, 1, 1⟩ from rfl, if_neg (by simp only; omega), if_pos ⟨by simp only; omega, hn.1, by rw [fidx, if_neg hn.2.1, if_neg hn.2.2]⟩]] at this
theorem heldFree (h : Hf w0 sb hb tb cb mb g vs vn un A ws now shp sts w) (ho : objs now = fobs) (h6 : wd now 6 = 1) : Calls Tryz.prog 40 #[.pointer (some ⟨hb, 0, none⟩), .int .i64 1] w fun e w' => e = .returned (.int .i64 10) ∧ Hf w0 sb hb tb cb mb g vs vn un A ws now shp sts w' ∧ Fr (fun k => k = mb) w w' := by
  have hx : idx (objs now) 1 = some 0 := by rw [ho]; rfl
  have hH : HeldBy now (objs now) 1 := .inl ⟨3, by omega, h6⟩
  refine (hfree_any hb tb cb mb g vs ws now sts 1 w (by omega) (by omega) h.ph).mono ?_
  rintro e w' ⟨r, c, rfl, hF, hp, hf⟩
  rcases hF with ⟨k1, _⟩ | ⟨_, _, rfl, rfl⟩ | ⟨k, _, _, k1, _⟩
  · rw [hx] at k1; cases k1
  · exact ⟨rfl, h.op hf hp, hf⟩
  · exact absurd hH k1
end Hf
end Go.Proofs.YtbagcjlimdilpaaGreat
