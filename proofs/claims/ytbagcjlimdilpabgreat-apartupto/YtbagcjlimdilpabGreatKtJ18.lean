/- Texts that follow one another, joined. -/
import Derived.Test.YtbagcjlimdilpabGreatKtKqJ
import Derived.Test.YtbagcjlimdilpabGreatKtJ13
import Derived.Test.YtbagcjlimdilpabGreatKtKqD
import Derived.Test.YtbagcjlimdilpabGreatKtJ17
/- What a story is behind a word that is written. -/
namespace Go.Proofs.YtbagcjlimdilpabGreat
open Go.RowKit Go.Maps

theorem ktCells_set : ∀ (l : List Th) (us : List Value) (k : Nat) (hk : k < l.length) (z : List Int), ktCells (l.set k ((l[k]).1, z)) us = ktCells l us
  | x :: l, [], 0, _, _ => rfl
  | x :: l, v :: us, 0, _, _ => rfl
  | x :: l, [], k + 1, _, _ => by simp [ktCells]
  | x :: l, v :: us, k + 1, hk, z => by
    have := ktCells_set l us k (by simpa using hk) z
    simp only [List.set_cons_succ, ktCells, List.getElem_cons_succ]
    rw [this]
theorem ThAt.write {w : World} {v : Value} {l : List Th} {us : List Value} (h : ThAt w v l us) {k gi ci i : Nat} (hk : k < l.length) (hu : ∃ hv : k < us.length, us[k] = .slice (some ⟨gi, 0, none⟩) (l[k]).2.length ci) (y : Int) :
    ThAt (w.setCell ⟨gi, i, none⟩ (.int .u64 y)) v (l.set k ((l[k]).1, (l[k]).2.set i y)) us := by
  obtain ⟨hku, hu⟩ := hu
  have hst : Fr (fun j => j = gi) w (w.setCell ⟨gi, i, none⟩ (.int .u64 y)) := (Fr.refl (fun j => j = gi) w).setCell (p := ⟨gi, i, none⟩) (fun _ => rfl) _
  have hrk := h.rows k hk hku
  rw [hu] at hrk
  obtain ⟨_, cg, hgb⟩ := own_block hrk (g := gi) rfl
  refine ⟨?_, by simpa using h.len, fun j hj hv => ?_, fun x hx => ?_, h.apart, by simpa using h.n⟩
  · rw [ktCells_set l us k hk, List.length_set]
    refine hst.owns h.own (fun g hg e => ?_)
    obtain ⟨_, c, hc⟩ := own_block h.own hg
    exact type_ne hc hgb (by decide) e
  · have hjl : j < l.length := by simpa using hj
    by_cases hjk : j = k
    · subst hjk
      have e1 : (l.set j ((l[j]).1, (l[j]).2.set i y))[j] = ((l[j]).1, (l[j]).2.set i y) := by simp
      rw [e1, hu]
      have := (hrk.stored i (.int .u64 y)).1
      unfold Own
      rw [List.length_set, List.map_set]
      exact this
    · have e1 : (l.set k ((l[k]).1, (l[k]).2.set i y))[j] = l[j] := by rw [List.getElem_set_ne (fun e => hjk e.symm)]
      rw [e1]
      refine hst.owns (h.rows j hjl hv) (fun g hg e => ?_)
      subst e
      have hpw := List.pairwise_iff_getElem.1 h.apart
      rcases Nat.lt_or_gt_of_ne hjk with hlt | hgt
      · exact hpw j k hv hku hlt (by rw [hg, hu]; rfl)
      · exact hpw k j hku hv hgt (by rw [hg, hu]; rfl)
  · rcases List.mem_or_eq_of_mem_set hx with hx | rfl
    · exact h.fit x hx
    · have := h.fit _ (List.getElem_mem hk)
      simpa using this
/-- the words of a thing are the heap's -/
theorem things_at {now : List Int} {k : Nat} (hk : k < (things now).length) : ∃ hk' : k < (objs now).length, (things now)[k] = ((objs now)[k], objW now (objs now)[k]) := by
  exact ⟨by rwa [things_len] at hk, List.getElem_map ..⟩
theorem things_write {now : List Int} {k i : Nat} {y : Int} (g : Good now) (hk : k < (things now).length) (hi : i < 8 * ((things now)[k]).1.span - 1) (hy : i < ((things now)[k]).1.ptrs → y = 0 ∨ Hnd (objs now) y) :
    Good (now.set (pl ((things now)[k]).1 i) y) ∧ things (now.set (pl ((things now)[k]).1 i) y) = (things now).set k (((things now)[k]).1, ((things now)[k]).2.set i y) ∧ objs (now.set (pl ((things now)[k]).1 i) y) = objs now ∧ ∀ q, q < 106 → wd (now.set (pl ((things now)[k]).1 i) y) q = wd now q := by
  obtain ⟨hk', e⟩ := things_at hk
  rw [e] at hi hy ⊢
  simp only at hi hy ⊢
  obtain ⟨q1, q2, q3, q4, q5⟩ := write_good g (List.getElem_mem hk') hi hy
  refine ⟨q1, ?_, q2, q5⟩
  refine List.ext_getElem (by simp [things_len, q2]) (fun j h1 h2 => ?_)
  have hj : j < (objs now).length := by simpa [things_len] using h2
  obtain ⟨hj2, e2⟩ := things_at h1
  rw [e2]
  have e3 : (objs (now.set (pl (objs now)[k] i) y))[j] = (objs now)[j] := by simp only [q2]
  rw [e3, List.getElem_set]
  by_cases hjk : k = j
  · subst hjk
    rw [if_pos rfl, q3]
  · rw [if_neg hjk]
    obtain ⟨_, e4⟩ := things_at (show j < (things now).length by rw [things_len]; exact hj)
    rw [e4, q4 _ (List.getElem_mem hj) (fun e5 => ?_)]
    have hap := objs_asc now
    rcases Nat.lt_or_gt_of_ne hjk with hlt | hgt
    · have := hap k j hk' hj hlt; rw [e5] at this; omega
    · have := hap j k hj hk' hgt; rw [e5] at this; omega
/-- a story behind a word that is written -/
theorem write_end {F : Nat → Prop} {sb n hb tb cb mb g : Nat} {vs vn vk : Value} {un uk : List Value} {ws now : List Int} {sts : List St} {w wr w1 w3 : World} {k i gi ci : Nat} {y : Int}
    (S : Sty sb n hb tb cb mb g vs vn vk un uk ws now sts w) (hF : ∀ k, Foot sb hb tb cb mb g vs vn vk un uk k → F k) (hf : Fr New w wr) (hk : k < (things now).length) (hu : ∃ hv : k < un.length, un[k] = .slice (some ⟨gi, 0, none⟩) ((things now)[k]).2.length ci)
    (hi : i < 8 * ((things now)[k]).1.span - 1) (hy : i < ((things now)[k]).1.ptrs → y = 0 ∨ Hnd (objs now) y)
    (hph : PH hb tb cb mb g vs ws (now.set (pl ((things now)[k]).1 i) y) sts w1) (hfr : Fr (fun k => k = mb) wr w1) (hf3 : Fr New (w1.setCell ⟨gi, i, none⟩ (.int .u64 y)) w3) :
    PH hb tb cb mb g vs ws (now.set (pl ((things now)[k]).1 i) y) sts (w1.setCell ⟨gi, i, none⟩ (.int .u64 y)) ∧ Story F sb n ws (now.set (pl ((things now)[k]).1 i) y) sts w3 ∧ Fr F w w3 := by
  obtain ⟨q1, q2, q3, q4⟩ := things_write S.hw.gn hk hi hy
  obtain ⟨n1, n2, n3⟩ := (S.new hf).next hfr hph
  obtain ⟨hkv, hue⟩ := hu
  have hgm : un[k] ∈ un := List.getElem_mem hkv
  have hgg : gi ≠ g := fun e => S.gn _ hgm (by rw [hue, e]; rfl)
  have hrk := n2.rows k hk hkv
  rw [hue] at hrk
  obtain ⟨_, cg, hgb⟩ := own_block hrk (g := gi) rfl
  have hst : Fr (fun j => j = gi) w1 (w1.setCell ⟨gi, i, none⟩ (.int .u64 y)) := (Fr.refl (fun j => j = gi) w1).setCell (p := ⟨gi, i, none⟩) (fun _ => rfl) _
  have hp2 : PH hb tb cb mb g vs ws (now.set (pl ((things now)[k]).1 i) y) sts (w1.setCell ⟨gi, i, none⟩ (.int .u64 y)) := by
    refine hph.fr hst (fun e => type_ne hph.hp hgb (by decide) e) (fun e => type_ne hph.tg.t.td hgb (by decide) e) (fun e => type_ne hph.cg.cg hgb (by decide) e) (fun e => hph.mapNe hgb e.symm) (fun e => hgg e.symm) (fun j hj e => ?_)
    obtain ⟨_, c', hc⟩ := own_block hph.tg.o hj
    exact type_ne hc hgb (by decide) e
  have ht2 := n2.write hk ⟨hkv, hue⟩ (i := i) y
  rw [← q2] at ht2
  have hb2 := hst.heap n1 (fun e => type_ne n1 hgb (by decide) e)
  have hk2 := n3.fr hst (fun j hj e => by
    subst e
    rcases hj with hj | ⟨u', hu', hj⟩
    · obtain ⟨_, c, hc⟩ := own_block n3.own hj
      exact type_ne hgb hc (by decide) rfl
    · exact S.nk _ hgm _ hu' (by rw [hue, hj]; rfl))
  refine ⟨hp2, ⟨hb, tb, cb, mb, g, vs, vn, vk, un, uk, ⟨?_, hp2.new hf3, S.hw.to q1 (by simp) (fun q _ h2 => q4 q h2), ht2.new hf3, hk2.new hf3, S.n, S.gn, S.gk, S.nk⟩, hF⟩, ?_⟩
  · rw [hf3.heap hb2 id]
    unfold stArr
    rw [q4 3 (by omega), q4 4 (by omega), q4 5 (by omega), q4 6 (by omega)]
  · have h1 : Fr F w w1 := (hf.mono (fun _ _ h => h.elim)).trans hfr (fun j _ e => by subst e; exact hF _ (.inr (.inr (.inr (.inr (.inl rfl))))))
    exact (h1.trans hst (fun j _ e => by subst e; exact hF _ (.inr (.inr (.inr (.inr (.inr (.inr (.inr (.inl (.inr ⟨_, hgm, by rw [hue]; rfl⟩))))))))))).same hf3
/-- what Write and Read answer, of a thing -/
theorem write_is {now : List Int} {k i : Nat} {y : Int} (hk : k < (things now).length) (hi : i < 8 * ((things now)[k]).1.span - 1) (hy : i < ((things now)[k]).1.ptrs → y = 0 ∨ Hnd (objs now) y) :
    writeS now ((((things now)[k]).1.block + 1 : Nat) : Int) (i : Int) y = (now.set (pl ((things now)[k]).1 i) y, 0) := by
  obtain ⟨hk', e⟩ := things_at hk
  rw [e] at hi hy ⊢
  simp only at hi hy ⊢
  have hx : idx (objs now) (((objs now)[k].block + 1 : Nat) : Int) = some k := idx_at (objs_asc now) hk' (by rw [hnd_eq hk'])
  have hgd : (objs now).getD k ⟨0, 0, 0⟩ = (objs now)[k] := by simp [List.getD, hk']
  unfold writeS
  rw [hx]
  dsimp only
  rw [hgd, if_neg (by omega), if_neg (fun ⟨h1, h2, h3⟩ => by
    rcases hy (by omega) with h | h
    · exact h2 h
    · exact idx_hnd.2 h h3), Int.toNat_natCast]
theorem read_is {now : List Int} {k i : Nat} (hk : k < (objs now).length) (hi : i < 8 * ((objs now)[k]).span - 1) :
    readS now ((((objs now)[k]).block + 1 : Nat) : Int) (i : Int) = (wd now (pl (objs now)[k] i), 0) := by
  have hx : idx (objs now) (((objs now)[k].block + 1 : Nat) : Int) = some k := idx_at (objs_asc now) hk (by rw [hnd_eq hk])
  have hgd : (objs now).getD k ⟨0, 0, 0⟩ = (objs now)[k] := by simp [List.getD, hk]
  unfold readS
  rw [hx]
  dsimp only
  rw [hgd, if_neg (by omega), Int.toNat_natCast]
theorem read_written {now : List Int} {k i : Nat} {y : Int} (g : Good now) (hk : k < (things now).length) (hi : i < 8 * ((things now)[k]).1.span - 1) (hy : i < ((things now)[k]).1.ptrs → y = 0 ∨ Hnd (objs now) y) :
    readS (now.set (pl ((things now)[k]).1 i) y) ((((things now)[k]).1.block + 1 : Nat) : Int) (i : Int) = (y, 0) := by
  obtain ⟨_, _, q3, _⟩ := things_write g hk hi hy
  obtain ⟨hk', e⟩ := things_at hk
  rw [e] at hi q3 ⊢
  simp only at hi q3 ⊢
  have hoi := objs_in (List.getElem_mem hk')
  have e1 : (objs (now.set (pl (objs now)[k] i) y))[k]'(by rw [q3]; exact hk') = (objs now)[k] := by simp only [q3]
  have := read_is (now := now.set (pl (objs now)[k] i) y) (k := k) (i := i) (by rw [q3]; exact hk') (by rw [e1]; exact hi)
  rw [e1] at this
  rw [this, wd_set (by unfold pl; omega), if_pos rfl]
end Go.Proofs.YtbagcjlimdilpabGreat

/- The walk of works: a heap keeps an object. -/
namespace Go.Proofs.YtbagcjlimdilpabGreat
open Go.RowKit Go.Maps

theorem nodup_le : ∀ {l m : List Nat}, l.Nodup → (∀ x ∈ l, x ∈ m) → l.length ≤ m.length
  | [], _, _, _ => by simp
  | x :: l, m, hn, h => by
    obtain ⟨h1, h2⟩ := List.nodup_cons.1 hn
    have hx := h x (by simp)
    have := nodup_le (m := m.erase x) h2 (fun y hy => (List.mem_erase_of_ne (fun e => h1 (by rw [← e]; exact hy))).2 (h y (List.mem_cons_of_mem _ hy)))
    rw [List.length_erase_of_mem hx] at this
    have := List.length_pos_of_mem hx
    simp only [List.length_cons]
    omega
/-- how many records a Commit has, at most -/
theorem recs_few {ws nx : List Int} {m : List Nat} (h : ∀ q, q < ws.length → q ∉ m → wd nx q = wd ws q) : (recsOf ws nx).length ≤ m.length := by
  rw [recs_len]
  refine nodup_le (difP_nodup ws nx) (fun q hq => ?_)
  obtain ⟨h1, h2⟩ := mem_difP.1 hq
  by_cases hm : q ∈ m
  · exact hm
  · exact absurd (h q h1 hm) h2
theorem works_alloc {now1 : List Int} (h : AllocTo (imgL 2) 2 1 1 now1) : ∃ l1 l2, Alloced (imgL 2) now1 ⟨0, 1, 1⟩ l1 l2 := by
  have e1 := (imgL_hw 2 (by omega) (by omega)).2.1
  have hf : FreeRow (objs (imgL 2)) 2 1 0 := by rw [e1]; exact ⟨by omega, fun o ho => by cases ho⟩
  rcases h with ⟨_, h⟩ | ⟨b, l1, l2, _, h2, h3⟩
  · exact absurd hf (h 0)
  · obtain rfl : b = 0 := by
      rcases Nat.eq_zero_or_pos b with h | h
      · exact h
      · exact absurd hf (h2 0 h)
    exact ⟨l1, l2, h3⟩
/-- the words of works -/
structure Works (now1 : List Int) : Prop where
  root : setRootS now1 0 1 = (now1.set 3 1, 0)
  write : writeS (now1.set 3 1) 1 0 1 = ((now1.set 3 1).set 107 1, 0)
  hw : HW (imgL 2) ((now1.set 3 1).set 107 1)
  few : (recsOf (imgL 2) (nextS ((now1.set 3 1).set 107 1))).length ≤ 48
  ne : (now1.set 3 1).set 107 1 ≠ imgL 2
  end' : wd (pcommitW (imgL 2) ((now1.set 3 1).set 107 1)) 106 = 1000101 ∧ wd (pcommitW (imgL 2) ((now1.set 3 1).set 107 1)) 107 = 1 ∧ wd (pcommitW (imgL 2) ((now1.set 3 1).set 107 1)) 3 = 1 ∧ wd (pcommitW (imgL 2) ((now1.set 3 1).set 107 1)) 2 = 1
theorem works_words {now1 : List Int} {l1 l2 : List Ob} (h : Alloced (imgL 2) now1 ⟨0, 1, 1⟩ l1 l2) : Works now1 := by
  obtain ⟨hw0, e1, h0⟩ := imgL_hw 2 (by omega) (by omega)
  have hl1 : now1.length = 122 := by rw [h.len, imgL_len]
  have hobj : objs now1 = [⟨0, 1, 1⟩] := by
    have := h.was
    rw [e1] at this
    have hn := List.append_eq_nil_iff.1 this.symm
    rw [h.objs, hn.1, hn.2]
    rfl
  have hnd : Hnd (objs now1) 1 := ⟨⟨0, 1, 1⟩, by rw [hobj]; simp, rfl⟩
  have hz : ∀ q, q ≠ 106 → wd now1 q = wd (imgL 2) q := fun q hq => by
    by_cases hq2 : q < 106 ∨ 114 ≤ q
    · exact h.rest q (by simp only; omega)
    · rw [h.zero q (by simp only; omega) (by simp only; omega), h0 q (by omega) (by omega)]
  have hh : wd now1 106 = 1000101 := h.hdr
  have hw1 : HW (imgL 2) now1 := hw0.to h.good h.len (fun q _ h2 => h.head q h2)
  obtain ⟨g1, g2, g3, g4⟩ := root_good h.good (i := 0) (n := 1) (by omega) (.inr hnd)
  have hw2 : HW (imgL 2) (now1.set 3 1) := hw1.to g1 (by simp) (fun q h1 h2 => g4 q (by omega))
  have hob2 : objs (now1.set 3 1) = [⟨0, 1, 1⟩] := g2.trans hobj
  have hth : (things (now1.set 3 1))[0]'(by rw [things_len, hob2]; simp) = ((⟨0, 1, 1⟩ : Ob), objW (now1.set 3 1) ⟨0, 1, 1⟩) := by
    obtain ⟨_, e⟩ := things_at (now := now1.set 3 1) (k := 0) (by rw [things_len, hob2]; simp)
    rw [e]
    simp only [hob2, List.getElem_cons_zero]
  have hk : 0 < (things (now1.set 3 1)).length := by rw [things_len, hob2]; simp
  have hy : ∀ x : Th, x = ((⟨0, 1, 1⟩ : Ob), objW (now1.set 3 1) ⟨0, 1, 1⟩) → (0 < x.1.ptrs → (1 : Int) = 0 ∨ Hnd (objs (now1.set 3 1)) 1) := fun x hx _ => .inr (by rw [g2]; exact hnd)
  have hwr := write_is (now := now1.set 3 1) (k := 0) (i := 0) (y := 1) hk (by rw [hth]; simp only; omega) (hy _ hth)
  obtain ⟨t1, t2, t3, t4⟩ := things_write (y := 1) (i := 0) g1 hk (by rw [hth]; simp only; omega) (hy _ hth)
  rw [hth] at hwr t1 t3 t4
  have hpl : pl (⟨0, 1, 1⟩ : Ob) 0 = 107 := rfl
  simp only [hpl] at hwr t1 t3 t4
  have hw3 : HW (imgL 2) ((now1.set 3 1).set 107 1) := hw2.to t1 (by simp) (fun q _ h2 => t4 q h2)
  have hwd : ∀ q, wd ((now1.set 3 1).set 107 1) q = if q = 107 then 1 else if q = 3 then 1 else wd now1 q := fun q => by
    rw [wd_set (by simp; omega), wd_set (by omega)]
  have hnx := fun q => nextS_wd (now := (now1.set 3 1).set 107 1) (by simp; omega) q
  have few : (recsOf (imgL 2) (nextS ((now1.set 3 1).set 107 1))).length ≤ 48 := by
    refine Nat.le_trans (recs_few (m := [2, 3, 7, 106, 107]) (fun q _ hq => ?_)) (by simp)
    simp only [List.mem_cons, List.not_mem_nil, or_false, not_or] at hq
    rw [hnx, if_neg hq.2.2.1, if_neg hq.1, hwd, if_neg hq.2.2.2.2, if_neg hq.2.1]
    exact hz q hq.2.2.2.1
  have hout : ∀ q, q < 8 ∨ 106 ≤ q → wd (pcommitW (imgL 2) ((now1.set 3 1).set 107 1)) q = wd (nextS ((now1.set 3 1).set 107 1)) q := fun q hq => pcommit_out (by rw [imgL_len]; omega) hw3.len few hq
  refine ⟨?_, hwr, hw3, few, fun e => ?_, ?_, ?_, ?_, ?_⟩
  · unfold setRootS
    rw [if_neg (by omega), if_neg (fun hx => idx_hnd.2 hnd hx.2)]
    rfl
  · have this : wd ((now1.set 3 1).set 107 1) 107 = wd (imgL 2) 107 := by rw [e]
    rw [show wd ((now1.set 3 1).set 107 1) 107 = 1 by rw [hwd, if_pos rfl]] at this
    rw [h0 107 (by omega) (by omega)] at this
    omega
  · rw [hout 106 (by omega), hnx, if_neg (by omega), if_neg (by omega), hwd, if_neg (by omega), if_neg (by omega)]
    exact hh
  · rw [hout 107 (by omega), hnx, if_neg (by omega), if_neg (by omega), hwd, if_pos rfl]
  · rw [hout 3 (by omega), hnx, if_neg (by omega), if_neg (by omega), hwd, if_neg (by omega), if_pos rfl]
  · rw [hout 2 (by omega), hnx, if_neg (by omega), if_pos rfl, hwd, if_neg (by omega), if_neg (by omega), hz 2 (by omega), h0 2 (by omega) (by omega)]
    decide

set_option maxHeartbeats 2000000 in
set_option maxRecDepth 100000 in
theorem works_any (w : World) : Calls Tryz.prog 10 #[] w fun e w' => e = .returned (.bool true) ∧ Fr New w w' := by
  have HBG : Hid (Calls Tryz.prog 4 #[.int .i64 2] w fun e w' => ∃ sb F, e = .returned (.tuple #[.pointer (some ⟨sb, 0, none⟩), .bool true]) ∧ Story F sb 2 (imgL 2) (imgL 2) [] w' ∧ (∀ k, F k → w.heap.size ≤ k) ∧ Fr New w w') := begun_any 2 (by omega) (by omega) w
  have HAL : Hid (∀ F sb w1, Story F sb 2 (imgL 2) (imgL 2) [] w1 → (∀ k, F k → w.heap.size ≤ k) → Fr New w w1 → Calls Tryz.prog 14 #[.pointer (some ⟨sb, 0, none⟩), .int .i64 1, .int .i64 1] w1 fun e w' => e = .returned (.bool true) ∧ ∃ now1 hb tb cb mb g vs, Works now1 ∧ PH hb tb cb mb g vs (imgL 2) now1 [] w' ∧ w'.cell? ⟨sb, 0, none⟩ = some (.pointer (some ⟨hb, 0, none⟩)) ∧ (w.heap.size ≤ tb ∧ w.heap.size ≤ mb ∧ w.heap.size ≤ g ∧ ∀ k, vs.ownBlock = some k → w.heap.size ≤ k) ∧ (∃ c, w'.heap[sb]? = some (.cells c 34 (0, 0))) ∧ Fr New w w') := fun F sb w1 hS hF hf => by
    refine (kalloc_any F sb 2 (imgL 2) (imgL 2) [] 1 1 (by omega) (by omega) (by omega) w1 hS).mono ?_
    rintro e w' ⟨rfl, now1, F', q1, q2, q3, q4⟩
    obtain ⟨l1, l2, hA⟩ := works_alloc q4
    obtain ⟨hb, tb, cb, mb, g, vs, vn, vk, un, uk, S, hF'⟩ := q1
    have hge : ∀ k, Foot sb hb tb cb mb g vs vn vk un uk k → w.heap.size ≤ k := fun k hk => by
      rcases q3 k (hF' k hk) with h | h
      · exact hF k h
      · exact Nat.le_trans hf.size h
    refine ⟨rfl, now1, hb, tb, cb, mb, g, vs, works_words hA, S.ph, S.c0, ⟨hge _ (.inr (.inr (.inl rfl))), hge _ (.inr (.inr (.inr (.inr (.inl rfl))))), hge _ (.inr (.inr (.inr (.inr (.inr (.inl rfl)))))), fun k hk => hge k (.inr (.inr (.inr (.inr (.inr (.inr (.inl hk)))))))⟩, ⟨_, S.blk⟩, hf.trans q2 (fun j hj h => ?_)⟩
    have := hF j h
    omega
  have HSR : Hid (∀ now1 hb tb cb mb g vs w1, Works now1 → PH hb tb cb mb g vs (imgL 2) now1 [] w1 → Calls Tryz.prog 19 #[.pointer (some ⟨hb, 0, none⟩), .int .i64 0, .int .i64 1] w1 fun e w' => e = .returned (.int .i64 0) ∧ PH hb tb cb mb g vs (imgL 2) (now1.set 3 1) [] w' ∧ Fr (fun k => k = mb) w1 w') := fun now1 hb tb cb mb g vs w1 hW hp => by
    have := hsetRoot_any hb tb cb mb g vs (imgL 2) now1 [] 0 1 w1 (by omega) (by omega) hp
    rwa [hW.root] at this
  have HWR : Hid (∀ now1 hb tb cb mb g vs w1, Works now1 → PH hb tb cb mb g vs (imgL 2) (now1.set 3 1) [] w1 → Calls Tryz.prog 17 #[.pointer (some ⟨hb, 0, none⟩), .int .i64 1, .int .i64 0, .int .u64 1] w1 fun e w' => e = .returned (.int .i64 0) ∧ PH hb tb cb mb g vs (imgL 2) ((now1.set 3 1).set 107 1) [] w' ∧ Fr (fun k => k = mb) w1 w') := fun now1 hb tb cb mb g vs w1 hW hp => by
    have := hwrite_any hb tb cb mb g vs (imgL 2) (now1.set 3 1) [] 1 0 1 w1 (by omega) (by omega) (by unfold U; omega) hp
    rwa [hW.write] at this
  have HCM : Hid (∀ now1 hb tb cb mb g vs w1, Works now1 → PH hb tb cb mb g vs (imgL 2) ((now1.set 3 1).set 107 1) [] w1 → Calls Tryz.prog 32 #[.pointer (some ⟨hb, 0, none⟩)] w1 fun e w' => e = .returned (.int .i64 0) ∧ ∃ vs' sts', PH hb tb cb mb g vs' (pcommitW (imgL 2) ((now1.set 3 1).set 107 1)) (pcommitW (imgL 2) ((now1.set 3 1).set 107 1)) sts' w' ∧ Fr (TurnedP tb mb g vs) w1 w') := fun now1 hb tb cb mb g vs w1 hW hp => by
    refine (hcommit_any hb tb cb mb g vs (imgL 2) _ [] w1 hp hW.hw.two (by simp)).mono ?_
    rintro e w' ⟨c, rfl, ⟨h, _⟩ | ⟨_, h, _⟩ | ⟨_, _, rfl, vs', h1, h2, _⟩⟩
    · exact absurd h hW.ne
    · have := hW.few; omega
    · exact ⟨rfl, vs', _, h1, h2⟩
  have HIM : Hid (∀ now1 hb tb cb mb g vs sts w1, Works now1 → PH hb tb cb mb g vs (pcommitW (imgL 2) ((now1.set 3 1).set 107 1)) (pcommitW (imgL 2) ((now1.set 3 1).set 107 1)) sts w1 → Calls Tryz.prog 6 #[.pointer (some ⟨hb, 0, none⟩)] w1 fun e w' => e = .returned (.slice (some ⟨w1.heap.size, 0, none⟩) 122 122) ∧ (w'.cell? ⟨w1.heap.size, 106, none⟩ = some (.int .u64 1000101) ∧ w'.cell? ⟨w1.heap.size, 107, none⟩ = some (.int .u64 1) ∧ w'.cell? ⟨w1.heap.size, 3, none⟩ = some (.int .u64 1) ∧ w'.cell? ⟨w1.heap.size, 2, none⟩ = some (.int .u64 1)) ∧ Fr New w1 w') := fun now1 hb tb cb mb g vs sts w1 hW hp => by
    have hlen : (pcommitW (imgL 2) ((now1.set 3 1).set 107 1)).length = 122 := by rw [pcommitW_len, imgL_len]
    have := himage_any hb tb cb mb g vs _ _ sts w1 hp
    rw [hlen] at this
    refine this.mono ?_
    rintro e w' ⟨rfl, hR, hf⟩
    have hc : ∀ q, q < 122 → w'.cell? ⟨w1.heap.size, q, none⟩ = some (.int .u64 (wd (pcommitW (imgL 2) ((now1.set 3 1).set 107 1)) q)) := fun q hq => by
      rw [hR.cell q (by rw [hlen]; exact hq)]
      simp [wd, List.getD, hlen, hq]
    obtain ⟨e1, e2, e3, e4⟩ := hW.end'
    refine ⟨rfl, ⟨?_, ?_, ?_, ?_⟩, hf⟩
    · rw [hc 106 (by omega), e1]
    · rw [hc 107 (by omega), e2]
    · rw [hc 3 (by omega), e3]
    · rw [hc 2 (by omega), e4]
  have HPT : Hid (∀ sb hb tb cb mb g vs ws now sts w1 w2 c, PH hb tb cb mb g vs ws now sts w1 → w1.heap[sb]? = some (.cells c 34 (0, 0)) → w1.cell? ⟨sb, 0, none⟩ = some (.pointer (some ⟨hb, 0, none⟩)) → Fr (TurnedP tb mb g vs) w1 w2 → w2.cell? ⟨sb, 0, none⟩ = some (.pointer (some ⟨hb, 0, none⟩)) ∧ w2.heap[sb]? = some (.cells c 34 (0, 0))) := fun sb hb tb cb mb g vs ws now sts w1 w2 c hp hs hc hf => by
    have hsb : ¬ TurnedP tb mb g vs sb := by
      rintro (e | e | e | e)
      · exact type_ne hs hp.tg.t.td (by decide) e
      · exact hp.mapNe hs e
      · exact type_ne hs hp.tg.t.wb (by decide) e
      · obtain ⟨_, c, hc⟩ := own_block hp.tg.o e
        exact type_ne hs hc (by decide) rfl
    exact ⟨hf.cell hc hsb, hf.heap hs hsb⟩
  have HMB : Hid (∀ tb mb g vs (w1 w2 : World), Fr (fun k => k = mb) w1 w2 → Fr (TurnedP tb mb g vs) w1 w2) := fun tb mb g vs w1 w2 h => h.mono (fun j _ e => .inr (.inl e))
  have HFN : Hid (∀ tb mb g (vs : Value) w1 w2, (w.heap.size ≤ tb ∧ w.heap.size ≤ mb ∧ w.heap.size ≤ g ∧ ∀ k, vs.ownBlock = some k → w.heap.size ≤ k) → Fr New w w1 → Fr (TurnedP tb mb g vs) w1 w2 → Fr New w w2) := fun tb mb g vs w1 w2 hq h1 h2 => h1.trans h2 (fun j hj hh => by
    rcases hh with e | e | e | e
    · omega
    · omega
    · omega
    · have := hq.2.2.2 j e; omega)
  go_enter Tryz.func10, Tryz.ntmps10
  go_wp2_with (first
    | (go_at_call 4; refine HBG.out.mono ?_; rintro e w1 ⟨sb, F, rfl, hS1, hF1, hf1⟩)
    | (go_at_call 14; refine (HAL.out F sb w1 hS1 hF1 hf1).mono ?_; rintro e w2 ⟨rfl, now1, hb, tb, cb, mb, g, vs, hW, hp2, hc2, hq, ⟨cs, hs2⟩, hf2⟩)
    | (go_at_call 19; refine (HSR.out now1 hb tb cb mb g vs w2 hW hp2).mono ?_; rintro e w3 ⟨rfl, hp3, hfr3⟩; obtain ⟨hc3, hs3⟩ := HPT.out sb hb tb cb mb g vs _ _ _ w2 w3 cs hp2 hs2 hc2 (HMB.out tb mb g vs _ _ hfr3); have hf3 := HFN.out tb mb g vs w2 w3 hq hf2 (HMB.out tb mb g vs _ _ hfr3))
    | (go_at_call 17; refine (HWR.out now1 hb tb cb mb g vs w3 hW hp3).mono ?_; rintro e w4 ⟨rfl, hp4, hfr4⟩; obtain ⟨hc4, hs4⟩ := HPT.out sb hb tb cb mb g vs _ _ _ w3 w4 cs hp3 hs3 hc3 (HMB.out tb mb g vs _ _ hfr4); have hf4 := HFN.out tb mb g vs w3 w4 hq hf3 (HMB.out tb mb g vs _ _ hfr4))
    | (go_at_call 32; refine (HCM.out now1 hb tb cb mb g vs w4 hW hp4).mono ?_; rintro e w5 ⟨rfl, vs5, sts5, hp5, hfr5⟩; obtain ⟨hc5, hs5⟩ := HPT.out sb hb tb cb mb g vs _ _ _ w4 w5 cs hp4 hs4 hc4 hfr5; have hf5 := HFN.out tb mb g vs w4 w5 hq hf4 hfr5)
    | (go_at_call 6; refine (HIM.out now1 hb tb cb mb g vs5 sts5 w5 hW hp5).mono ?_; rintro e w6 ⟨rfl, ⟨i1, i2, i3, i4⟩, hf6⟩)
    | fail)
  go_ret
  exact ⟨rfl, hf5.same hf6⟩
end Go.Proofs.YtbagcjlimdilpabGreat

