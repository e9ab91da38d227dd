/- Mathematics of a heap's words: what its calls make of its objects and roots. -/
import Derived.Test.YtbagcjlimdilpaaGreatKtJ5
import Derived.Test.YtbagcjlimdilpaaGreatKtJ2
import Derived.Test.YtbagcjlimdilpaaGreatKtJ7
import Derived.Test.YtbagcjlimdilpaaGreatKtJ8
import Derived.Test.YtbagcjlimdilpaaGreatKtRefL
namespace Go.Proofs.YtbagcjlimdilpaaGreat

/-- x is a handle of one of l -/
def Hnd (l : List Ob) (x : Int) : Prop := ∃ o ∈ l, ((o.block + 1 : Nat) : Int) = x
theorem idx_hnd {l : List Ob} {x : Int} : idx l x ≠ none ↔ Hnd l x := by
  constructor
  · intro h
    rcases hk : idx l x with _ | k
    · exact absurd hk h
    · obtain ⟨h1, h2⟩ := idx_mem hk
      exact ⟨l[k], List.getElem_mem _, h2⟩
  · rintro ⟨o, ho, h⟩
    exact idx_some_of_mem ho h
theorem idx_not_hnd {l : List Ob} {x : Int} : idx l x = none ↔ ¬ Hnd l x := by
  rw [← idx_hnd]; simp
/-- the words of a heap: a head, no wrong header, roots and pointers that hold something or nothing -/
structure Good (now : List Int) : Prop where
  n0 : nblk now.length ≠ 0
  bad : bads now = []
  magic : wd now 0 = 20261114
  n : wd now 1 = nblk now.length
  log : wd now 8 = 0
  root : ∀ r, r < 4 → wd now (3 + r) = 0 ∨ Hnd (objs now) (wd now (3 + r))
  ptr : ∀ o ∈ objs now, ∀ p, p < o.ptrs → wd now (pl o p) = 0 ∨ Hnd (objs now) (wd now (pl o p))
theorem Good.tiles {now : List Int} (h : Good now) : Tiles now (objs now) := objs_tiles h.n0 h.bad
theorem Good.len {now : List Int} (h : Good now) : now.length = 106 + 8 * nblk now.length ∧ 1 ≤ nblk now.length ∧ nblk now.length ≤ 32 := nblk_some h.n0

/-- words with the same headers have the same objects -/
theorem objs_congr {a b : List Int} (hl : b.length = a.length) (h : ∀ c, wd b (106 + 8 * c) = wd a (106 + 8 * c)) : objs b = objs a ∧ bads b = bads a := by
  have hs : ∀ c, slotAt b c = slotAt a c := fun c => slot_same hl (h c)
  unfold objs bads walkS
  rw [hl, walkF_congr hs]
  exact ⟨rfl, rfl⟩
theorem objW_congr {a b : List Int} {o : Ob} (h : ∀ i, i < 8 * o.span - 1 → wd b (pl o i) = wd a (pl o i)) : objW b o = objW a o := by
  unfold objW
  apply List.map_congr_left
  intro i hi
  exact h i (by simpa using hi)
/-- words that part only where nothing is said of objects and roots -/
theorem Good.congr {a b : List Int} (h : Good a) (hl : b.length = a.length) (h0 : wd b 0 = wd a 0) (h1 : wd b 1 = wd a 1) (h8 : wd b 8 = 0) (hr : ∀ r, r < 4 → wd b (3 + r) = wd a (3 + r)) (hw : ∀ q, 106 ≤ q → wd b q = wd a q) : Good b ∧ objs b = objs a ∧ ∀ o, objW b o = objW a o := by
  obtain ⟨e1, e2⟩ := objs_congr hl (fun c => hw _ (by omega))
  refine ⟨⟨by rw [hl]; exact h.n0, e2.trans h.bad, h0.trans h.magic, by rw [h1, hl]; exact h.n, h8, fun r hr' => by rw [hr r hr', e1]; exact h.root r hr', fun o ho p hp => ?_⟩, e1, fun o => objW_congr (fun i _ => hw _ (by unfold pl; omega))⟩
  rw [e1] at ho ⊢
  rw [hw _ (by unfold pl; omega)]
  exact h.ptr o ho p hp

theorem split_at (b : Nat) : ∀ (l : List Ob), l.Pairwise (fun o o' => o.block + o.span ≤ o'.block) → ∃ l1 l2, l = l1 ++ l2 ∧ (∀ x ∈ l1, x.block < b) ∧ ∀ x ∈ l2, b ≤ x.block
  | [], _ => ⟨[], [], rfl, (fun x hx => by cases hx), fun x hx => by cases hx⟩
  | o :: l, h => by
    obtain ⟨h1, h2⟩ := List.pairwise_cons.1 h
    by_cases hb : o.block < b
    · obtain ⟨l1, l2, e, a1, a2⟩ := split_at b l h2
      refine ⟨o :: l1, l2, by rw [e]; rfl, fun x hx => ?_, a2⟩
      rcases List.mem_cons.1 hx with rfl | hx
      · exact hb
      · exact a1 x hx
    · refine ⟨[], o :: l, rfl, (fun x hx => by cases hx), fun x hx => ?_⟩
      rcases List.mem_cons.1 hx with rfl | hx
      · omega
      · have := h1 x hx; omega

/-- what a successful Alloc makes: an object more -/
structure Alloced (now r : List Int) (o : Ob) (l1 l2 : List Ob) : Prop where
  good : Good r
  was : objs now = l1 ++ l2
  objs : objs r = l1 ++ o :: l2
  low : ∀ x ∈ l1, x.block < o.block
  high : ∀ x ∈ l2, o.block < x.block
  words : ∀ x ∈ l1 ++ l2, objW r x = objW now x
  new : objW r o = List.replicate (8 * o.span - 1) 0
  len : r.length = now.length
  head : ∀ q, q < 106 → wd r q = wd now q
  hdr : wd r (106 + 8 * o.block) = 1000000 + 100 * (o.span : Int) + (o.ptrs : Int)
  rest : ∀ q, (q < 106 + 8 * o.block ∨ 106 + 8 * o.block + 8 * o.span ≤ q) → wd r q = wd now q
  zero : ∀ q, 106 + 8 * o.block < q → q < 106 + 8 * o.block + 8 * o.span → wd r q = 0
theorem alloc_good {now z r : List Int} {b s p : Nat} (h : Good now) (hs1 : 1 ≤ s) (hs4 : s ≤ 4) (hp : p < 8 * s) (hf : FreeRow (objs now) (nblk now.length) s b) (hz : Zeroed now z (blockZ b (8 * s))) (hr : r = z.set (106 + 8 * b) (1000000 + 100 * (s : Int) + (p : Int))) :
    ∃ l1 l2, Alloced now r ⟨b, s, p⟩ l1 l2 := by
  have ht := h.tiles
  obtain ⟨hl, hn1, hn32⟩ := h.len
  obtain ⟨hf1, hf2⟩ := hf
  have hrl : r.length = now.length := by rw [hr, List.length_set, hz.len]
  have hw : ∀ q, wd r q = if q = 106 + 8 * b then (1000000 + 100 * (s : Int) + (p : Int)) else wd z q := fun q => by rw [hr, wd_set (by rw [hz.len]; omega)]
  have hout : ∀ q, (q < 106 + 8 * b ∨ 106 + 8 * b + 8 * s ≤ q) → wd r q = wd now q := fun q hq => by
    rw [hw, if_neg (by omega)]
    exact hz.no q (by unfold blockZ; omega)
  have hin : ∀ q, 106 + 8 * b < q → q < 106 + 8 * b + 8 * s → wd r q = 0 := fun q h1 h2 => by
    rw [hw, if_neg (by omega)]
    exact hz.yes q (by unfold blockZ; omega)
  have hhd : wd r (106 + 8 * b) = 1000000 + 100 * (s : Int) + (p : Int) := by rw [hw, if_pos rfl]
  obtain ⟨l1, l2, e, a1, a2⟩ := split_at b (objs now) ht.apart
  have hmem : ∀ x, x ∈ objs now ↔ x ∈ l1 ∨ x ∈ l2 := fun x => by rw [e, List.mem_append]
  have h1 : ∀ x ∈ l1, x.block + x.span ≤ b := fun x hx => by
    have := a1 x hx
    have := hf2 x ((hmem x).2 (.inl hx))
    omega
  have h2 : ∀ x ∈ l2, b + s ≤ x.block := fun x hx => by
    have := a2 x hx
    have := hf2 x ((hmem x).2 (.inr hx))
    have := (ht.fits x ((hmem x).2 (.inr hx))).2.1
    omega
  have hap := ht.apart
  rw [e, List.pairwise_append] at hap
  have hT : Tiles r (l1 ++ (⟨b, s, p⟩ : Ob) :: l2) := by
    unfold Tiles
    rw [hrl]
    refine ⟨?_, fun x hx => ?_, fun c _ hc hno => ?_⟩
    · rw [List.pairwise_append]
      refine ⟨hap.1, List.pairwise_cons.2 ⟨fun x hx => h2 x hx, hap.2.1⟩, fun x hx y hy => ?_⟩
      rcases List.mem_cons.1 hy with rfl | hy
      · exact h1 x hx
      · exact hap.2.2 x hx y hy
    · rcases List.mem_append.1 hx with hx | hx
      · have := ht.fits x ((hmem x).2 (.inl hx))
        have hb := h1 x hx
        rw [hout _ (by omega)]
        exact this
      · rcases List.mem_cons.1 hx with rfl | hx
        · exact ⟨by omega, hs1, hs4, hp, hf1, hhd⟩
        · have := ht.fits x ((hmem x).2 (.inr hx))
          have hb := h2 x hx
          rw [hout _ (by omega)]
          exact this
    · have hb := hno ⟨b, s, p⟩ (by simp)
      simp only at hb
      rw [hout _ (by omega)]
      refine ht.free c (by omega) hc (fun o ho => hno o ?_)
      rcases (hmem o).1 ho with ho | ho
      · exact List.mem_append.2 (.inl ho)
      · exact List.mem_append.2 (.inr (List.mem_cons_of_mem _ ho))
  obtain ⟨eo, eb⟩ := tiles_objs (by rw [hrl]; exact h.n0) hT
  have hup : ∀ x, Hnd (objs now) x → Hnd (objs r) x := fun x ⟨o, ho, hx⟩ => by
    refine ⟨o, ?_, hx⟩
    rw [eo]
    rcases (hmem o).1 ho with ho | ho
    · exact List.mem_append.2 (.inl ho)
    · exact List.mem_append.2 (.inr (List.mem_cons_of_mem _ ho))
  have hold : ∀ x ∈ l1 ++ l2, ∀ i, i < 8 * x.span - 1 → wd r (pl x i) = wd now (pl x i) := fun x hx i hi => by
    refine hout _ ?_
    unfold pl
    rcases List.mem_append.1 hx with hx | hx
    · have := h1 x hx; omega
    · have := h2 x hx; omega
  have hlow : ∀ q, q < 106 → wd r q = wd now q := fun q hq => hout q (by omega)
  refine ⟨l1, l2, ⟨⟨by rw [hrl]; exact h.n0, eb, (hlow 0 (by omega)).trans h.magic, by rw [hlow 1 (by omega), hrl]; exact h.n, (hlow 8 (by omega)).trans h.log, fun k hk => ?_, fun o ho i hi => ?_⟩, e, eo, fun x hx => by have := h1 x hx; have := (ht.fits x ((hmem x).2 (.inl hx))).2.1; show x.block < b; omega, fun x hx => by have := h2 x hx; show b < x.block; omega, fun x hx => objW_congr (hold x hx), ?_, hrl, hlow, hhd, hout, hin⟩⟩
  · rw [hlow _ (by omega)]
    exact (h.root k hk).imp id (hup _)
  · rw [eo] at ho
    have hcase : o = ⟨b, s, p⟩ ∨ o ∈ l1 ++ l2 := by
      rcases List.mem_append.1 ho with ho | ho
      · exact .inr (List.mem_append.2 (.inl ho))
      · rcases List.mem_cons.1 ho with ho | ho
        · exact .inl ho
        · exact .inr (List.mem_append.2 (.inr ho))
    rcases hcase with rfl | ho'
    · left
      refine hin _ ?_ ?_ <;> unfold pl <;> simp only at hi ⊢ <;> omega
    · have hm := (hmem o).2 (List.mem_append.1 ho')
      have := (ht.fits o hm).2.2.2.1
      rw [hold o ho' i (by omega)]
      exact (h.ptr o hm i hi).imp id (hup _)
  · refine List.ext_getElem (by simp [objW_len]) (fun i h1' h2' => ?_)
    simp only [objW, List.length_map, List.length_range] at h1'
    simp only [objW, List.getElem_map, List.getElem_range, List.getElem_replicate]
    refine hin _ ?_ ?_ <;> unfold pl <;> simp only <;> omega

/-- what a successful Free makes: an object less -/
structure Freed (now r : List Int) (o : Ob) (l1 l2 : List Ob) : Prop where
  good : Good r
  was : objs now = l1 ++ o :: l2
  objs : objs r = l1 ++ l2
  words : ∀ x ∈ l1 ++ l2, objW r x = objW now x
  len : r.length = now.length
  head : ∀ q, q < 106 → wd r q = wd now q
theorem free_good {now r : List Int} {k : Nat} (h : Good now) (hk : k < (objs now).length) (hh : ¬ HeldBy now (objs now) ((((objs now)[k]).block + 1 : Nat) : Int)) (hz : Zeroed now r (leakZ1 (objs now)[k] ((objs now)[k]).span)) :
    Freed now r (objs now)[k] ((objs now).take k) ((objs now).drop (k + 1)) := by
  have ht := h.tiles
  have e : objs now = (objs now).take k ++ (objs now)[k] :: (objs now).drop (k + 1) := by simp
  obtain ⟨o, ho⟩ : ∃ o, o = (objs now)[k] := ⟨_, rfl⟩
  obtain ⟨l1, hl1⟩ : ∃ l1, l1 = (objs now).take k := ⟨_, rfl⟩
  obtain ⟨l2, hl2⟩ : ∃ l2, l2 = (objs now).drop (k + 1) := ⟨_, rfl⟩
  rw [← ho, ← hl1, ← hl2] at e
  rw [← ho, ← hl1, ← hl2]
  rw [← ho] at hh hz
  clear ho hl1 hl2
  have hmem : ∀ x, x ∈ objs now ↔ x ∈ l1 ∨ x = o ∨ x ∈ l2 := fun x => by rw [e, List.mem_append, List.mem_cons]
  have hap := ht.apart
  rw [e, List.pairwise_append] at hap
  obtain ⟨ap1, ap2, ap3⟩ := hap
  obtain ⟨ap4, ap5⟩ := List.pairwise_cons.1 ap2
  have hoth : ∀ x ∈ l1 ++ l2, x ∈ objs now ∧ (x.block + x.span ≤ o.block ∨ o.block + o.span ≤ x.block) := fun x hx => by
    rcases List.mem_append.1 hx with hx | hx
    · exact ⟨(hmem x).2 (.inl hx), .inl (ap3 x hx o (by simp))⟩
    · exact ⟨(hmem x).2 (.inr (.inr hx)), .inr (ap4 x hx)⟩
  have hout : ∀ q, (q < 106 + 8 * o.block ∨ 106 + 8 * (o.block + o.span) ≤ q) → wd r q = wd now q := fun q hq => hz.no q (fun ⟨b', h1, h2⟩ => by omega)
  have hT : Tiles r (l1 ++ l2) := by
    unfold Tiles
    rw [hz.len]
    refine ⟨?_, fun x hx => ?_, fun c _ hc hno => ?_⟩
    · rw [List.pairwise_append]
      exact ⟨ap1, ap5, fun x hx y hy => ap3 x hx y (List.mem_cons_of_mem _ hy)⟩
    · obtain ⟨hm, hd⟩ := hoth x hx
      have := ht.fits x hm
      rw [hout _ (by omega)]
      exact this
    · by_cases hco : o.block ≤ c ∧ c < o.block + o.span
      · exact hz.yes _ ⟨c - o.block, by omega, by omega⟩
      · rw [hout _ (by omega)]
        refine ht.free c (by omega) hc (fun x hx => ?_)
        rcases (hmem x).1 hx with hx | rfl | hx
        · exact hno x (List.mem_append.2 (.inl hx))
        · exact hco
        · exact hno x (List.mem_append.2 (.inr hx))
  obtain ⟨eo, eb⟩ := tiles_objs (by rw [hz.len]; exact h.n0) hT
  have hoi := (ht.fits o ((hmem o).2 (.inr (.inl rfl))))
  have hwd : ∀ x ∈ l1 ++ l2, ∀ i, i < 8 * x.span - 1 → wd r (pl x i) = wd now (pl x i) := fun x hx i hi => by
    obtain ⟨hm, hd⟩ := hoth x hx
    refine hout _ ?_
    unfold pl
    omega
  have hdn : ∀ x, Hnd (objs now) x → x ≠ ((o.block + 1 : Nat) : Int) → Hnd (objs r) x := fun x ⟨y, hy, hx⟩ hne => by
    refine ⟨y, ?_, hx⟩
    rw [eo]
    rcases (hmem y).1 hy with hy | rfl | hy
    · exact List.mem_append.2 (.inl hy)
    · exact absurd hx.symm hne
    · exact List.mem_append.2 (.inr hy)
  have hlow : ∀ q, q < 106 → wd r q = wd now q := fun q hq => hout q (by omega)
  refine ⟨⟨by rw [hz.len]; exact h.n0, eb, (hlow 0 (by omega)).trans h.magic, by rw [hlow 1 (by omega), hz.len]; exact h.n, (hlow 8 (by omega)).trans h.log, fun j hj => ?_, fun x hx i hi => ?_⟩, e, eo, fun x hx => objW_congr (hwd x hx), hz.len, hlow⟩
  · rw [hlow _ (by omega)]
    exact (h.root j hj).imp id (fun hx => hdn _ hx (fun e => hh (.inl ⟨j, hj, e⟩)))
  · rw [eo] at hx
    obtain ⟨hm, _⟩ := hoth x hx
    have := (ht.fits x hm).2.2.2.1
    rw [hwd x hx i (by omega)]
    refine (h.ptr x hm i hi).imp id (fun hy => hdn _ hy (fun e => hh (.inr ?_)))
    obtain ⟨j, hj, ej⟩ := List.getElem_of_mem hm
    exact ⟨j, hj, i, by rw [ej]; exact hi, by rw [ej]; exact e⟩

/-- what Write makes -/
theorem write_good {now : List Int} {o : Ob} {i : Nat} {v : Int} (h : Good now) (ho : o ∈ objs now) (hi : i < 8 * o.span - 1) (hv : i < o.ptrs → v = 0 ∨ Hnd (objs now) v) :
    Good (now.set (pl o i) v) ∧ objs (now.set (pl o i) v) = objs now ∧ objW (now.set (pl o i) v) o = (objW now o).set i v ∧ (∀ x ∈ objs now, x ≠ o → objW (now.set (pl o i) v) x = objW now x) ∧ ∀ q, q < 106 → wd (now.set (pl o i) v) q = wd now q := by
  have ht := h.tiles
  have hoi := objs_in ho
  have hpl : pl o i < now.length := by unfold pl; omega
  obtain ⟨eo, eb⟩ := tiles_objs (by rw [List.length_set]; exact h.n0) (ht.word ho (v := v) hi)
  have hlow : ∀ q, q < 106 → wd (now.set (pl o i) v) q = wd now q := fun q hq => by rw [wd_set hpl, if_neg (by unfold pl; omega)]
  have hoth : ∀ x ∈ objs now, x ≠ o → ∀ j, j < 8 * x.span - 1 → pl x j ≠ pl o i := fun x hx hne j hj => by
    have := (ht.fits x hx).2.1
    rcases pair_mem ht.apart hx ho with e | e | e
    · exact absurd e hne
    · unfold pl; omega
    · unfold pl; omega
  refine ⟨⟨by rw [List.length_set]; exact h.n0, eb, (hlow 0 (by omega)).trans h.magic, by rw [hlow 1 (by omega), List.length_set]; exact h.n, (hlow 8 (by omega)).trans h.log, fun r hr => by rw [hlow _ (by omega), eo]; exact h.root r hr, fun x hx p hp => ?_⟩, eo, ?_, fun x hx hne => objW_congr (fun j hj => by rw [wd_set hpl, if_neg (hoth x hx hne j hj)]), hlow⟩
  · rw [eo] at hx ⊢
    have hxp := (ht.fits x hx).2.2.2.1
    by_cases he : pl x p = pl o i
    · rw [he, wd_set hpl, if_pos rfl]
      have hxo : x = o := by
        by_cases hxo : x = o
        · exact hxo
        · exact absurd he (hoth x hx hxo p (by omega))
      subst hxo
      have : p = i := by unfold pl at he; omega
      subst this
      exact hv hp
    · rw [wd_set hpl, if_neg he]
      exact h.ptr x hx p hp
  · refine List.ext_getElem (by simp [objW_len]) (fun j h1 h2 => ?_)
    simp only [objW, List.getElem_map, List.getElem_range, List.getElem_set]
    rw [wd_set hpl]
    by_cases hj : i = j
    · subst hj; simp
    · rw [if_neg (by unfold pl; omega), if_neg hj]
/-- what SetRoot makes -/
theorem root_good {now : List Int} {i : Nat} {n : Int} (h : Good now) (hi : i < 4) (hv : n = 0 ∨ Hnd (objs now) n) :
    Good (now.set (3 + i) n) ∧ objs (now.set (3 + i) n) = objs now ∧ (∀ x, objW (now.set (3 + i) n) x = objW now x) ∧ ∀ q, q ≠ 3 + i → wd (now.set (3 + i) n) q = wd now q := by
  have hlt : 3 + i < now.length := by have := h.len; omega
  have hw : ∀ q, q ≠ 3 + i → wd (now.set (3 + i) n) q = wd now q := fun q hq => by rw [wd_set hlt, if_neg hq]
  obtain ⟨eo, eb⟩ := objs_congr (List.length_set) (fun c => hw _ (by omega) : ∀ c, wd (now.set (3 + i) n) (106 + 8 * c) = wd now (106 + 8 * c))
  refine ⟨⟨by rw [List.length_set]; exact h.n0, eb.trans h.bad, (hw 0 (by omega)).trans h.magic, by rw [hw 1 (by omega), List.length_set]; exact h.n, (hw 8 (by omega)).trans h.log, fun r hr => ?_, fun x hx p hp => ?_⟩, eo, fun x => objW_congr (fun j _ => hw _ (by unfold pl; omega)), hw⟩
  · rw [eo, wd_set hlt]
    by_cases he : 3 + r = 3 + i
    · rw [if_pos he]; exact hv
    · rw [if_neg he]; exact h.root r hr
  · rw [eo] at hx ⊢
    rw [hw _ (by unfold pl; omega)]
    exact h.ptr x hx p hp
end Go.Proofs.YtbagcjlimdilpaaGreat
