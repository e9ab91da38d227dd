/- The words of Full: two objects, forty-seven words that are not zero, and how many records that makes. -/
import Derived.Test.YtbagcjlimdilpaaGreatKtJ19
namespace Go.Proofs.YtbagcjlimdilpaaGreat
open Go.RowKit Go.Maps

/-- how many records a Commit has, at least -/
theorem recs_many {ws nx : List Int} {m : List Nat} (hn : m.Nodup) (h : ∀ q ∈ m, q < ws.length ∧ wd nx q ≠ wd ws q) : m.length ≤ (recsOf ws nx).length := by
  rw [recs_len]
  exact nodup_le hn (fun q hq => mem_difP.2 (h q hq))
/-- an object at the first row that is free -/
theorem alloc_first {now now1 : List Int} {n s p b : Nat} (h : AllocTo now n s p now1) (hf : FreeRow (objs now) n s b) (hno : ∀ b', b' < b → ¬ FreeRow (objs now) n s b') : ∃ l1 l2, Alloced now now1 ⟨b, s, p⟩ l1 l2 := by
  rcases h with ⟨_, h⟩ | ⟨b0, l1, l2, h1, h2, h3⟩
  · exact absurd hf (h b)
  · rcases Nat.lt_trichotomy b b0 with h | h | h
    · exact absurd hf (h2 b h)
    · subst h
      exact ⟨l1, l2, h3⟩
    · exact absurd h1 (hno b0 h)
/-- an object behind all others -/
theorem alloced_last {now r : List Int} {o : Ob} {l1 l2 : List Ob} (h : Alloced now r o l1 l2) (hl : ∀ x ∈ objs now, x.block < o.block) : objs r = objs now ++ [o] := by
  have h2 : l2 = [] := by
    rcases l2 with _ | ⟨x, l⟩
    · rfl
    · have := hl x (by rw [h.was]; simp)
      have := h.high x (by simp)
      omega
  subst h2
  rw [h.objs, h.was]
  simp
/-- words where zeroes were -/
theorem alloced_wd {now r : List Int} {o : Ob} {l1 l2 : List Ob} (h : Alloced now r o l1 l2) (hz : ∀ q, 106 + 8 * o.block < q → q < 106 + 8 * o.block + 8 * o.span → wd now q = 0) (q : Nat) : wd r q = if q = 106 + 8 * o.block then 1000000 + 100 * (o.span : Int) + (o.ptrs : Int) else wd now q := by
  by_cases h0 : q = 106 + 8 * o.block
  · rw [if_pos h0, h0]; exact h.hdr
  · rw [if_neg h0]
    by_cases h1 : q < 106 + 8 * o.block ∨ 106 + 8 * o.block + 8 * o.span ≤ q
    · exact h.rest q h1
    · rw [h.zero q (by omega) (by omega), hz q (by omega) (by omega)]

/-- the place of a word of Full -/
def plc (i : Nat) : Nat := if i < 31 then 107 + i else 108 + i
theorem plc_inj {i j : Nat} (h : plc i = plc j) : i = j := by unfold plc at h; split at h <;> split at h <;> omega
theorem plc_lt {i : Nat} (h : i < 47) : 106 < plc i ∧ plc i < 155 ∧ plc i ≠ 138 := by unfold plc; split <;> omega
/-- the first words of Full: two objects -/
structure Two (now : List Int) : Prop where
  hw : HW (imgL 32) now
  ob : objs now = [⟨0, 4, 0⟩, ⟨4, 4, 0⟩]
  wd : ∀ q, wd now q = if q = 106 ∨ q = 138 then 1000400 else wd (imgL 32) q
theorem two_first {now1 : List Int} (h : AllocTo (imgL 32) 32 4 0 now1) : ∃ l1 l2, Alloced (imgL 32) now1 ⟨0, 4, 0⟩ l1 l2 :=
  alloc_first h (by rw [(imgL_hw 32 (by omega) (by omega)).2.1]; exact ⟨by omega, fun o ho => by cases ho⟩) (fun b' h => by omega)
theorem two_words {now1 now2 : List Int} (h1 : AllocTo (imgL 32) 32 4 0 now1) (h2 : AllocTo now1 32 4 0 now2) : Two now2 := by
  obtain ⟨hw0, e1, h0⟩ := imgL_hw 32 (by omega) (by omega)
  obtain ⟨l1, l2, a1⟩ := two_first h1
  have o1 : objs now1 = [⟨0, 4, 0⟩] := by rw [alloced_last a1 (fun x hx => by rw [e1] at hx; cases hx), e1]; rfl
  have w1 := alloced_wd a1 (fun q hq _ => h0 q (by omega) (by simp only at hq; omega))
  obtain ⟨m1, m2, a2⟩ := alloc_first (b := 4) h2 (by rw [o1]; exact ⟨by omega, fun o ho => by simp at ho; subst ho; simp⟩) (fun b' hb hf => by
    rw [o1] at hf
    have := hf.2 ⟨0, 4, 0⟩ (by simp)
    simp only at this
    omega)
  have w2 := alloced_wd a2 (fun q hq hq2 => by
    simp only at hq hq2
    rw [w1, if_neg (by simp only; omega), h0 q (by omega) (by omega)])
  refine ⟨(hw0.to a1.good a1.len (fun q _ h => a1.head q h)).to a2.good a2.len (fun q _ h => a2.head q h), ?_, fun q => ?_⟩
  · rw [alloced_last a2 (fun x hx => by rw [o1] at hx; simp at hx; subst hx; simp), o1]; rfl
  · rw [w2 q, w1 q]
    simp only [Nat.mul_zero, Nat.add_zero, Nat.reduceMul, Nat.reduceAdd]
    by_cases ha : q = 138
    · subst ha; rfl
    · by_cases hb : q = 106
      · subst hb; rfl
      · rw [if_neg ha, if_neg hb, if_neg (by omega)]
theorem take7 {l : List Int} (h : 7 ≤ l.length) : l.take 7 = [wd l 0, wd l 1, wd l 2, wd l 3, wd l 4, wd l 5, wd l 6] := by
  match l, h with
  | a :: b :: c :: d :: e :: f :: g :: r, _ => rfl
theorem countS_wd {now : List Int} (hL : 7 < now.length) (q : Nat) : wd (countS now) q = if q = 2 then IntKind.u64.wrap (wd now 2 + 1) else wd now q := by
  unfold countS
  rw [wd_set (by omega)]
/-- the words behind the first Commit -/
structure Once (ws : List Int) : Prop where
  hw : HW ws ws
  ob : objs ws = [⟨0, 4, 0⟩, ⟨4, 4, 0⟩]
  len : ws.length = 362
  head : wd ws 0 = 20261114 ∧ wd ws 1 = 32 ∧ wd ws 2 = 1 ∧ wd ws 3 = 0 ∧ wd ws 4 = 0 ∧ wd ws 5 = 0 ∧ wd ws 6 = 0
  zero : ∀ i, i < 47 → wd ws (plc i) = 0
theorem two_commit {now : List Int} (h : Two now) : (recsOf (imgL 32) (nextS now)).length = 4 ∧ now ≠ imgL 32 ∧ Once (pcommitW (imgL 32) now) := by
  have hl : now.length = 362 := by rw [h.hw.len, imgL_len]
  obtain ⟨_, _, h0⟩ := imgL_hw 32 (by omega) (by omega)
  have hnx := fun q => nextS_wd (now := now) (by omega) q
  have hd : ∀ q, q < 106 → wd now q = wd (imgL 32) q := fun q hq => by rw [h.wd, if_neg (by omega)]
  have w2 : wd now 2 = 0 := by rw [hd 2 (by omega), h0 2 (by omega) (by omega)]
  have w0 : wd now 0 = 20261114 := by rw [hd 0 (by omega), imgL_wd, if_pos rfl]
  have w1 : wd now 1 = 32 := by rw [hd 1 (by omega), imgL_wd]; rfl
  have wr : ∀ q, 3 ≤ q → q < 7 → wd now q = 0 := fun q h1 h2 => by rw [hd q (by omega), h0 q (by omega) (by omega)]
  have c7 : sumL ((countS now).take 7) = sumL [20261114, 32, 1, 0, 0, 0, 0] := by
    rw [take7 (by simp [countS]; omega)]
    simp only [countS_wd (now := now) (by omega)]
    rw [w0, w1, w2, wr 3 (by omega) (by omega), wr 4 (by omega) (by omega), wr 5 (by omega) (by omega), wr 6 (by omega) (by omega)]
    rfl
  have i7 : wd (imgL 32) 7 = sumL [20261114, 32, 0, 0, 0, 0, 0] := by rw [imgL_wd]; rfl
  have hfew : (recsOf (imgL 32) (nextS now)).length ≤ 4 := by
    refine Nat.le_trans (recs_few (m := [2, 7, 106, 138]) (fun q _ hq => ?_)) (by simp)
    simp only [List.mem_cons, List.not_mem_nil, or_false, not_or] at hq
    rw [hnx, if_neg hq.2.1, if_neg hq.1, h.wd, if_neg (by omega)]
  have hmany : 4 ≤ (recsOf (imgL 32) (nextS now)).length := by
    refine recs_many (m := [2, 7, 106, 138]) (by decide) (fun q hq => ?_)
    simp only [List.mem_cons, List.not_mem_nil, or_false] at hq
    rw [imgL_len]
    rcases hq with rfl | rfl | rfl | rfl
    · rw [hnx, if_neg (by omega), if_pos rfl, w2, h0 2 (by omega) (by omega)]
      decide
    · rw [hnx, if_pos rfl, c7, i7]
      exact ⟨by omega, by decide⟩
    · rw [hnx, if_neg (by omega), if_neg (by omega), h.wd, if_pos (.inl rfl), h0 106 (by omega) (by omega)]
      decide
    · rw [hnx, if_neg (by omega), if_neg (by omega), h.wd, if_pos (.inr rfl), h0 138 (by omega) (by omega)]
      decide
  have hout : ∀ q, q < 8 ∨ 106 ≤ q → wd (pcommitW (imgL 32) now) q = wd (nextS now) q := fun q hq => pcommit_out (by rw [imgL_len]; omega) h.hw.len (by omega) hq
  obtain ⟨cg, cl⟩ := commit_good h.hw (by omega)
  refine ⟨by omega, fun e => ?_, cg, by rw [cl.ob, h.ob], by rw [pcommitW_len, imgL_len], ⟨?_, ?_, ?_, ?_, ?_, ?_, ?_⟩, fun i hi => ?_⟩
  · have := h.wd 106
    rw [e, h0 106 (by omega) (by omega), if_pos (.inl rfl)] at this
    omega
  · rw [hout 0 (by omega), hnx, if_neg (by omega), if_neg (by omega), w0]
  · rw [hout 1 (by omega), hnx, if_neg (by omega), if_neg (by omega), w1]
  · rw [hout 2 (by omega), hnx, if_neg (by omega), if_pos rfl, w2]; decide
  · rw [hout 3 (by omega), hnx, if_neg (by omega), if_neg (by omega), wr 3 (by omega) (by omega)]
  · rw [hout 4 (by omega), hnx, if_neg (by omega), if_neg (by omega), wr 4 (by omega) (by omega)]
  · rw [hout 5 (by omega), hnx, if_neg (by omega), if_neg (by omega), wr 5 (by omega) (by omega)]
  · rw [hout 6 (by omega), hnx, if_neg (by omega), if_neg (by omega), wr 6 (by omega) (by omega)]
  · have := plc_lt hi
    rw [hout _ (by omega), hnx, if_neg (by omega), if_neg (by omega), h.wd, if_neg (by omega), h0 _ (by omega) (by omega)]
/-- the words while forty-seven of them are written -/
structure Wrote (ws now : List Int) (i : Nat) : Prop where
  hw : HW ws now
  ob : objs now = [⟨0, 4, 0⟩, ⟨4, 4, 0⟩]
  head : ∀ q, q < 106 → wd now q = wd ws q
  dif : ∀ q, 106 ≤ q → (wd now q ≠ wd ws q ↔ ∃ j, j < i ∧ q = plc j)
theorem wrote_none {ws : List Int} (h : Once ws) : Wrote ws ws 0 := ⟨h.hw, h.ob, fun _ _ => rfl, fun q _ => ⟨fun h => absurd rfl h, fun ⟨j, hj, _⟩ => by omega⟩⟩
/-- which object, and which of its words -/
def whichO (i : Nat) : Nat := if i < 31 then 0 else 1
def whichW (i : Nat) : Nat := if i < 31 then i else i - 31
theorem wrote_at {now : List Int} (h : objs now = [⟨0, 4, 0⟩, ⟨4, 4, 0⟩]) {i : Nat} (hi : i < 47) : ∃ hk : whichO i < (things now).length, ((things now)[whichO i]).1 = ⟨4 * whichO i, 4, 0⟩ ∧ whichW i < 31 ∧ pl ((things now)[whichO i]).1 (whichW i) = plc i := by
  have hk : whichO i < (things now).length := by rw [things_len, h]; unfold whichO; simp; split <;> omega
  obtain ⟨hk', e⟩ := things_at hk
  have e1 : ((things now)[whichO i]).1 = ⟨4 * whichO i, 4, 0⟩ := by
    rw [e]
    simp only [h]
    unfold whichO
    split <;> rfl
  refine ⟨hk, e1, by unfold whichW; split <;> omega, ?_⟩
  rw [e1]
  unfold pl plc whichO whichW
  split <;> simp only <;> omega
theorem wrote_next {ws now : List Int} {i : Nat} {v : Int} (ho : Once ws) (h : Wrote ws now i) (hi : i < 47) (hv : v ≠ 0) : Wrote ws (now.set (plc i) v) (i + 1) := by
  obtain ⟨hk, e1, hw31, e2⟩ := wrote_at h.ob hi
  obtain ⟨t1, t2, t3, t4⟩ := things_write (now := now) (k := whichO i) (i := whichW i) (y := v) h.hw.gn hk (by rw [e1]; simp only; omega) (by rw [e1]; intro h; simp at h)
  rw [e2] at t1 t3 t4
  have hp := plc_lt hi
  have hl : now.length = 362 := by rw [h.hw.len]; exact ho.len
  refine ⟨h.hw.to t1 (by simp) (fun q _ h2 => t4 q h2), t3.trans h.ob, fun q hq => (t4 q hq).trans (h.head q hq), fun q hq => ?_⟩
  rw [wd_set (by omega)]
  by_cases he : q = plc i
  · rw [if_pos he, he, ho.zero i hi]
    exact ⟨fun _ => ⟨i, by omega, rfl⟩, fun _ => hv⟩
  · rw [if_neg he, h.dif q hq]
    exact ⟨fun ⟨j, h1, h2⟩ => ⟨j, by omega, h2⟩, fun ⟨j, h1, h2⟩ => ⟨j, by
      rcases Nat.lt_or_ge j i with h | h
      · exact h
      · obtain rfl : j = i := by omega
        exact absurd h2 he, h2⟩⟩
theorem wrote_back {ws now : List Int} (ho : Once ws) (h : Wrote ws now 47) : Wrote ws (now.set 154 0) 46 := by
  obtain ⟨hk, e1, hw31, e2⟩ := wrote_at h.ob (i := 46) (by omega)
  obtain ⟨t1, t2, t3, t4⟩ := things_write (now := now) (k := whichO 46) (i := whichW 46) (y := 0) h.hw.gn hk (by rw [e1]; simp only; omega) (by rw [e1]; intro h; simp at h)
  rw [e2, show plc 46 = 154 from rfl] at t1 t3 t4
  have hl : now.length = 362 := by rw [h.hw.len]; exact ho.len
  refine ⟨h.hw.to t1 (by simp) (fun q _ h2 => t4 q h2), t3.trans h.ob, fun q hq => (t4 q hq).trans (h.head q hq), fun q hq => ?_⟩
  rw [wd_set (by omega)]
  by_cases he : q = 154
  · have hz := ho.zero 46 (by omega)
    rw [show plc 46 = 154 from rfl] at hz
    rw [if_pos he, he, hz]
    refine ⟨fun h => absurd rfl h, fun ⟨j, h1, h2⟩ => ?_⟩
    have := plc_inj (i := 46) (j := j) h2
    omega
  · rw [if_neg he, h.dif q hq]
    exact ⟨fun ⟨j, h1, h2⟩ => ⟨j, by
      rcases Nat.lt_or_ge j 46 with h | h
      · exact h
      · obtain rfl : j = 46 := by omega
        exact absurd h2 he, h2⟩, fun ⟨j, h1, h2⟩ => ⟨j, by omega, h2⟩⟩
theorem wrote_head {ws now : List Int} {i : Nat} (ho : Once ws) (h : Wrote ws now i) : (∀ q, wd (nextS now) q = if q = 7 then sumL [20261114, 32, 2, 0, 0, 0, 0] else if q = 2 then 2 else wd now q) ∧ wd ws 7 = sumL [20261114, 32, 1, 0, 0, 0, 0] ∧ wd ws 2 = 1 := by
  have hl : now.length = 362 := by rw [h.hw.len]; exact ho.len
  obtain ⟨a0, a1, a2, a3, a4, a5, a6⟩ := ho.head
  refine ⟨fun q => ?_, ?_, a2⟩
  · rw [nextS_wd (by omega), take7 (by simp [countS]; omega)]
    simp only [countS_wd (now := now) (by omega), h.head 0 (by omega), h.head 1 (by omega), h.head 2 (by omega), h.head 3 (by omega), h.head 4 (by omega), h.head 5 (by omega), h.head 6 (by omega), a0, a1, a2, a3, a4, a5, a6]
    rfl
  · rw [h.hw.sum, take7 (by rw [ho.len]; omega), a0, a1, a2, a3, a4, a5, a6]
theorem sum_two : sumL [20261114, 32, 2, 0, 0, 0, 0] ≠ sumL [20261114, 32, 1, 0, 0, 0, 0] := by decide
theorem wrote_recs {ws now : List Int} {i : Nat} (ho : Once ws) (h : Wrote ws now i) (hi : i ≤ 47) : (recsOf ws (nextS now)).length = i + 2 := by
  obtain ⟨hnx, s7, s2⟩ := wrote_head ho h
  have hm : ([2, 7] ++ (List.range i).map plc).Nodup := by
    rw [List.nodup_append]
    refine ⟨by decide, ?_, ?_⟩
    · exact List.Pairwise.map _ (fun a b hab e => hab (plc_inj e)) List.nodup_range
    · intro a ha b hb e
      simp only [List.mem_map, List.mem_range] at hb
      obtain ⟨j, hj, rfl⟩ := hb
      have := plc_lt (i := j) (by omega)
      simp at ha
      omega
  have hml : ([2, 7] ++ (List.range i).map plc).length = i + 2 := by simp
  have h1 : i + 2 ≤ (recsOf ws (nextS now)).length := by
    rw [← hml]
    refine recs_many hm (fun q hq => ?_)
    rw [ho.len]
    rcases List.mem_append.1 hq with hq | hq
    · simp only [List.mem_cons, List.not_mem_nil, or_false] at hq
      rcases hq with rfl | rfl
      · rw [hnx, if_neg (by omega), if_pos rfl, s2]
        exact ⟨by omega, by omega⟩
      · rw [hnx, if_pos rfl, s7]
        exact ⟨by omega, sum_two⟩
    · simp only [List.mem_map, List.mem_range] at hq
      obtain ⟨j, hj, rfl⟩ := hq
      have hp := plc_lt (i := j) (by omega)
      rw [hnx, if_neg (by omega), if_neg (by omega)]
      exact ⟨by omega, (h.dif _ (by omega)).2 ⟨j, hj, rfl⟩⟩
  have h2 : (recsOf ws (nextS now)).length ≤ i + 2 := by
    rw [← hml]
    refine recs_few (fun q _ hq => ?_)
    have hn2 : q ≠ 2 := fun e => hq (by subst e; simp)
    have hn7 : q ≠ 7 := fun e => hq (by subst e; simp)
    rw [hnx, if_neg hn7, if_neg hn2]
    rcases Nat.lt_or_ge q 106 with hl | hl
    · exact h.head q hl
    · refine Classical.byContradiction (fun hne => ?_)
      obtain ⟨j, hj, e⟩ := (h.dif q hl).1 hne
      exact hq (List.mem_append_right _ (List.mem_map.2 ⟨j, List.mem_range.2 hj, e.symm⟩))
  omega
theorem wrote_ne {ws now : List Int} {i : Nat} (h : Wrote ws now i) (hi : 0 < i) : now ≠ ws := fun e => by
  have hp := plc_lt (i := 0) (by omega)
  have := (h.dif (plc 0) (by omega)).2 ⟨0, hi, rfl⟩
  exact this (by rw [e])
theorem wrote_end {ws now : List Int} (ho : Once ws) (h : Wrote ws now 46) : wd (pcommitW ws now) 2 = 2 ∧ HW (pcommitW ws now) (pcommitW ws now) ∧ Like (pcommitW ws now) now := by
  have hr := wrote_recs ho h (by omega)
  obtain ⟨hnx, _, _⟩ := wrote_head ho h
  refine ⟨?_, commit_good h.hw (by omega)⟩
  rw [pcommit_out (by rw [ho.len]; omega) h.hw.len (by omega) (by omega), hnx, if_neg (by omega), if_pos rfl]
end Go.Proofs.YtbagcjlimdilpaaGreat
