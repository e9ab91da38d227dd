/- Texts that follow one another, joined. -/
import Derived.Test.YtbagcjlimdilpaaGreatKtKrA
import Derived.Test.YtbagcjlimdilpaaGreatKtJ21
import Derived.Test.YtbagcjlimdilpaaGreatKtJ5
/- The words of Known, and what Check, Open and Repair say of them, whole and spoilt. -/
namespace Go.Proofs.YtbagcjlimdilpaaGreat
open Go.RowKit Go.Maps

/-- the objects of Known -/
abbrev kobs : List Ob := [⟨0, 2, 2⟩, ⟨2, 1, 0⟩, ⟨3, 1, 1⟩]
/-- the words of Known -/
def kw (n : Int) (q : Nat) : Int := if q = 0 then 20261114 else if q = 1 then n else if q = 2 then 1 else if q = 4 then 1 else if q = 106 then 1000202 else if q = 107 then 3 else if q = 108 then 4 else if q = 112 then 9 else if q = 122 then 1000100 else if q = 130 then 1000101 else 0
theorem kidx (x : Int) : idx kobs x = if x = 1 then some 0 else if x = 3 then some 1 else if x = 4 then some 2 else none := by
  unfold idx
  simp only [List.findIdx?_cons, List.findIdx?_nil, Nat.zero_add, Nat.reduceAdd]
  by_cases h1 : x = 1
  · subst h1; rfl
  · rw [if_neg h1, if_neg (by simp; omega)]
    by_cases h3 : x = 3
    · subst h3; rfl
    · rw [if_neg h3, if_neg (by simp; omega)]
      by_cases h4 : x = 4
      · subst h4; rfl
      · rw [if_neg h4, if_neg (by simp; omega)]
        rfl
structure Kall (n : Nat) (now : List Int) : Prop where
  hw : HW (imgL n) now
  ob : objs now = kobs
theorem kall_len {n : Nat} {now : List Int} (h : Kall n now) : now.length = 106 + 8 * n := by rw [h.hw.len, imgL_len]
/-- three objects -/
theorem kn_alloc {n : Nat} {now1 now2 now3 : List Int} (h5 : 5 ≤ n) (h32 : n ≤ 32) (h1 : AllocTo (imgL n) n 2 2 now1) (h2 : AllocTo now1 n 1 0 now2) (h3 : AllocTo now2 n 1 1 now3) : Kall n now3 ∧ ∀ q, wd now3 q = if q = 130 then 1000101 else if q = 122 then 1000100 else if q = 106 then 1000202 else wd (imgL n) q := by
  obtain ⟨hw0, e1, h0⟩ := imgL_hw n (by omega) h32
  obtain ⟨l1, l2, a1⟩ := alloc_first (b := 0) h1 (by rw [e1]; exact ⟨by omega, fun o ho => by cases ho⟩) (fun b' h => by omega)
  have o1 : objs now1 = [⟨0, 2, 2⟩] := by rw [alloced_last a1 (fun x hx => by rw [e1] at hx; cases hx), e1]; rfl
  have w1 := alloced_wd a1 (fun q hq _ => h0 q (by omega) (by simp only at hq; omega))
  obtain ⟨m1, m2, a2⟩ := alloc_first (b := 2) h2 (by rw [o1]; exact ⟨by omega, fun o ho => by simp at ho; subst ho; simp⟩) (fun b' hb hf => by
    rw [o1] at hf
    have := hf.2 ⟨0, 2, 2⟩ (by simp)
    simp only at this
    omega)
  have o2 : objs now2 = [⟨0, 2, 2⟩, ⟨2, 1, 0⟩] := by rw [alloced_last a2 (fun x hx => by rw [o1] at hx; simp at hx; subst hx; simp), o1]; rfl
  have w2 := alloced_wd a2 (fun q hq hq2 => by
    simp only at hq hq2
    rw [w1, if_neg (by simp only; omega), h0 q (by omega) (by omega)])
  obtain ⟨k1, k2, a3⟩ := alloc_first (b := 3) h3 (by rw [o2]; exact ⟨by omega, fun o ho => by simp at ho; rcases ho with rfl | rfl <;> simp⟩) (fun b' hb hf => by
    rw [o2] at hf
    have := hf.2 ⟨0, 2, 2⟩ (by simp)
    have := hf.2 ⟨2, 1, 0⟩ (by simp)
    simp only at *
    omega)
  have w3 := alloced_wd a3 (fun q hq hq2 => by
    simp only at hq hq2
    rw [w2, if_neg (by simp only; omega), w1, if_neg (by simp only; omega), h0 q (by omega) (by omega)])
  refine ⟨⟨((hw0.to a1.good a1.len (fun q _ h => a1.head q h)).to a2.good a2.len (fun q _ h => a2.head q h)).to a3.good a3.len (fun q _ h => a3.head q h), ?_⟩, fun q => ?_⟩
  · rw [alloced_last a3 (fun x hx => by rw [o2] at hx; simp at hx; rcases hx with rfl | rfl <;> simp), o2]; rfl
  · rw [w3 q, w2 q, w1 q]
    rfl
theorem kn_root {n : Nat} {now : List Int} (h : Kall n now) : setRootS now 1 1 = (now.set 4 1, 0) ∧ Kall n (now.set 4 1) := by
  have hnd : Hnd (objs now) 1 := ⟨⟨0, 2, 2⟩, by rw [h.ob]; simp, rfl⟩
  obtain ⟨g1, g2, g3, g4⟩ := root_good h.hw.gn (i := 1) (n := 1) (by omega) (.inr hnd)
  refine ⟨?_, h.hw.to g1 (by simp) (fun q h1 h2 => g4 q (by omega)), g2.trans h.ob⟩
  unfold setRootS
  rw [if_neg (by omega), if_neg (fun hx => idx_hnd.2 hnd hx.2)]
  rfl
theorem kn_write {n : Nat} {now : List Int} (h : Kall n now) (i : Nat) (v : Int) (hi : i < 15) (hv : i < 2 → v = 3 ∨ v = 4) : writeS now 1 (i : Int) v = (now.set (107 + i) v, 0) ∧ Kall n (now.set (107 + i) v) := by
  have hk : 0 < (things now).length := by rw [things_len, h.ob]; simp
  obtain ⟨hk', e⟩ := things_at hk
  have e1 : ((things now)[0]).1 = ⟨0, 2, 2⟩ := by rw [e]; simp only [h.ob]; rfl
  have hy : i < ((things now)[0]).1.ptrs → v = 0 ∨ Hnd (objs now) v := fun hp => by
    rw [e1] at hp
    right
    rw [h.ob]
    rcases hv hp with rfl | rfl
    · exact ⟨⟨2, 1, 0⟩, by simp, rfl⟩
    · exact ⟨⟨3, 1, 1⟩, by simp, rfl⟩
  have hi' : i < 8 * ((things now)[0]).1.span - 1 := by rw [e1]; simp only; omega
  have hw := write_is hk hi' hy
  obtain ⟨t1, t2, t3, t4⟩ := things_write h.hw.gn hk hi' hy
  have hp : pl ((things now)[0]).1 i = 107 + i := by rw [e1]; unfold pl; simp only
  rw [hp] at hw t1 t3 t4
  rw [e1] at hw
  exact ⟨hw, h.hw.to t1 (by simp) (fun q _ h2 => t4 q h2), t3.trans h.ob⟩
/-- the words that are committed -/
structure Kn (n : Nat) (ws : List Int) : Prop where
  h5 : 5 ≤ n
  h32 : n ≤ 32
  len : ws.length = 106 + 8 * n
  hw : HW ws ws
  ob : objs ws = kobs
  ww : ∀ q, q < 7 ∨ 106 ≤ q → wd ws q = kw n q
theorem kn_commit {n : Nat} {now3 : List Int} (h5 : 5 ≤ n) (h32 : n ≤ 32) (w3 : ∀ q, wd now3 q = if q = 130 then 1000101 else if q = 122 then 1000100 else if q = 106 then 1000202 else wd (imgL n) q) (h : Kall n ((((now3.set 4 1).set 107 3).set 108 4).set 112 9)) :
    (recsOf (imgL n) (nextS ((((now3.set 4 1).set 107 3).set 108 4).set 112 9))).length ≤ 48 ∧ (((now3.set 4 1).set 107 3).set 108 4).set 112 9 ≠ imgL n ∧ Kn n (pcommitW (imgL n) ((((now3.set 4 1).set 107 3).set 108 4).set 112 9)) := by
  obtain ⟨hw0, e1, h0⟩ := imgL_hw n (by omega) h32
  have hl3 : now3.length = 106 + 8 * n := by have := kall_len h; simpa using this
  have hwd : ∀ q, wd ((((now3.set 4 1).set 107 3).set 108 4).set 112 9) q = if q = 112 then 9 else if q = 108 then 4 else if q = 107 then 3 else if q = 4 then 1 else wd now3 q := fun q => by
    rw [wd_set (by simp; omega), wd_set (by simp; omega), wd_set (by simp; omega), wd_set (by omega)]
  have hl := kall_len h
  generalize ((((now3.set 4 1).set 107 3).set 108 4).set 112 9) = now at h hwd hl
  have hnx := fun q => nextS_wd (now := now) (by omega) q
  have few : (recsOf (imgL n) (nextS now)).length ≤ 48 := by
    refine Nat.le_trans (recs_few (m := [2, 4, 7, 106, 107, 108, 112, 122, 130]) (fun q _ hq => ?_)) (by simp)
    simp only [List.mem_cons, List.not_mem_nil, or_false, not_or] at hq
    obtain ⟨q1, q2, q3, q4, q5, q6, q7, q8, q9⟩ := hq
    rw [hnx, if_neg q3, if_neg q1, hwd, if_neg q7, if_neg q6, if_neg q5, if_neg q2, w3, if_neg q9, if_neg q8, if_neg q4]
  have hout : ∀ q, q < 8 ∨ 106 ≤ q → wd (pcommitW (imgL n) now) q = wd (nextS now) q := fun q hq => pcommit_out (by rw [imgL_len]; omega) h.hw.len few hq
  obtain ⟨cg, cl⟩ := commit_good h.hw few
  refine ⟨few, fun e => ?_, h5, h32, by rw [pcommitW_len, imgL_len], cg, by rw [cl.ob, h.ob], fun q hq => ?_⟩
  · have := hwd 112
    rw [e, h0 112 (by omega) (by omega), if_pos rfl] at this
    omega
  · rw [hout q (by omega), hnx, if_neg (by omega)]
    by_cases c2 : q = 2
    · subst c2
      have e2 : wd now 2 = 0 := by
        rw [hwd, w3, h0 2 (by omega) (by omega)]
        simp
      have e3 : kw n 2 = 1 := by simp [kw]
      rw [if_pos rfl, e2, e3]
      decide
    · rw [if_neg c2, hwd, w3, imgL_wd]
      unfold kw
      by_cases c0 : q = 0
      · subst c0; simp
      · by_cases c1 : q = 1
        · subst c1; simp
        · rw [if_neg c0, if_neg c1, if_neg (by omega : ¬ q = 7), if_neg c0, if_neg c1, if_neg c2]
          by_cases d1 : q = 112
          · subst d1; simp
          · by_cases d2 : q = 108
            · subst d2; simp
            · by_cases d3 : q = 107
              · subst d3; simp
              · by_cases d4 : q = 4
                · subst d4; simp
                · by_cases d5 : q = 130
                  · subst d5; simp
                  · by_cases d6 : q = 122
                    · subst d6; simp
                    · by_cases d7 : q = 106
                      · subst d7; simp
                      · simp only [if_neg d1, if_neg d2, if_neg d3, if_neg d4, if_neg d5, if_neg d6, if_neg d7]
/-- words with the objects of Known, whole but for a root and three pointers -/
structure Kd (n : Nat) (ws : List Int) (r a b c : Int) : Prop where
  n0 : nblk ws.length = n
  h5 : 5 ≤ n
  bad : bads ws = []
  ob : objs ws = kobs
  magic : wd ws 0 = 20261114
  n : wd ws 1 = n
  sum : wd ws 7 = sumL (ws.take 7)
  log : wd ws 8 = 0
  r0 : wd ws 3 = 0
  r1 : wd ws 4 = r
  r2 : wd ws 5 = 0
  r3 : wd ws 6 = 0
  p0 : wd ws 107 = a
  p1 : wd ws 108 = b
  p2 : wd ws 131 = c
namespace Kd
variable {n : Nat} {ws : List Int} {r a b c : Int}
theorem head (h : Kd n ws r a b c) : Clear (headT ws) := fun y hy => by
  have := h.h5
  simp only [headT, List.mem_cons, List.not_mem_nil, or_false] at hy
  rcases hy with rfl | rfl | rfl | rfl | rfl
  · simp only; rw [h.n0]; omega
  · simp only; exact fun hn => hn h.magic
  · simp only; rw [h.n0]; exact fun hn => hn h.n
  · simp only; exact fun hn => hn h.sum
  · simp only; exact fun hn => hn h.log
theorem pre (h : Kd n ws r a b c) : Clear (headT ws ++ badT ws) := clear_bad h.head h.bad
theorem root (h : Kd n ws r a b c) (k : Nat) (hk : k < 4) : wd ws (3 + k) = if k = 1 then r else 0 := by
  match k, hk with
  | 0, _ => exact h.r0
  | 1, _ => exact h.r1
  | 2, _ => exact h.r2
  | 3, _ => exact h.r3
theorem roots (h : Kd n ws r a b c) (hr : r = 0 ∨ idx kobs r ≠ none) : Clear ((List.range 4).map (rootT ws (objs ws))) := fun y hy => by
  obtain ⟨k, hk, rfl⟩ := List.mem_map.1 hy
  have hk4 : k < 4 := by simpa using hk
  simp only [rootT]
  rw [h.root k hk4, h.ob]
  by_cases h1 : k = 1
  · rw [if_pos h1]
    rintro ⟨q1, q2⟩
    rcases hr with hr | hr
    · exact q1 hr
    · exact hr q2
  · rw [if_neg h1]
    rintro ⟨q1, _⟩
    exact q1 rfl
/-- where the pointers are -/
theorem ptr (h : Kd n ws r a b c) (P : Int → Prop) (ha : P a) (hb : P b) (hc : P c) : ∀ o ∈ kobs, ∀ p, p < o.ptrs → P (wd ws (pl o p)) := fun o ho p hp => by
  simp only [List.mem_cons, List.not_mem_nil, or_false] at ho
  rcases ho with rfl | rfl | rfl
  · simp only at hp
    match p, hp with
    | 0, _ => rw [show pl ⟨0, 2, 2⟩ 0 = 107 from rfl, h.p0]; exact ha
    | 1, _ => rw [show pl ⟨0, 2, 2⟩ 1 = 108 from rfl, h.p1]; exact hb
  · simp at hp
  · simp only at hp
    match p, hp with
    | 0, _ => rw [show pl ⟨3, 1, 1⟩ 0 = 131 from rfl, h.p2]; exact hc
theorem ptrs (h : Kd n ws r a b c) (ha : a = 0 ∨ idx kobs a ≠ none) (hb : b = 0 ∨ idx kobs b ≠ none) (hc : c = 0 ∨ idx kobs c ≠ none) : Clear ((objs ws).flatMap (ptrsT ws (objs ws))) := fun y hy => by
  rw [h.ob] at hy
  obtain ⟨o, ho, hy⟩ := List.mem_flatMap.1 hy
  obtain ⟨p, hp, rfl⟩ := List.mem_map.1 hy
  have hp' : p < o.ptrs := by simpa using hp
  have := h.ptr (fun x => x = 0 ∨ idx kobs x ≠ none) ha hb hc o ho p hp'
  simp only [ptrT]
  rintro ⟨q1, q2⟩
  rcases this with e | e
  · exact q1 e
  · exact e q2
/-- a root of nothing -/
theorem noRoot (h : Kd n ws r a b c) (hr : r ≠ 0) (hx : idx kobs r = none) : CheckIs ws 6 4 := by
  refine check_root (r := 1) h.pre (by omega) (fun y hy => ?_) ?_
  · obtain ⟨k, hk, rfl⟩ := List.mem_map.1 hy
    obtain rfl : k = 0 := by simpa using hk
    simp only [rootT]
    rw [h.root 0 (by omega)]
    rintro ⟨q1, _⟩
    exact q1 rfl
  · rw [h.root 1 (by omega), h.ob, if_pos rfl]
    exact ⟨hr, hx⟩
/-- a pointer to nothing -/
theorem noPtr (h : Kd n ws r a b c) (hr : r = 0 ∨ idx kobs r ≠ none) {i p : Nat} (hi : i < kobs.length) (hp : p < (kobs[i]).ptrs) (hw : ∀ j (hj : j < kobs.length) q, q < (kobs[j]).ptrs → (j < i ∨ j = i ∧ q < p) → wd ws (pl kobs[j] q) = 0 ∨ idx kobs (wd ws (pl kobs[j] q)) ≠ none) (hx : wd ws (pl kobs[i] p) ≠ 0 ∧ idx kobs (wd ws (pl kobs[i] p)) = none) : CheckIs ws 7 ((pl kobs[i] p : Nat) : Int) := by
  have hob := h.ob
  have hR := h.roots hr
  have hA := h.pre
  have hi' : i < (objs ws).length := by rw [hob]; exact hi
  have e : (objs ws)[i] = kobs[i] := by simp only [hob]
  have := check_ptr hA hR hi' (p := p) (fun y hy => by
    rw [hob] at hy
    obtain ⟨o, ho, hy⟩ := List.mem_flatMap.1 hy
    obtain ⟨q, hq, rfl⟩ := List.mem_map.1 hy
    have hq' : q < o.ptrs := by simpa using hq
    obtain ⟨j, hj, rfl⟩ := List.getElem_of_mem ho
    have hj' : j < i ∧ j < kobs.length := by simp at hj ⊢; omega
    simp only [List.getElem_take] at hq' ⊢
    have := hw j hj'.2 q hq' (.inl hj'.1)
    simp only [ptrT]
    rintro ⟨q1, q2⟩
    rcases this with e | e
    · exact q1 e
    · exact e q2) (by rw [e]; exact hp) (fun y hy => by
    obtain ⟨q, hq, rfl⟩ := List.mem_map.1 hy
    have hq' : q < p := by simpa using hq
    rw [e, hob]
    have := hw i hi q (by omega) (.inr ⟨rfl, hq'⟩)
    simp only [ptrT]
    rintro ⟨q1, q2⟩
    rcases this with e | e
    · exact q1 e
    · exact e q2) (by rw [e, hob]; exact hx)
  rw [e] at this
  exact this
theorem reach_all (h : Kd n ws r a b c) (hr : r = 1) (ha : a = 3) (hb : b = 4) : ∀ i, i < (objs ws).length → Reach ws (objs ws) i := by
  have e0 : Reach ws kobs 0 := reach_root (r := 1) (by omega) (by rw [h.root 1 (by omega), if_pos rfl, hr]; rfl)
  have e1 : Reach ws kobs 1 := reach_step (p := 0) (i := 0) (by simp) e0 (by simp) (by rw [show pl kobs[0] 0 = 107 from rfl, h.p0, ha]; rfl)
  have e2 : Reach ws kobs 2 := reach_step (p := 1) (i := 0) (by simp) e0 (by simp) (by rw [show pl kobs[0] 1 = 108 from rfl, h.p1, hb]; rfl)
  rw [h.ob]
  intro i hi
  simp at hi
  match i, hi with
  | 0, _ => exact e0
  | 1, _ => exact e1
  | 2, _ => exact e2
/-- whole -/
theorem whole (h : Kd n ws r a b c) (hr : r = 1) (ha : a = 3) (hb : b = 4) (hc : c = 0) : CheckIs ws 0 0 := by
  refine check_ok h.pre (h.roots (.inr (by rw [hr]; decide))) (h.ptrs (.inr (by rw [ha]; decide)) (.inr (by rw [hb]; decide)) (.inl hc)) (fun y hy => ?_)
  obtain ⟨i, hi, rfl⟩ := List.mem_map.1 hy
  have hi' : i < (objs ws).length := by simpa using hi
  simp only [leakT]
  exact fun hn => hn (h.reach_all hr ha hb i hi')
/-- the first two are held by none -/
theorem reach_last (h : Kd n ws r a b c) (hr : r = 4) (hc : c = 0) : Reach ws kobs 2 ∧ ¬ Reach ws kobs 0 ∧ ¬ Reach ws kobs 1 := by
  have hS : Closed ws kobs (fun k => k = 2) := by
    refine ⟨fun q hq k hk => ?_, fun i hi p k hs hp hk => ?_⟩
    · rw [h.root q hq] at hk
      by_cases h1 : q = 1
      · rw [if_pos h1, hr, kidx] at hk
        simpa using hk.symm
      · rw [if_neg h1, kidx] at hk
        simp at hk
    · subst hs
      have hp0 : p = 0 := by simpa using hp
      subst hp0
      rw [show pl kobs[2] 0 = 131 from rfl, h.p2, hc, kidx] at hk
      simp at hk
  refine ⟨reach_root (r := 1) (by omega) (by rw [h.root 1 (by omega), if_pos rfl, hr]; rfl), fun hn => ?_, fun hn => ?_⟩
  · have := hn _ hS; simp at this
  · have := hn _ hS; simp at this
theorem leak (h : Kd n ws r a b c) (hr : r = 4) (ha : a = 3) (hb : b = 4) (hc : c = 0) : CheckIs ws 8 106 := by
  have hob := h.ob
  have hi : 0 < (objs ws).length := by rw [hob]; simp
  have e : (objs ws)[0] = ⟨0, 2, 2⟩ := by simp only [hob]; rfl
  have := check_leak (i := 0) h.pre (h.roots (.inr (by rw [hr]; decide))) (h.ptrs (.inr (by rw [ha]; decide)) (.inr (by rw [hb]; decide)) (.inl hc)) hi clear_nil (by rw [hob]; exact (h.reach_last hr hc).2.1)
  rw [e] at this
  exact this
theorem hwOf (h : Kd n ws r a b c) (hr : r = 0 ∨ idx kobs r ≠ none) (ha : a = 0 ∨ idx kobs a ≠ none) (hb : b = 0 ∨ idx kobs b ≠ none) (hc : c = 0 ∨ idx kobs c ≠ none) : HW ws ws := by
  have g : Good ws := ⟨by rw [h.n0]; have := h.h5; omega, h.bad, h.magic, by rw [h.n0]; exact h.n, h.log, fun k hk => by
    rw [h.root k hk, h.ob]
    by_cases h1 : k = 1
    · rw [if_pos h1]; exact hr.imp id idx_hnd.1
    · rw [if_neg h1]; exact .inl rfl, fun o ho p hp => by
    rw [h.ob] at ho ⊢
    exact (h.ptr (fun x => x = 0 ∨ idx kobs x ≠ none) ha hb hc o ho p hp).imp id idx_hnd.1⟩
  exact ⟨g, g, h.sum, rfl, fun _ _ _ => rfl⟩
/-- what Repair makes where the first two are held by none -/
theorem mended (h : Kd n ws r a b c) (hr : r = 4) (ha : a = 3) (hb : b = 4) (hc : c = 0) (h130 : wd ws 130 = 1000101) {r' : List Int} {e : Int} (hR : RepairIs ws r' e) : e = 0 ∧ wd r' 106 = 0 ∧ wd r' 114 = 0 ∧ wd r' 122 = 0 ∧ wd r' 130 = 1000101 ∧ wd r' 4 = 4 := by
  have hhw := h.hwOf (.inr (by rw [hr]; decide)) (.inr (by rw [ha]; decide)) (.inr (by rw [hb]; decide)) (.inl hc)
  have hL := hhw.gw.len
  obtain ⟨e0, hm, _⟩ := repair_good hR (opens_self hhw)
  subst e0
  refine ⟨rfl, ?_⟩
  have r4 := hm.roots 1 (by omega)
  rw [show 3 + 1 = 4 from rfl, h.r1, hr] at r4
  rcases hR with ⟨h0, _⟩ | ⟨_, ⟨_, h0, _⟩ | ⟨_, _, w2, w3, z2, z3, rfl⟩⟩
  · exact absurd h0 hhw.gw.n0
  · cases h0
  rw [logged_self hhw, h.bad] at z2
  obtain rfl : w2 = ws := Zeroed.one z2 (zeroed_self ws (fun q hq => by simp at hq))
  have h7 : 7 < w3.length := by rw [z3.len]; omega
  have hwd : ∀ q, q ≠ 7 → wd (w3.set 7 (sumL (w3.take 7))) q = wd w3 q := fun q hq => by rw [wd_set h7, if_neg hq]
  obtain ⟨rc, n0, n1⟩ := h.reach_last hr hc
  rw [h.ob] at z3
  refine ⟨?_, ?_, ?_, ?_, r4⟩
  · rw [hwd _ (by omega)]
    exact z3.yes _ (.inr ⟨0, by simp, by simp, n0, 0, by simp, rfl⟩)
  · rw [hwd _ (by omega)]
    exact z3.yes _ (.inr ⟨0, by simp, by simp, n0, 1, by simp, rfl⟩)
  · rw [hwd _ (by omega)]
    exact z3.yes _ (.inr ⟨1, by simp, by simp, n1, 0, by simp, rfl⟩)
  · rw [hwd _ (by omega), z3.no _ ?_, h130]
    rintro ((hx | hx) | hx)
    · have := hx.2.1; omega
    · obtain ⟨j, hj, _, _, p', hp', e, _⟩ := hx
      unfold pl at e
      simp at hj
      match j, hj with
      | 0, _ => simp only [List.getElem_cons_zero] at hp' e; omega
      | 1, _ => simp only [List.getElem_cons_succ, List.getElem_cons_zero] at hp' e; omega
      | 2, _ => simp only [List.getElem_cons_succ, List.getElem_cons_zero] at hp' e; omega
    · obtain ⟨j, hj, _, hnr, b', hb', e⟩ := hx
      simp at hj
      match j, hj with
      | 0, _ => simp only [List.getElem_cons_zero] at hb' e; omega
      | 1, _ => simp only [List.getElem_cons_succ, List.getElem_cons_zero] at hb' e; omega
      | 2, _ => exact hnr rc
end Kd
end Go.Proofs.YtbagcjlimdilpaaGreat
/- What Check and Open say of the words of Known, each of eighteen words spoilt. -/
namespace Go.Proofs.YtbagcjlimdilpaaGreat
open Go.RowKit Go.Maps

def kP (k : Nat) : Nat := [0, 1, 2, 3, 5, 7, 8, 106, 122, 130, 107, 108, 131, 4, 9, 12, 116, 146].getD k 0
def kE (k : Nat) : Int := [3, 3, 3, 3, 3, 3, 4, 5, 5, 5, 7, 7, 7, 3, 0, 0, 0, 0].getD k 0
def kA (k : Nat) : Int := [0, 1, 7, 7, 7, 7, 8, 106, 122, 130, 107, 108, 131, 7, 0, 0, 0, 0].getD k 0
/-- Open, of words whose log is empty -/
theorem open_check {im : List Int} {c p : Int} (hn : nblk im.length ≠ 0) (h8 : wd im 8 = 0) (hc : CheckIs im c p) : (c = 0 ∨ c = 8 → OpenOk im) ∧ (c ≠ 0 → c ≠ 8 → OpenErr im c) := by
  have ha := asks_none h8
  have ho : openW im = im := by unfold openW; rw [ha, if_pos rfl]
  refine ⟨fun h => ⟨hn, by rw [ha], c, p, by rw [ho]; exact hc, h⟩, fun h0 h1 => .inr ⟨hn, .inr ⟨by rw [ha], h0, h1, p, by rw [ho]; exact hc⟩⟩⟩
namespace Kn
variable {n : Nat} {ws im : List Int}
theorem n0 (h : Kn n ws) : nblk ws.length = n := by rw [h.len]; exact nblk_mk n (by have := h.h5; omega) h.h32
theorem log (h : Kn n ws) : wd ws 8 = 0 := h.hw.gw.log
/-- other words, whose head and headers are the same -/
theorem kd (h : Kn n ws) (hl : im.length = ws.length) (hd : ∀ q, q < 9 → wd im q = wd ws q) (hh : ∀ c, wd im (106 + 8 * c) = wd ws (106 + 8 * c)) : Kd n im 1 (wd im 107) (wd im 108) (wd im 131) := by
  obtain ⟨e1, e2⟩ := objs_congr hl hh
  have hlen := h.len
  have h5 := h.h5
  have e7 : im.take 7 = ws.take 7 := by
    rw [take7 (by omega), take7 (by omega), hd 0 (by omega), hd 1 (by omega), hd 2 (by omega), hd 3 (by omega), hd 4 (by omega), hd 5 (by omega), hd 6 (by omega)]
  refine ⟨by rw [hl]; exact h.n0, h5, e2.trans h.hw.gw.bad, e1.trans h.ob, (hd 0 (by omega)).trans h.hw.gw.magic, ?_, ?_, (hd 8 (by omega)).trans h.log, ?_, ?_, ?_, ?_, rfl, rfl, rfl⟩
  · rw [hd 1 (by omega), h.hw.gw.n, h.n0]
  · rw [hd 7 (by omega), h.hw.sum, e7]
  · rw [hd 3 (by omega), h.ww 3 (by omega)]; rfl
  · rw [hd 4 (by omega), h.ww 4 (by omega)]; rfl
  · rw [hd 5 (by omega), h.ww 5 (by omega)]; rfl
  · rw [hd 6 (by omega), h.ww 6 (by omega)]; rfl
theorem self (h : Kn n ws) : Kd n ws 1 3 4 0 := by
  have := h.kd rfl (fun _ _ => rfl) (fun _ => rfl)
  rwa [h.ww 107 (by omega), h.ww 108 (by omega), h.ww 131 (by omega)] at this
theorem swd (_ : Kn n ws) {p : Nat} (hp : p < ws.length) (v : Int) (q : Nat) : wd (ws.set p v) q = if q = p then v else wd ws q := wd_set hp
/-- a word of the head is another one -/
theorem noSum (h : Kn n ws) (hu : ∀ z ∈ ws, U z) {p : Nat} {v : Int} (hp : 2 ≤ p ∧ p < 8) (hv : U v) (hne : v ≠ wd ws p) : CheckIs (ws.set p v) 3 7 := by
  have h5 := h.h5
  have hlen := h.len
  have hw := h.swd (p := p) (by omega) v
  have hsum : wd (ws.set p v) 7 ≠ sumL ((ws.set p v).take 7) := by
    rw [hw]
    by_cases h7 : p = 7
    · subst h7
      rw [if_pos rfl, List.take_set_of_le (by omega), ← h.hw.sum]
      exact hne
    · rw [if_neg (by omega), h.hw.sum, List.take_set]
      intro e
      have := sumL_set (ws.take 7) (fun x hx => hu x (List.mem_of_mem_take hx)) p (by simp; omega) v hv e.symm
      rw [List.getElem_take] at this
      exact hne (by rw [this]; simp [wd, List.getD, show p < ws.length by omega])
  unfold CheckIs checkT headT
  refine .inr ⟨?_, .inr ⟨?_, .inr ⟨?_, .inl ⟨hsum, rfl, rfl⟩⟩⟩⟩
  · simp only [List.length_set]; rw [h.n0]; omega
  · simp only [ne_eq, Classical.not_not]; rw [hw, if_neg (by omega)]; exact h.hw.gw.magic
  · simp only [ne_eq, Classical.not_not, List.length_set]; rw [hw, if_neg (by omega)]; exact h.hw.gw.n
theorem noMagic (h : Kn n ws) {v : Int} (hne : v ≠ 20261114) : CheckIs (ws.set 0 v) 3 0 := by
  have h5 := h.h5
  have hlen := h.len
  unfold CheckIs checkT headT
  refine .inr ⟨?_, .inl ⟨?_, rfl, rfl⟩⟩
  · simp only [List.length_set]; rw [h.n0]; omega
  · simp only [ne_eq]; rw [h.swd (by omega), if_pos rfl]; exact hne
theorem noNum (h : Kn n ws) {v : Int} (hne : v ≠ (n : Int)) : CheckIs (ws.set 1 v) 3 1 := by
  have h5 := h.h5
  have hlen := h.len
  unfold CheckIs checkT headT
  refine .inr ⟨?_, .inr ⟨?_, .inl ⟨?_, rfl, rfl⟩⟩⟩
  · simp only [List.length_set]; rw [h.n0]; omega
  · simp only [ne_eq, Classical.not_not]; rw [h.swd (by omega), if_neg (by omega)]; exact h.hw.gw.magic
  · simp only [ne_eq, List.length_set]; rw [h.swd (by omega), if_pos rfl, h.n0]; exact hne
/-- the head is whole where the spoilt word lies behind it -/
theorem clearHead (h : Kn n ws) {p : Nat} {v : Int} (hp : 9 ≤ p) (hl : p < ws.length) : Clear (headT (ws.set p v)) := fun y hy => by
  have h5 := h.h5
  have hlen := h.len
  have hw := h.swd hl v
  simp only [headT, List.mem_cons, List.not_mem_nil, or_false] at hy
  rcases hy with rfl | rfl | rfl | rfl | rfl
  · simp only [List.length_set]; rw [h.n0]; omega
  · simp only [ne_eq, Classical.not_not]; rw [hw, if_neg (by omega)]; exact h.hw.gw.magic
  · simp only [ne_eq, Classical.not_not, List.length_set]; rw [hw, if_neg (by omega)]; exact h.hw.gw.n
  · simp only [ne_eq, Classical.not_not]; rw [hw, if_neg (by omega), List.take_set_of_le (by omega)]; exact h.hw.sum
  · simp only [ne_eq, Classical.not_not]; rw [hw, if_neg (by omega)]; exact h.log
theorem noLog (h : Kn n ws) {v : Int} (hne : v ≠ 0) : CheckIs (ws.set 8 v) 4 8 := by
  have h5 := h.h5
  have hlen := h.len
  unfold CheckIs checkT headT
  refine .inr ⟨?_, .inr ⟨?_, .inr ⟨?_, .inr ⟨?_, .inl ⟨?_, rfl, rfl⟩⟩⟩⟩⟩
  · simp only [List.length_set]; rw [h.n0]; omega
  · simp only [ne_eq, Classical.not_not]; rw [h.swd (by omega), if_neg (by omega)]; exact h.hw.gw.magic
  · simp only [ne_eq, Classical.not_not, List.length_set]; rw [h.swd (by omega), if_neg (by omega)]; exact h.hw.gw.n
  · simp only [ne_eq, Classical.not_not]; rw [h.swd (by omega), if_neg (by omega), List.take_set_of_le (by omega)]; exact h.hw.sum
  · simp only [ne_eq]; rw [h.swd (by omega), if_pos rfl]; exact hne
theorem badSlot {v : Int} (h0 : v ≠ 0) (hv : 1000500 ≤ v) {im : List Int} {b : Nat} (hw : wd im (106 + 8 * b) = v) : slotAt im b = some none :=
  slot_bad (by rw [hw]; exact h0) (fun s p _ h4 hp hh => by
    have := hh.1
    rw [hw] at this
    omega)
theorem noHeader (h : Kn n ws) {v : Int} (hv : 1000500 ≤ v) : CheckIs (ws.set 106 v) 5 106 ∧ CheckIs (ws.set 122 v) 5 122 ∧ CheckIs (ws.set 130 v) 5 130 := by
  have h5 := h.h5
  have h32 := h.h32
  have hlen := h.len
  have hn : ∀ p, nblk (ws.set p v).length = n := fun p => by rw [List.length_set]; exact h.n0
  have s0 : ∀ p, p < ws.length → 106 < p → slotAt (ws.set p v) 0 = some (some ⟨0, 2, 2⟩) := fun p hp h1 => slot_ob (by
    refine ⟨?_, by rw [List.length_set]; omega⟩
    rw [h.swd hp, if_neg (by omega), h.ww _ (by omega)]
    rfl) (by omega) (by omega) (by omega)
  have s2 : slotAt (ws.set 130 v) 2 = some (some ⟨2, 1, 0⟩) := slot_ob (by
    refine ⟨?_, by rw [List.length_set]; omega⟩
    rw [h.swd (by omega), if_neg (by omega), h.ww _ (by omega)]
    rfl) (by omega) (by omega) (by omega)
  refine ⟨check_bad (r := (walkS (ws.set 106 v) n 1).2) (h.clearHead (by omega) (by omega)) ?_, check_bad (r := (walkS (ws.set 122 v) n 3).2) (h.clearHead (by omega) (by omega)) ?_, check_bad (r := (walkS (ws.set 130 v) n 4).2) (h.clearHead (by omega) (by omega)) ?_⟩
  · unfold bads
    rw [hn, walk_bad (by omega) (badSlot (v := v) (by omega) hv (by rw [h.swd (by omega), if_pos rfl]))]
  · unfold bads
    rw [hn, walk_ob (by omega) (s0 122 (by omega) (by omega))]
    simp only [Nat.zero_add]
    rw [walk_bad (by omega) (badSlot (v := v) (by omega) hv (by rw [h.swd (by omega), if_pos rfl]))]
  · unfold bads
    rw [hn, walk_ob (by omega) (s0 130 (by omega) (by omega))]
    simp only [Nat.zero_add]
    rw [walk_ob (by omega) s2]
    simp only [Nat.reduceAdd]
    rw [walk_bad (by omega) (badSlot (v := v) (by omega) hv (by rw [h.swd (by omega), if_pos rfl]))]
/-- a word behind the head that is no header -/
theorem kdSet (h : Kn n ws) {p : Nat} (v : Int) (hp : 9 ≤ p) (hl : p < ws.length) (hh : p < 106 ∨ p % 8 ≠ 2 ∨ v = wd ws p) : Kd n (ws.set p v) 1 (if p = 107 then v else 3) (if p = 108 then v else 4) (if p = 131 then v else 0) := by
  have hw := h.swd hl v
  have := h.kd (im := ws.set p v) (by simp) (fun q hq => by rw [hw, if_neg (by omega)]) (fun c => by
    rw [hw]
    by_cases e : 106 + 8 * c = p
    · rw [if_pos e]
      rcases hh with hh | hh | hh
      · omega
      · omega
      · rw [hh, e]
    · rw [if_neg e])
  rw [hw, hw, hw, h.ww 107 (by omega), h.ww 108 (by omega), h.ww 131 (by omega)] at this
  simp only [@eq_comm Nat 107 p, @eq_comm Nat 108 p, @eq_comm Nat 131 p] at this
  exact this
theorem big {x : Int} (hx : 41 ≤ x) : idx kobs x = none := by rw [kidx, if_neg (by omega), if_neg (by omega), if_neg (by omega)]
theorem noPtrs (h : Kn n ws) {v : Int} (hv : 41 ≤ v) : CheckIs (ws.set 107 v) 7 107 ∧ CheckIs (ws.set 108 v) 7 108 ∧ CheckIs (ws.set 131 v) 7 131 := by
  have h5 := h.h5
  have hlen := h.len
  have k1 := h.kdSet (p := 107) v (by omega) (by omega) (by omega)
  have k2 := h.kdSet (p := 108) v (by omega) (by omega) (by omega)
  have k3 := h.kdSet (p := 131) v (by omega) (by omega) (by omega)
  refine ⟨k1.noPtr (i := 0) (p := 0) (.inr (by decide)) (by simp) (by simp) (fun j hj q hq hlt => by omega) ?_, k2.noPtr (i := 0) (p := 1) (.inr (by decide)) (by simp) (by simp) (fun j hj q hq hlt => ?_) ?_, k3.noPtr (i := 2) (p := 0) (.inr (by decide)) (by simp) (by simp) (fun j hj q hq hlt => ?_) ?_⟩
  · rw [show pl kobs[0] 0 = 107 from rfl, k1.p0, if_pos rfl]
    exact ⟨by omega, big hv⟩
  · obtain ⟨rfl, rfl⟩ : j = 0 ∧ q = 0 := by omega
    rw [show pl kobs[0] 0 = 107 from rfl, k2.p0, if_neg (by omega)]
    exact .inr (by decide)
  · rw [show pl kobs[0] 1 = 108 from rfl, k2.p1, if_pos rfl]
    exact ⟨by omega, big hv⟩
  · simp at hj
    match j, hj with
    | 0, _ =>
      have hq2 : q < 2 := hq
      match q, hq2 with
      | 0, _ => rw [show pl kobs[0] 0 = 107 from rfl, k3.p0, if_neg (by omega)]; exact .inr (by decide)
      | 1, _ => rw [show pl kobs[0] 1 = 108 from rfl, k3.p1, if_neg (by omega)]; exact .inr (by decide)
    | 1, _ => simp at hq
    | 2, _ => omega
  · rw [show pl kobs[2] 0 = 131 from rfl, k3.p2, if_pos rfl]
    exact ⟨by omega, big hv⟩
theorem xor_ne {b s : Int} (hb : U b) (hs : U s) (h0 : b ≠ 0) : bits .xor .u64 b s ≠ s := fun e => by
  have h1 : bits .xor .u64 0 s = s := by
    rw [xor_eq ⟨by omega, by omega⟩ hs]
    have := hs.1
    simp
    omega
  exact h0 (xor_right hb ⟨by omega, by omega⟩ hs (e.trans h1.symm))
theorem wdU (hu : ∀ z ∈ ws, U z) (q : Nat) : U (wd ws q) := by
  by_cases hq : q < ws.length
  · have e : wd ws q = ws[q] := by simp [wd, List.getD, hq]
    rw [e]
    exact hu _ (List.getElem_mem hq)
  · rw [wd_out (by omega)]; unfold U; omega
/-- each of the eighteen -/
theorem spoilt (h : Kn n ws) (hu : ∀ z ∈ ws, U z) {k : Nat} (hk : k < 18) (hp : kP k < ws.length) {bad v : Int} (hb : 1000000000 ≤ bad) (hb2 : bad < 18446744073709551616) (hv : v = if k = 17 then 0 else if k = 5 then bits .xor .u64 bad (wd ws 7) else bad) : CheckIs (ws.set (kP k) v) (kE k) (kA k) := by
  have h32 := h.h32
  have hU : U bad := ⟨by omega, by omega⟩
  have hwd : ∀ q, q < 7 → q ≠ 0 → q ≠ 1 → wd ws q ≤ 1 := fun q h1 h2 h3 => by
    rw [h.ww q (by omega)]
    unfold kw
    rw [if_neg h2, if_neg h3]
    split
    · omega
    · split
      · omega
      · repeat (split; omega)
        omega
  obtain rfl | rfl | rfl | rfl | rfl | rfl | rfl | rfl | rfl | rfl | rfl | rfl | rfl | rfl | rfl | rfl | rfl | rfl : k = 0 ∨ k = 1 ∨ k = 2 ∨ k = 3 ∨ k = 4 ∨ k = 5 ∨ k = 6 ∨ k = 7 ∨ k = 8 ∨ k = 9 ∨ k = 10 ∨ k = 11 ∨ k = 12 ∨ k = 13 ∨ k = 14 ∨ k = 15 ∨ k = 16 ∨ k = 17 := by omega
  · exact h.noMagic (by simp at hv; omega)
  · exact h.noNum (by simp at hv; omega)
  · exact h.noSum hu (p := 2) (by omega) (by simp at hv; rw [hv]; exact hU) (by simp at hv; have := hwd 2 (by omega) (by omega) (by omega); omega)
  · exact h.noSum hu (p := 3) (by omega) (by simp at hv; rw [hv]; exact hU) (by simp at hv; have := hwd 3 (by omega) (by omega) (by omega); omega)
  · exact h.noSum hu (p := 5) (by omega) (by simp at hv; rw [hv]; exact hU) (by simp at hv; have := hwd 5 (by omega) (by omega) (by omega); omega)
  · exact h.noSum hu (p := 7) (by omega) (by simp at hv; rw [hv]; exact xor_U hU (wdU hu 7)) (by simp at hv; rw [hv]; exact xor_ne hU (wdU hu 7) (by omega))
  · exact h.noLog (by simp at hv; omega)
  · exact (h.noHeader (v := v) (by simp at hv; omega)).1
  · exact (h.noHeader (v := v) (by simp at hv; omega)).2.1
  · exact (h.noHeader (v := v) (by simp at hv; omega)).2.2
  · exact (h.noPtrs (v := v) (by simp at hv; omega)).1
  · exact (h.noPtrs (v := v) (by simp at hv; omega)).2.1
  · exact (h.noPtrs (v := v) (by simp at hv; omega)).2.2
  · exact h.noSum hu (p := 4) (by omega) (by simp at hv; rw [hv]; exact hU) (by simp at hv; have := hwd 4 (by omega) (by omega) (by omega); omega)
  · exact (h.kdSet (p := 9) v (by omega) hp (by omega)).whole rfl (by simp) (by simp) (by simp)
  · exact (h.kdSet (p := 12) v (by omega) hp (by omega)).whole rfl (by simp) (by simp) (by simp)
  · exact (h.kdSet (p := 116) v (by omega) hp (by omega)).whole rfl (by simp) (by simp) (by simp)
  · exact (h.kdSet (p := 146) v (by omega) hp (.inr (.inr (by simp at hv; rw [hv, h.ww 146 (by omega)]; simp [kw])))).whole rfl (by simp) (by simp) (by simp)
theorem spoiltOpen (h : Kn n ws) (hu : ∀ z ∈ ws, U z) {k : Nat} (hk : k < 18) (hp : kP k < ws.length) {bad v : Int} (hb : 1000000000 ≤ bad) (hb2 : bad < 18446744073709551616) (hv : v = if k = 17 then 0 else if k = 5 then bits .xor .u64 bad (wd ws 7) else bad) :
    (kE k = 0 → OpenOk (ws.set (kP k) v)) ∧ (kE k ≠ 0 → OpenErr (ws.set (kP k) v) (kE k)) := by
  have hc := h.spoilt hu hk hp hb hb2 hv
  have hn : nblk (ws.set (kP k) v).length ≠ 0 := by rw [List.length_set, h.n0]; have := h.h5; omega
  by_cases h6 : k = 6
  · subst h6
    have hv' : v = bad := by simpa using hv
    refine ⟨fun h => (by cases h), fun _ => .inr ⟨hn, .inl ⟨?_, rfl⟩⟩⟩
    have hw : wd (ws.set (kP 6) v) 8 = v := by rw [h.swd hp]; rfl
    rw [asks_many (by rw [hw]; omega) (by rw [hw]; omega)]
  · have h8 : wd (ws.set (kP k) v) 8 = 0 := by
      rw [h.swd hp, if_neg, h.log]
      intro e
      obtain rfl | rfl | rfl | rfl | rfl | rfl | rfl | rfl | rfl | rfl | rfl | rfl | rfl | rfl | rfl | rfl | rfl | rfl : k = 0 ∨ k = 1 ∨ k = 2 ∨ k = 3 ∨ k = 4 ∨ k = 5 ∨ k = 6 ∨ k = 7 ∨ k = 8 ∨ k = 9 ∨ k = 10 ∨ k = 11 ∨ k = 12 ∨ k = 13 ∨ k = 14 ∨ k = 15 ∨ k = 16 ∨ k = 17 := by omega
      all_goals first | exact h6 rfl | cases e
    obtain ⟨o1, o2⟩ := open_check hn h8 hc
    refine ⟨fun e => o1 (.inl e), fun e => o2 e ?_⟩
    obtain rfl | rfl | rfl | rfl | rfl | rfl | rfl | rfl | rfl | rfl | rfl | rfl | rfl | rfl | rfl | rfl | rfl | rfl : k = 0 ∨ k = 1 ∨ k = 2 ∨ k = 3 ∨ k = 4 ∨ k = 5 ∨ k = 6 ∨ k = 7 ∨ k = 8 ∨ k = 9 ∨ k = 10 ∨ k = 11 ∨ k = 12 ∨ k = 13 ∨ k = 14 ∨ k = 15 ∨ k = 16 ∨ k = 17 := by omega
    all_goals decide
end Kn
/-- another root, in a head with its sum -/
theorem Kd.reroot {n : Nat} {ws : List Int} {r a b c : Int} (h : Kd n ws r a b c) (x : Int) : Kd n ((ws.set 4 x).set 7 (sumL ((ws.set 4 x).take 7))) x a b c := by
  have h5 := h.h5
  have hL : 114 ≤ ws.length := by
    have := h.n0
    have := (nblk_some (len := ws.length) (by omega)).1
    omega
  have hw : ∀ q, wd ((ws.set 4 x).set 7 (sumL ((ws.set 4 x).take 7))) q = if q = 7 then sumL ((ws.set 4 x).take 7) else if q = 4 then x else wd ws q := fun q => by
    rw [wd_set (by simp; omega), wd_set (by omega)]
  obtain ⟨e1, e2⟩ := objs_congr (a := ws) (b := (ws.set 4 x).set 7 (sumL ((ws.set 4 x).take 7))) (by simp) (fun c => by rw [hw, if_neg (by omega), if_neg (by omega)])
  refine ⟨by simpa using h.n0, h5, e2.trans h.bad, e1.trans h.ob, ?_, ?_, ?_, ?_, ?_, ?_, ?_, ?_, ?_, ?_, ?_⟩
  · rw [hw, if_neg (by omega), if_neg (by omega)]; exact h.magic
  · rw [hw, if_neg (by omega), if_neg (by omega)]; exact h.n
  · rw [hw, if_pos rfl, List.take_set_of_le (a := sumL ((ws.set 4 x).take 7)) (l := ws.set 4 x) (by omega)]
  · rw [hw, if_neg (by omega), if_neg (by omega)]; exact h.log
  · rw [hw, if_neg (by omega), if_neg (by omega)]; exact h.r0
  · rw [hw, if_neg (by omega), if_pos rfl]
  · rw [hw, if_neg (by omega), if_neg (by omega)]; exact h.r2
  · rw [hw, if_neg (by omega), if_neg (by omega)]; exact h.r3
  · rw [hw, if_neg (by omega), if_neg (by omega)]; exact h.p0
  · rw [hw, if_neg (by omega), if_neg (by omega)]; exact h.p1
  · rw [hw, if_neg (by omega), if_neg (by omega)]; exact h.p2
end Go.Proofs.YtbagcjlimdilpaaGreat
/- A heap in a story, its calls made directly: what stays of the story. -/
namespace Go.Proofs.YtbagcjlimdilpaaGreat
open Go.RowKit Go.Maps

/-- a heap, and the shape of words that a story holds beside it -/
structure Hf (w0 : World) (sb hb tb cb mb g : Nat) (vs vn : Value) (un : List Value) (A : Array Value) (ws now shp : List Int) (sts : List St) (w : World) : Prop where
  blk : w.heap[sb]? = some (.cells A 39 (0, 0))
  ph : PH hb tb cb mb g vs ws now sts w
  tn : ThAt w vn (things shp) un
  gn : ∀ u ∈ un, u.ownBlock ≠ some g
  low : ∀ k, (k = sb ∨ TurnedP tb mb g vs k ∨ ThB vn un k) → w0.heap.size ≤ k
  f : Fr New w0 w
namespace Hf
variable {w0 w w1 : World} {sb hb tb cb mb g : Nat} {vs vn vs' : Value} {un : List Value} {A : Array Value} {ws now shp ws' now' : List Int} {sts sts' : List St}
theorem turned (h : Hf w0 sb hb tb cb mb g vs vn un A ws now shp sts w) (hf : Fr (TurnedP tb mb g vs) w w1) : w1.heap[sb]? = some (.cells A 39 (0, 0)) ∧ ThAt w1 vn (things shp) un ∧ Fr New w0 w1 := by
  have hsb : ¬ TurnedP tb mb g vs sb := by
    rintro (e | e | e | e)
    · exact type_ne h.blk h.ph.tg.t.td (by decide) e
    · exact h.ph.mapNe h.blk e
    · exact type_ne h.blk h.ph.tg.t.wb (by decide) e
    · obtain ⟨_, c, hc⟩ := own_block h.ph.tg.o e
      exact type_ne h.blk hc (by decide) rfl
  have hth : ∀ k, ThB vn un k → ¬ TurnedP tb mb g vs k := fun k hk => by
    rintro (e | e | e | e)
    · subst e; exact h.tn.no h.ph.tg.t.td (by decide) (by decide) hk
    · subst e
      obtain ⟨D, ⟨es, clock, hm, _⟩, _⟩ := h.ph.cg.mp
      exact h.tn.noMap hm hk
    · subst e
      rcases hk with hk | ⟨u, hu, hk⟩
      · obtain ⟨_, c, hc⟩ := own_block h.tn.own hk
        exact type_ne h.ph.tg.t.wb hc (by decide) rfl
      · exact h.gn u hu hk
    · obtain ⟨_, c, hc⟩ := own_block h.ph.tg.o e
      exact h.tn.no hc (by decide) (by decide) hk
  exact ⟨hf.heap h.blk hsb, h.tn.fr hf hth, h.f.trans hf (fun j hj hh => by have := h.low j (.inr (.inl hh)); omega)⟩
theorem onto (h : Hf w0 sb hb tb cb mb g vs vn un A ws now shp sts w) (hf : Fr (TurnedP tb mb g vs) w w1) (hp : PH hb tb cb mb g vs' ws' now' sts' w1) (hm : Moved w vs vs') : Hf w0 sb hb tb cb mb g vs' vn un A ws' now' shp sts' w1 := by
  obtain ⟨h1, h2, h3⟩ := h.turned hf
  refine ⟨h1, hp, h2, h.gn, fun k hk => ?_, h3⟩
  rcases hk with hk | (hk | hk | hk | hk) | hk
  · exact h.low k (.inl hk)
  · exact h.low k (.inr (.inl (.inl hk)))
  · exact h.low k (.inr (.inl (.inr (.inl hk))))
  · exact h.low k (.inr (.inl (.inr (.inr (.inl hk)))))
  · rcases hm with hm | hm
    · exact h.low k (.inr (.inl (.inr (.inr (.inr (by rw [← hm]; exact hk))))))
    · have := hm k hk; have := h.f.size; omega
  · exact h.low k (.inr (.inr hk))
theorem op (h : Hf w0 sb hb tb cb mb g vs vn un A ws now shp sts w) (hf : Fr (fun k => k = mb) w w1) (hp : PH hb tb cb mb g vs ws now' sts w1) : Hf w0 sb hb tb cb mb g vs vn un A ws now' shp sts w1 :=
  h.onto (hf.mono (fun _ _ e => .inr (.inl e))) hp (Moved.refl _ _)
theorem new (h : Hf w0 sb hb tb cb mb g vs vn un A ws now shp sts w) (hf : Fr New w w1) : Hf w0 sb hb tb cb mb g vs vn un A ws now shp sts w1 :=
  h.onto (hf.mono (fun _ _ e => e.elim)) (h.ph.new hf) (Moved.refl _ _)
theorem told (h : Hf w0 sb hb tb cb mb g vs vn un A ws now shp sts w) (hf : Fr (fun k => k = tb) w w1) (hp : PH hb tb cb mb g (.slice none 0 0) ws now [] w1) : Hf w0 sb hb tb cb mb g (.slice none 0 0) vn un A ws now shp [] w1 :=
  h.onto (hf.mono (fun _ _ e => .inl e)) hp (.inr (fun k hk => by cases hk))
theorem cell (h : Hf w0 sb hb tb cb mb g vs vn un A ws now shp sts w) (k : Nat) : w.cell? ⟨sb, k, none⟩ = A[k]? := (block_cells h.blk).1 k
theorem lt (h : Hf w0 sb hb tb cb mb g vs vn un A ws now shp sts w) : sb < w.heap.size := lt_of_block h.blk
/-- a word of the shape beside it is set -/
theorem put {k i gi ci : Nat} {y : Int} {shp' : List Int} (h : Hf w0 sb hb tb cb mb g vs vn un A ws now shp sts w) (hk : k < (things shp).length) (hu : ∃ hv : k < un.length, un[k] = .slice (some ⟨gi, 0, none⟩) ((things shp)[k]).2.length ci)
    (he : things shp' = (things shp).set k (((things shp)[k]).1, ((things shp)[k]).2.set i y)) : Hf w0 sb hb tb cb mb g vs vn un A ws now shp' sts (w.setCell ⟨gi, i, none⟩ (.int .u64 y)) := by
  obtain ⟨hkv, hue⟩ := hu
  have hgm : un[k] ∈ un := List.getElem_mem hkv
  have hgg : gi ≠ g := fun e => h.gn _ hgm (by rw [hue, e]; rfl)
  have hrk := h.tn.rows k hk hkv
  rw [hue] at hrk
  obtain ⟨_, cg, hgb⟩ := own_block hrk (g := gi) rfl
  have hst : Fr (fun j => j = gi) w (w.setCell ⟨gi, i, none⟩ (.int .u64 y)) := (Fr.refl (fun j => j = gi) w).setCell (p := ⟨gi, i, none⟩) (fun _ => rfl) _
  have hp2 : PH hb tb cb mb g vs ws now sts (w.setCell ⟨gi, i, none⟩ (.int .u64 y)) := by
    refine h.ph.fr hst (fun e => type_ne h.ph.hp hgb (by decide) e) (fun e => type_ne h.ph.tg.t.td hgb (by decide) e) (fun e => type_ne h.ph.cg.cg hgb (by decide) e) (fun e => h.ph.mapNe hgb e.symm) (fun e => hgg e.symm) (fun j hj e => ?_)
    obtain ⟨_, c', hc⟩ := own_block h.ph.tg.o hj
    exact type_ne hc hgb (by decide) e
  have ht2 := h.tn.write hk ⟨hkv, hue⟩ (i := i) y
  rw [← he] at ht2
  refine ⟨hst.heap h.blk (fun e => type_ne h.blk hgb (by decide) e), hp2, ht2, h.gn, h.low, h.f.trans hst (fun j hj e => ?_)⟩
  subst e
  have := h.low j (.inr (.inr (.inr ⟨_, hgm, by rw [hue]; rfl⟩)))
  omega
/-- a cell of the story itself is set -/
theorem set {k : Nat} {v : Value} (h : Hf w0 sb hb tb cb mb g vs vn un A ws now shp sts w) : Hf w0 sb hb tb cb mb g vs vn un (A.setIfInBounds k v) ws now shp sts (w.setCell ⟨sb, k, none⟩ v) := by
  have hst : Fr (fun j => j = sb) w (w.setCell ⟨sb, k, none⟩ v) := (Fr.refl (fun j => j = sb) w).setCell (p := ⟨sb, k, none⟩) (fun _ => rfl) _
  exact ⟨heap_setCell_same _ _ k _ _ _ h.blk, h.ph.story h.blk hst, h.tn.story h.blk hst, h.gn, h.low, h.f.trans hst (fun j hj e => by have := h.low sb (.inl rfl); omega)⟩
/-- its shape, told otherwise -/
theorem shape {shp' : List Int} (h : Hf w0 sb hb tb cb mb g vs vn un A ws now shp sts w) (he : things shp' = things shp) : Hf w0 sb hb tb cb mb g vs vn un A ws now shp' sts w :=
  ⟨h.blk, h.ph, by rw [he]; exact h.tn, h.gn, h.low, h.f⟩
theorem commit_ (h : Hf w0 sb hb tb cb mb g vs vn un A ws now shp sts w) (h2 : wd now 2 = wd ws 2) (hl : sts.length ≤ 1099511000000) : Calls Tryz.prog 24 #[.pointer (some ⟨hb, 0, none⟩)] w fun e w' => ∃ c, e = .returned (.int .i64 c) ∧
    ((now = ws ∧ c = 0 ∧ Hf w0 sb hb tb cb mb g vs vn un A ws now shp sts w' ∧ Fr New w w') ∨ (now ≠ ws ∧ 48 < (recsOf ws (nextS now)).length ∧ c = 4 ∧ Hf w0 sb hb tb cb mb g vs vn un A ws now shp sts w' ∧ Fr New w w') ∨
    (now ≠ ws ∧ (recsOf ws (nextS now)).length ≤ 48 ∧ c = 0 ∧ ∃ vs', Hf w0 sb hb tb cb mb g vs' vn un A (pcommitW ws now) (pcommitW ws now) shp (sts ++ pcommitSt ws now) w' ∧ Fr (TurnedP tb mb g vs) w w')) := by
  refine (hcommit_any hb tb cb mb g vs ws now sts w h.ph h2 hl).mono ?_
  rintro e w' ⟨c, rfl, hc⟩
  refine ⟨c, rfl, ?_⟩
  rcases hc with ⟨h1, h2, hp, hf⟩ | ⟨h1, h2, h3, hp, hf⟩ | ⟨h1, h2, h3, vs', hp, hf, hm⟩
  · exact .inl ⟨h1, h2, h.new hf, hf⟩
  · exact .inr (.inl ⟨h1, h2, h3, h.new hf, hf⟩)
  · exact .inr (.inr ⟨h1, h2, h3, vs', h.onto hf hp hm, hf⟩)
theorem image_ (h : Hf w0 sb hb tb cb mb g vs vn un A ws now shp sts w) : Calls Tryz.prog 21 #[.pointer (some ⟨hb, 0, none⟩)] w fun e w' => e = .returned (.slice (some ⟨w.heap.size, 0, none⟩) ws.length ws.length) ∧ Row w' w.heap.size ws ∧ Hf w0 sb hb tb cb mb g vs vn un A ws now shp sts w' ∧ Fr New w w' := by
  refine (himage_any hb tb cb mb g vs ws now sts w h.ph).mono ?_
  rintro e w' ⟨rfl, hR, hf⟩
  exact ⟨rfl, hR, h.new hf, hf⟩
theorem stores_ (h : Hf w0 sb hb tb cb mb g vs vn un A ws now shp sts w) : Calls Tryz.prog 25 #[.pointer (some ⟨hb, 0, none⟩)] w fun e w' => ∃ sa sc, e = .returned (.slice sa sts.length sc) ∧ Hf w0 sb hb tb cb mb g (.slice none 0 0) vn un A ws now shp [] w' ∧ Fr (fun k => k = tb) w w' := by
  refine (hstores_any hb tb cb mb g vs ws now sts w h.ph).mono ?_
  rintro e w' ⟨rfl, hp, hf, ho, _⟩
  obtain ⟨sa, sc, e⟩ := own_slice ho
  exact ⟨sa, sc, by rw [e], h.told hf hp, hf⟩
theorem write_ (h : Hf w0 sb hb tb cb mb g vs vn un A ws now shp sts w) (n i v : Int) (h0 : -9223372036854775808 ≤ n) (h1 : n ≤ 9223372036854775807) (hv : U v) : Calls Tryz.prog 26 #[.pointer (some ⟨hb, 0, none⟩), .int .i64 n, .int .i64 i, .int .u64 v] w fun e w' => e = .returned (.int .i64 (writeS now n i v).2) ∧ Hf w0 sb hb tb cb mb g vs vn un A ws (writeS now n i v).1 shp sts w' ∧ Fr (fun k => k = mb) w w' := by
  refine (hwrite_any hb tb cb mb g vs ws now sts n i v w h0 h1 hv h.ph).mono ?_
  rintro e w' ⟨rfl, hp, hf⟩
  exact ⟨rfl, h.op hf hp, hf⟩
theorem is_ (h : Hf w0 sb hb tb cb mb g vs vn un A ws now shp sts w) (r0 r1 r2 r3 : Int) : Calls Tryz.prog 19 #[.pointer (some ⟨hb, 0, none⟩), .agg #[vn, .int .i64 r0, .int .i64 r1, .int .i64 r2, .int .i64 r3]] w fun e w' => ∃ b, e = .returned (.bool b) ∧ (b = true ↔ IsIt now (things shp) r0 r1 r2 r3) ∧ Fr New w w' :=
  kis_any hb tb cb mb g vs ws now sts vn (things shp) un r0 r1 r2 r3 w h.ph h.tn
theorem at_ (h : Hf w0 sb hb tb cb mb g vs vn un A ws now shp sts w) (r0 r1 r2 r3 x : Int) : Calls Tryz.prog 27 #[.agg #[vn, .int .i64 r0, .int .i64 r1, .int .i64 r2, .int .i64 r3], .int .u64 x] w fun e w' => e = .returned (.int .i64 (findI (objs shp) x)) ∧ Fr New w w' := by
  have := kat_any vn (things shp) un r0 r1 r2 r3 x w h.tn
  rwa [show (things shp).map Prod.fst = objs shp by simp [things, Function.comp_def]] at this
end Hf
/-- out of a story -/
theorem Story.half {F : Nat → Prop} {sb n : Nat} {ws now : List Int} {sts : List St} {w0 w : World} (h : Story F sb n ws now sts w) (hF : ∀ k, F k → w0.heap.size ≤ k) (hf : Fr New w0 w) : ∃ hb tb cb mb g vs vn vk un, Hf w0 sb hb tb cb mb g vs vn un (stArr hb n vn vk now ws) ws now now sts w := by
  obtain ⟨hb, tb, cb, mb, g, vs, vn, vk, un, uk, S, hFt⟩ := h
  refine ⟨hb, tb, cb, mb, g, vs, vn, vk, un, S.blk, S.ph, S.tn, S.gn, fun k hk => hF k (hFt k ?_), hf⟩
  rcases hk with hk | (hk | hk | hk | hk) | hk
  · exact .inl hk
  · exact .inr (.inr (.inl hk))
  · exact .inr (.inr (.inr (.inr (.inl hk))))
  · exact .inr (.inr (.inr (.inr (.inr (.inl hk)))))
  · exact .inr (.inr (.inr (.inr (.inr (.inr (.inl hk))))))
  · exact .inr (.inr (.inr (.inr (.inr (.inr (.inr (.inl hk)))))))
end Go.Proofs.YtbagcjlimdilpaaGreat
