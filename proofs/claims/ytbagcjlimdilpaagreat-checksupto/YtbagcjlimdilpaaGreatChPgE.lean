/- Walks of the program's search for an object: Compare, BinarySearchFunc, Held, Dangling. -/
import Derived.Test.YtbagcjlimdilpaaGreatChJ3
import Derived.Test.YtbagcjlimdilpaaGreatChJ1
namespace Go.Proofs.YtbagcjlimdilpaaGreat
open Go.RowKit

/-- a list of objects, as the program keeps it -/
def LiesT (w : World) (v : Value) (l : List Ob) : Prop := ∃ a cap, v = .slice a l.length cap ∧ l.length ≤ 1048576 ∧ (∀ o ∈ l, o.block ≤ 1048576 ∧ o.span ≤ 4 ∧ o.ptrs < 32) ∧
  (0 < l.length → ∃ g, a = some ⟨g, 0, none⟩ ∧ g < w.heap.size ∧ ∀ i (hi : i < l.length), w.cell? ⟨g, i * 4, none⟩ = some (.int .i64 1) ∧ w.cell? ⟨g, i * 4 + 1, none⟩ = some (.int .i64 (((l[i]).block + 1 : Nat) : Int)) ∧ w.cell? ⟨g, i * 4 + 2, none⟩ = some (.int .i64 (l[i]).span) ∧ w.cell? ⟨g, i * 4 + 3, none⟩ = some (.int .i64 (l[i]).ptrs))
theorem LiesT.fr {T : Nat → Prop} {w w' : World} {v : Value} {l : List Ob} (h : LiesT w v l) (hf : Fr T w w') (hn : ∀ g, v.ownBlock = some g → ¬ T g) : LiesT w' v l := by
  obtain ⟨a, c, rfl, hl, hb, hc⟩ := h
  refine ⟨a, c, rfl, hl, hb, fun hp => ?_⟩
  obtain ⟨g, rfl, hg, hcc⟩ := hc hp
  refine ⟨g, rfl, Nat.lt_of_lt_of_le hg hf.size, fun i hi => ?_⟩
  obtain ⟨h1, h2, h3, h4⟩ := hcc i hi
  exact ⟨hf.cell h1 (hn g rfl), hf.cell h2 (hn g rfl), hf.cell h3 (hn g rfl), hf.cell h4 (hn g rfl)⟩

/-- in the order of their handles -/
def Asc (l : List Ob) : Prop := ∀ i j (hi : i < l.length) (hj : j < l.length), i < j → (l[i]).block < (l[j]).block
theorem walkF_ge {ws : List Int} {n f b : Nat} : ∀ o ∈ (walkF ws n f b).1, b ≤ o.block := by
  induction f generalizing b with
  | zero => intro o ho; simp [walkF] at ho
  | succ f ih =>
    intro o ho
    rw [walkF] at ho
    split at ho
    · split at ho
      · rename_i o' hs
        obtain ⟨e1, e2, _⟩ := slot_obs hs
        rcases List.mem_cons.1 ho with rfl | ho
        · omega
        · have := ih o ho; omega
      · have := ih o ho; omega
      · have := ih o ho; omega
    · simp at ho
theorem asc_cons {o : Ob} {l : List Ob} (h : ∀ x ∈ l, o.block < x.block) (hl : Asc l) : Asc (o :: l) := by
  intro i j hi hj hij
  cases j with
  | zero => omega
  | succ j =>
    cases i with
    | zero => simpa using h _ (List.getElem_mem (by simpa using hj))
    | succ i => simpa using hl i j (by simpa using hi) (by simpa using hj) (by omega)
theorem walkF_asc {ws : List Int} {n f b : Nat} : Asc (walkF ws n f b).1 := by
  induction f generalizing b with
  | zero => intro i j hi; simp [walkF] at hi
  | succ f ih =>
    rw [walkF]
    split
    · split
      · rename_i o hs
        obtain ⟨e1, e2, _⟩ := slot_obs hs
        refine asc_cons (fun x hx => ?_) ih
        have := walkF_ge x hx
        omega
      · exact ih
      · exact ih
    · intro i j hi; simp at hi
theorem objs_asc (ws : List Int) : Asc (objs ws) := walkF_asc

/-- what Compare says -/
def cmpI (x y : Int) : Int := if x < y then -1 else if y < x then 1 else 0
theorem nan_any (x : Int) (w : World) : Calls Tryz.prog 146 #[.int .u64 x] w fun e w' => e = .returned (.bool false) ∧ w' = w := by
  go_enter Tryz.func146, Tryz.ntmps146
  go_wp2
  go_ret
  exact ⟨by simp, rfl⟩
theorem compare_any (x y : Int) (w : World) : Calls Tryz.prog 107 #[.int .u64 x, .int .u64 y] w fun e w' => e = .returned (.int .i64 (cmpI x y)) ∧ w' = w := by
  by_cases h1 : x < y
  · have e : cmpI x y = -1 := by unfold cmpI; rw [if_pos h1]
    rw [e]
    clear e
    go_enter Tryz.func107, Tryz.ntmps107
    go_wp2_with (go_at_call 146; refine calls_same (nan_any _ _) ?_)
    go_ret
    exact ⟨rfl, rfl⟩
  · by_cases h2 : y < x
    · have e : cmpI x y = 1 := by unfold cmpI; rw [if_neg h1, if_pos h2]
      rw [e]
      clear e
      go_enter Tryz.func107, Tryz.ntmps107
      go_wp2_with (go_at_call 146; refine calls_same (nan_any _ _) ?_)
      go_ret
      exact ⟨rfl, rfl⟩
    · have e : cmpI x y = 0 := by unfold cmpI; rw [if_neg h1, if_neg h2]
      rw [e]
      clear e
      go_enter Tryz.func107, Tryz.ntmps107
      go_wp2_with (go_at_call 146; refine calls_same (nan_any _ _) ?_)
      go_ret
      exact ⟨rfl, rfl⟩
theorem held1_any (k s p : Int) (B : Nat) (h : Int) (w : World) (hB : B ≤ 1048577) :
    Calls Tryz.prog 106 #[.agg #[.int .i64 k, .int .i64 B, .int .i64 s, .int .i64 p], .int .u64 h] w fun e w' => e = .returned (.int .i64 (cmpI B h)) ∧ Fr New w w' := by
  have hw1 : IntKind.u64.wrap (B : Int) = B := by rw [IntKind.wrap_u64]; omega
  go_enter Tryz.func106, Tryz.ntmps106
  go_wp2_with (go_at_call 107; refine calls_same (compare_any _ _ _) ?_)
  go_ret
  exact ⟨rfl, (Fr.refl _ _).alloc _⟩
theorem cmpI_neg {x y : Int} : cmpI x y < 0 ↔ x < y := by
  unfold cmpI; split
  · simp; assumption
  · split <;> (simp; omega)
theorem cmpI_zero {x y : Int} : cmpI x y = 0 ↔ x = y := by
  unfold cmpI; split
  · simp; omega
  · split
    · simp; omega
    · simp; omega

/-- the handle of the i-th -/
def hnd (l : List Ob) (i : Nat) : Nat := (l.getD i ⟨0, 0, 0⟩).block + 1
theorem hnd_eq {l : List Ob} {i : Nat} (hi : i < l.length) : hnd l i = (l[i]).block + 1 := by unfold hnd; simp [List.getD, hi]
theorem idx_at {l : List Ob} {h : Int} {k : Nat} (ha : Asc l) (hk : k < l.length) (he : (hnd l k : Int) = h) : idx l h = some k := by
  rw [hnd_eq hk] at he
  refine idx_first hk he (fun i hi => ?_)
  have := ha i k (by omega) hk hi
  omega
theorem idx_not {l : List Ob} {h : Int} (hn : ∀ i, i < l.length → (hnd l i : Int) ≠ h) : idx l h = none := by
  refine idx_no (fun i hi => ?_)
  have := hn i hi
  rwa [hnd_eq hi] at this

/-- what the search tells -/
def SearchIs (l : List Ob) (h : Int) (v : Value) : Prop := (∃ k : Nat, idx l h = some k ∧ v = .tuple #[.int .i64 k, .bool true]) ∨ (idx l h = none ∧ ∃ k : Nat, v = .tuple #[.int .i64 k, .bool false])

set_option maxHeartbeats 2000000 in
set_option maxRecDepth 100000 in
theorem bsearch_any (v : Value) (l : List Ob) (h : Int) (w : World) (hv : LiesT w v l) (ha : Asc l) :
    Calls Tryz.prog 105 #[v, .int .u64 h, .func (.func 106) #[] #[]] w fun e w' => ∃ r, e = .returned r ∧ SearchIs l h r ∧ Fr New w w' := by
  obtain ⟨a, cap, rfl, hl, hb, hc⟩ := hv
  have HA : Hid (Asc l) := ha
  have HC : Hid (0 < l.length → ∃ g, a = some ⟨g, 0, none⟩ ∧ ∀ wr, Fr New w wr → ∀ i (hi : i < l.length), ∃ s p : Int, wr.cell? ⟨g, i * 4, none⟩ = some (.int .i64 1) ∧ wr.cell? ⟨g, i * 4 + 1, none⟩ = some (.int .i64 (hnd l i)) ∧ wr.cell? ⟨g, i * 4 + 2, none⟩ = some (.int .i64 s) ∧ wr.cell? ⟨g, i * 4 + 3, none⟩ = some (.int .i64 p)) := by
    intro hp
    obtain ⟨g, e, _, hcc⟩ := hc hp
    refine ⟨g, e, fun wr hf i hi => ⟨_, _, hf.cell (hcc i hi).1 id, ?_, hf.cell (hcc i hi).2.2.1 id, hf.cell (hcc i hi).2.2.2 id⟩⟩
    rw [hnd_eq hi]
    exact hf.cell (hcc i hi).2.1 id
  have HH : Hid (∀ i, i < l.length → hnd l i ≤ 1048577) := fun i hi => by
    rw [hnd_eq hi]
    have := (hb l[i] (List.getElem_mem _)).1
    omega
  have HM : Hid (∀ i j, i < j → j < l.length → hnd l i < hnd l j) := fun i j hij hj => by
    rw [hnd_eq (show i < l.length by omega), hnd_eq hj]
    have := ha i j (by omega) hj hij
    omega
  clear hc hb ha
  go_enter Tryz.func105, Tryz.ntmps105
  go_wp2
  go_loopg [9, 10] l.length (fun gh s9 s10 wr => ∃ lo hi : Nat, s9 = .int .i64 lo ∧ s10 = .int .i64 hi ∧ lo ≤ hi ∧ hi ≤ l.length ∧ gh = hi - lo ∧ Fr New w wr ∧ Hid ((∀ i, i < lo → (hnd l i : Int) < h) ∧ (∀ i, hi ≤ i → i < l.length → h ≤ (hnd l i : Int))))
  case atStart => exact ⟨0, l.length, rfl, rfl, Nat.zero_le _, Nat.le_refl _, by omega, Fr.refl _ _, (⟨fun i hi => by omega, fun i h1 h2 => by omega⟩ : (∀ i, i < 0 → (hnd l i : Int) < h) ∧ (∀ i, l.length ≤ i → i < l.length → h ≤ (hnd l i : Int)))⟩
  case round =>
    obtain ⟨lo, hi, rfl, rfl, hlh, hin, rfl, hf, HI⟩ := hrel
    by_cases hlt : lo < hi
    · obtain ⟨g, rfl, hcells⟩ := HC.out (by omega)
      obtain ⟨m, hm⟩ : ∃ m : Nat, m = (lo + hi) / 2 := ⟨_, rfl⟩
      have hm1 : m < l.length := by omega
      have hmI : ((lo : Int) + hi) / 2 = m := by omega
      have hlm : lo ≤ m := by omega
      have hmh : m < hi := by omega
      have HMM : Hid (m = (lo + hi) / 2) := hm
      clear hm
      obtain ⟨s, p, c0, c1, c2, c3⟩ := hcells wr hf m hm1
      have hB := HH.out m hm1
      obtain ⟨B, hBB⟩ : ∃ B, B = hnd l m := ⟨_, rfl⟩
      rw [← hBB] at c1 hB
      have HBB : Hid (B = hnd l m) := hBB
      clear hBB hcells
      have HK : Hid (Calls Tryz.prog 106 #[.agg #[.int .i64 1, .int .i64 B, .int .i64 s, .int .i64 p], .int .u64 h] wr fun e w' => e = .returned (.int .i64 (cmpI B h)) ∧ Fr New wr w') := held1_any 1 s p B h wr hB
      by_cases hBh : (B : Int) < h
      · have hcn := cmpI_neg.2 hBh
        obtain ⟨q, hq⟩ : ∃ q, q = cmpI B h := ⟨_, rfl⟩
        rw [← hq] at HK hcn
        clear hq
        go_wp2_with (go_at_call 106; refine HK.out.mono ?_; rintro e w' ⟨rfl, hf'⟩)
        go_roundg (hi - (m + 1))
        case measure => omega
        case rel =>
          exact ⟨m + 1, hi, by go_num, rfl, by omega, hin, rfl, hf.same hf', (⟨fun i hi' => by
            rcases Nat.lt_or_ge i m with h' | h'
            · have := HM.out i m h' hm1; rw [← HBB.out] at this; omega
            · obtain rfl : i = m := by omega
              rw [← HBB.out]; exact hBh, HI.out.2⟩ : (∀ i, i < m + 1 → (hnd l i : Int) < h) ∧ (∀ i, hi ≤ i → i < l.length → h ≤ (hnd l i : Int)))⟩
      · have hcn : ¬ cmpI B h < 0 := fun hh => hBh (cmpI_neg.1 hh)
        obtain ⟨q, hq⟩ : ∃ q, q = cmpI B h := ⟨_, rfl⟩
        rw [← hq] at HK hcn
        clear hq
        go_wp2_with (go_at_call 106; refine HK.out.mono ?_; rintro e w' ⟨rfl, hf'⟩)
        go_roundg (m - lo)
        case measure => omega
        case rel =>
          exact ⟨lo, m, rfl, rfl, by omega, by omega, rfl, hf.same hf', (⟨HI.out.1, fun i h1 h2 => by
            rcases Nat.lt_or_ge m i with h' | h'
            · have := HM.out m i h' h2; rw [← HBB.out] at this; omega
            · obtain rfl : i = m := by omega
              rw [← HBB.out]; omega⟩ : (∀ i, i < lo → (hnd l i : Int) < h) ∧ (∀ i, m ≤ i → i < l.length → h ≤ (hnd l i : Int)))⟩
    · obtain rfl : lo = hi := by omega
      by_cases hlast : lo < l.length
      · have hd : decide ((lo : Int) < (l.length : Int)) = true := by simp; omega
        obtain ⟨g, rfl, hcells⟩ := HC.out (by omega)
        obtain ⟨s, p, c0, c1, c2, c3⟩ := hcells wr hf lo hlast
        have hB := HH.out lo hlast
        obtain ⟨B, hBB⟩ : ∃ B, B = hnd l lo := ⟨_, rfl⟩
        rw [← hBB] at c1 hB
        have HBB : Hid (B = hnd l lo) := hBB
        clear hBB hcells
        have HK : Hid (Calls Tryz.prog 106 #[.agg #[.int .i64 1, .int .i64 B, .int .i64 s, .int .i64 p], .int .u64 h] wr fun e w' => e = .returned (.int .i64 (cmpI B h)) ∧ Fr New wr w') := held1_any 1 s p B h wr hB
        by_cases hBh : (B : Int) = h
        · have HT : Hid (SearchIs l h (.tuple #[.int .i64 lo, .bool true])) := .inl ⟨lo, idx_at HA.out hlast (by rw [← HBB.out]; exact hBh), rfl⟩
          have hcn := cmpI_zero.2 hBh
          rw [hcn] at HK
          clear hcn hBh
          go_wp2_with (go_at_call 106; refine HK.out.mono ?_; rintro e w' ⟨rfl, hf'⟩)
          go_ret2
          exact ⟨_, rfl, HT.out, hf.same hf'⟩
        · have HT : Hid (SearchIs l h (.tuple #[.int .i64 lo, .bool false])) := .inr ⟨idx_not (fun i hi he => by
            rcases Nat.lt_or_ge i lo with h' | h'
            · have := HI.out.1 i h'; omega
            · rcases Nat.lt_or_ge lo i with h'' | h''
              · have h1 := HM.out lo i h'' hi
                have h2 := HI.out.2 lo (Nat.le_refl _) hlast
                omega
              · obtain rfl : i = lo := by omega
                rw [← HBB.out] at he; exact hBh he), lo, rfl⟩
          have hcn : (cmpI B h == 0) = false := by simpa using fun hh => hBh (cmpI_zero.1 hh)
          obtain ⟨q, hq⟩ : ∃ q, q = cmpI B h := ⟨_, rfl⟩
          rw [← hq] at HK hcn
          clear hq hBh
          go_wp2_with (go_at_call 106; refine HK.out.mono ?_; rintro e w' ⟨rfl, hf'⟩)
          go_ret2
          exact ⟨_, rfl, HT.out, hf.same hf'⟩
      · have hd : decide ((lo : Int) < (l.length : Int)) = false := by simp; omega
        have HT : Hid (SearchIs l h (.tuple #[.int .i64 lo, .bool false])) := .inr ⟨idx_not (fun i hi he => by
            have := HI.out.1 i (by omega); omega), lo, rfl⟩
        go_wp2
        go_ret2
        exact ⟨_, rfl, HT.out, hf⟩

/-- what Held tells -/
def HeldIs (l : List Ob) (h : Int) (v : Value) : Prop := (∃ k, ∃ hk : k < l.length, idx l h = some k ∧ v = .tuple #[.agg #[.int .i64 1, .int .i64 (((l[k]).block + 1 : Nat) : Int), .int .i64 (l[k]).span, .int .i64 (l[k]).ptrs], .bool true]) ∨
  (idx l h = none ∧ v = .tuple #[.agg #[.int .i64 0, .int .i64 0, .int .i64 0, .int .i64 0], .bool false])
set_option maxRecDepth 100000 in
theorem held_any (v : Value) (l : List Ob) (h : Int) (w : World) (hv : LiesT w v l) (ha : Asc l) :
    Calls Tryz.prog 56 #[v, .int .u64 h] w fun e w' => ∃ r, e = .returned r ∧ HeldIs l h r ∧ Fr New w w' := by
  have HS : Hid (∀ o, Calls Tryz.prog 105 #[v, .int .u64 h, .func (.func 106) #[] #[]] (w.alloc o) fun e w' => ∃ r, e = .returned r ∧ SearchIs l h r ∧ Fr New (w.alloc o) w') := fun o => bsearch_any v l h _ (hv.fr ((Fr.refl New w).alloc o) (fun _ _ h => h)) ha
  have HV : Hid (∀ wr, Fr New w wr → LiesT wr v l) := fun wr hf => hv.fr hf (fun _ _ h => h)
  obtain ⟨a, cap, rfl, hl, hb, hc⟩ := hv
  clear hc hb ha
  have hmf : ∀ (fn : Fn) (first cap : Array Value) (w : World), (Instr.makeFunc fn first cap).run Tryz.prog w = .ok (.func fn first cap) w := fun _ _ _ _ => rfl
  rcases hx : idx l h with _ | k
  · go_enter Tryz.func56, Tryz.ntmps56
    go_wp2_with (go_at_call 105; refine (HS.out _).mono ?_; rintro e w1 ⟨r, rfl, hs, hf1⟩; obtain ⟨hcr, hzr⟩ := block_cells (hf1.heap (k := w.heap.size) (Go.Deep.blk_alloc_new w _) id); obtain ⟨k, rfl⟩ : ∃ k : Nat, r = .tuple #[.int .i64 k, .bool false] := (by rcases hs with ⟨k, hk, _⟩ | ⟨_, hk⟩; (rw [hx] at hk; cases hk); exact hk))
    refine bodyPost_ret (v := .tuple #[.agg #[.int .i64 0, .int .i64 0, .int .i64 0, .int .i64 0], .bool false]) (by simp [results, Tryz.results56, go_sem, hcr]) rfl ⟨_, rfl, .inr ⟨hx, rfl⟩, ?_⟩
    have hf : Fr New w w1 := ((Fr.refl _ _).alloc _).same hf1
    iterate 4 refine Fr.setCell ?_ (fun h => absurd h (by simp)) _
    exact hf
  · have hk := idx_lt hx
    go_enter Tryz.func56, Tryz.ntmps56
    go_wp2_with (go_at_call 105; refine (HS.out _).mono ?_; rintro e w1 ⟨r, rfl, hs, hf1⟩; obtain ⟨hcr, hzr⟩ := block_cells (hf1.heap (k := w.heap.size) (Go.Deep.blk_alloc_new w _) id); obtain rfl : r = .tuple #[.int .i64 k, .bool true] := (by rcases hs with ⟨k', hk', e⟩ | ⟨hk', _⟩; (rw [hx] at hk'; cases hk'; exact e); (rw [hx] at hk'; cases hk')); obtain ⟨a', cap', e', _, _, hcl⟩ := HV.out w1 (((Fr.refl _ _).alloc _).same hf1); cases e'; obtain ⟨g, rfl, hg, hcc⟩ := hcl (by omega); obtain ⟨c0, c1, c2, c3⟩ := hcc k hk; have hd : decide ((k : Int) < (l.length : Int)) = true := (by simp; omega))
    refine bodyPost_ret (v := .tuple #[.agg #[.int .i64 1, .int .i64 (((l[k]).block + 1 : Nat) : Int), .int .i64 (l[k]).span, .int .i64 (l[k]).ptrs], .bool true]) (by simp [results, Tryz.results56, go_sem, hcr]) rfl ⟨_, rfl, .inl ⟨k, hk, hx, rfl⟩, ?_⟩
    have hf : Fr New w w1 := ((Fr.refl _ _).alloc _).same hf1
    iterate 4 refine Fr.setCell ?_ (fun h => absurd h (by simp)) _
    exact hf
end Go.Proofs.YtbagcjlimdilpaaGreat
