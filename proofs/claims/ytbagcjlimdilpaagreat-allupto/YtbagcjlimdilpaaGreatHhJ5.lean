/- Texts that follow one another, joined. -/
import Derived.Test.YtbagcjlimdilpaaGreatHhJ3
import Derived.Test.YtbagcjlimdilpaaGreatHhJ4
import Derived.Test.YtbagcjlimdilpaaGreatHhJ0
/- A search by a list of words that wait, as mathematics: what is marked at its end is what is reached. -/
namespace Go.Proofs.YtbagcjlimdilpaaGreat

/-- the i-th object is marked -/
def mkd (l : List Ob) (M : List Bool) (i : Nat) : Prop := M.getD (hnd l i) false = true
theorem hnd_inj {l : List Ob} (ha : Asc l) {i k : Nat} (hi : i < l.length) (hk : k < l.length) (h : hnd l i = hnd l k) : i = k := by
  rw [hnd_eq hi, hnd_eq hk] at h
  rcases Nat.lt_or_ge i k with h1 | h1
  · have := ha i k hi hk h1; omega
  · rcases Nat.lt_or_ge k i with h2 | h2
    · have := ha k i hk hi h2; omega
    · omega
theorem mk_set {l : List Ob} {M : List Bool} {h i : Nat} (hh : h < M.length) : mkd l (M.set h true) i ↔ hnd l i = h ∨ mkd l M i := by
  unfold mkd
  rw [List.getD_eq_getElem?_getD, List.getD_eq_getElem?_getD]
  by_cases he : hnd l i = h
  · rw [he]; simp [hh]
  · rw [List.getElem?_set_ne (by omega)]; simp [he]
/-- the marks of the objects alone -/
def marksOf (l : List Ob) (M : List Bool) : List Bool := (List.range l.length).map (fun i => M.getD (hnd l i) false)
theorem marksOf_len (l : List Ob) (M : List Bool) : (marksOf l M).length = l.length := by simp [marksOf]
theorem marksOf_get {l : List Ob} {M : List Bool} {i : Nat} (hi : i < l.length) : (marksOf l M)[i]? = some (M.getD (hnd l i) false) := by simp [marksOf, hi]
theorem marksOf_set {l : List Ob} (ha : Asc l) {M : List Bool} {k : Nat} (hk : k < l.length) (hh : hnd l k < M.length) : marksOf l (M.set (hnd l k) true) = (marksOf l M).set k true := by
  apply List.ext_getElem?
  intro i
  by_cases hi : i < l.length
  · rw [marksOf_get hi]
    by_cases he : i = k
    · subst he
      rw [List.getElem?_set_self (by rw [marksOf_len]; exact hi)]
      simp [hh]
    · rw [List.getElem?_set_ne (by omega), marksOf_get hi, List.getD_eq_getElem?_getD, List.getElem?_set_ne (fun hx => he (hnd_inj ha hk hi hx).symm), ← List.getD_eq_getElem?_getD]
  · rw [List.getElem?_eq_none (by rw [marksOf_len]; omega), List.getElem?_eq_none (by simp [marksOf_len]; omega)]
/-- so many objects are not marked -/
def unm (l : List Ob) (M : List Bool) : Nat := unmarked (marksOf l M)
theorem unm_set {l : List Ob} (ha : Asc l) {M : List Bool} {k : Nat} (hk : k < l.length) (hh : hnd l k < M.length) (hn : ¬ mkd l M k) : unm l (M.set (hnd l k) true) + 1 = unm l M := by
  unfold unm
  rw [marksOf_set ha hk hh]
  refine unmarked_set (by rw [marksOf_len]; exact hk) ?_
  have := marksOf_get (M := M) hk
  rw [List.getElem?_eq_getElem (by rw [marksOf_len]; exact hk), Option.some.injEq] at this
  rw [this]
  unfold mkd at hn
  simpa using hn
theorem unm_start (l : List Ob) (n : Nat) : unm l (List.replicate n false) ≤ l.length := by
  unfold unm unmarked
  have := List.countP_le_length (p := fun b => !b) (l := marksOf l (List.replicate n false))
  rw [marksOf_len] at this
  exact this

/-- what the search keeps: R roots have been seen; of object c q pointers alone -/
structure Dfs (ws : List Int) (l : List Ob) (W : List Int) (M : List Bool) (R c q : Nat) : Prop where
  sound : ∀ i, i < l.length → mkd l M i → Reach ws l i
  wsound : ∀ x ∈ W, ∀ k, idx l x = some k → Reach ws l k
  roots : ∀ r, r < R → ∀ k, idx l (wd ws (3 + r)) = some k → mkd l M k ∨ wd ws (3 + r) ∈ W
  ptrs : ∀ i (hi : i < l.length) p k, mkd l M i → p < (l[i]).ptrs → (i = c → p < q) → idx l (wd ws (pl l[i] p)) = some k → mkd l M k ∨ wd ws (pl l[i] p) ∈ W
  room : W.length + 40 * unm l M + (if c < l.length then 32 - q else 0) ≤ R + 40 * l.length
theorem dfs_start (ws : List Int) (l : List Ob) (n : Nat) : Dfs ws l [] (List.replicate n false) 0 l.length 0 := by
  have hno : ∀ i, ¬ mkd l (List.replicate n false) i := fun i h => by
    unfold mkd at h
    rw [List.getD_eq_getElem?_getD, List.getElem?_replicate] at h
    split at h <;> simp at h
  refine ⟨fun i _ h => absurd h (hno i), fun x hx => by simp at hx, fun r hr => by omega, fun i hi p k h => absurd h (hno i), ?_⟩
  have := unm_start l n
  rw [if_neg (by omega)]
  simp
  omega
theorem Dfs.root {ws : List Int} {l : List Ob} {W : List Int} {M : List Bool} {R q : Nat} (h : Dfs ws l W M R l.length q) (hR : R < 4) : Dfs ws l (W ++ [wd ws (3 + R)]) M (R + 1) l.length q := by
  refine ⟨h.sound, fun x hx k hk => ?_, fun r hr k hk => ?_, fun i hi p k h1 h2 h3 h4 => ?_, ?_⟩
  · rcases List.mem_append.1 hx with hx | hx
    · exact h.wsound x hx k hk
    · obtain rfl : x = wd ws (3 + R) := by simpa using hx
      exact reach_root hR hk
  · rcases Nat.lt_or_ge r R with h' | h'
    · rcases h.roots r h' k hk with h1 | h1
      · exact .inl h1
      · exact .inr (List.mem_append_left _ h1)
    · obtain rfl : r = R := by omega
      exact .inr (by simp)
  · rcases h.ptrs i hi p k h1 h2 h3 h4 with h1 | h1
    · exact .inl h1
    · exact .inr (List.mem_append_left _ h1)
  · have := h.room
    rw [if_neg (by omega)] at this ⊢
    simp
    omega
theorem Dfs.drop {ws : List Int} {l : List Ob} {W : List Int} {x : Int} {M : List Bool} {q : Nat} (h : Dfs ws l (W ++ [x]) M 4 l.length q) (hx : ∀ k, idx l x = some k → mkd l M k) : Dfs ws l W M 4 l.length q := by
  have key : ∀ y k, idx l y = some k → (mkd l M k ∨ y ∈ W ++ [x]) → mkd l M k ∨ y ∈ W := fun y k hy hm => by
    rcases hm with hm | hm
    · exact .inl hm
    · rcases List.mem_append.1 hm with hm | hm
      · exact .inr hm
      · obtain rfl : y = x := by simpa using hm
        exact .inl (hx k hy)
  refine ⟨h.sound, fun y hy => h.wsound y (List.mem_append_left _ hy), fun r hr k hk => key _ k hk (h.roots r hr k hk), fun i hi p k h1 h2 h3 h4 => key _ k h4 (h.ptrs i hi p k h1 h2 h3 h4), ?_⟩
  have := h.room
  simp at this ⊢
  omega
theorem Dfs.mark {ws : List Int} {l : List Ob} (ha : Asc l) {W : List Int} {x : Int} {M : List Bool} {q : Nat} (h : Dfs ws l (W ++ [x]) M 4 l.length q) {k : Nat} (hk : k < l.length) (hx : idx l x = some k) (hh : hnd l k < M.length) (hn : ¬ mkd l M k) :
    Dfs ws l W (M.set (hnd l k) true) 4 k 0 := by
  have hm : ∀ i, mkd l M i → mkd l (M.set (hnd l k) true) i := fun i hi => (mk_set hh).2 (.inr hi)
  have hmk : mkd l (M.set (hnd l k) true) k := (mk_set hh).2 (.inl rfl)
  have key : ∀ y j, idx l y = some j → (mkd l M j ∨ y ∈ W ++ [x]) → mkd l (M.set (hnd l k) true) j ∨ y ∈ W := fun y j hy hm' => by
    rcases hm' with hm' | hm'
    · exact .inl (hm j hm')
    · rcases List.mem_append.1 hm' with hm' | hm'
      · exact .inr hm'
      · obtain rfl : y = x := by simpa using hm'
        rw [hx] at hy
        cases hy
        exact .inl hmk
  refine ⟨fun i hi hmi => ?_, fun y hy => h.wsound y (List.mem_append_left _ hy), fun r hr j hj => key _ j hj (h.roots r hr j hj), fun i hi p j h1 h2 h3 h4 => ?_, ?_⟩
  · rcases (mk_set hh).1 hmi with he | he
    · obtain rfl := hnd_inj ha hi hk he
      exact h.wsound x (by simp) i hx
    · exact h.sound i hi he
  · rcases (mk_set hh).1 h1 with he | he
    · obtain rfl := hnd_inj ha hi hk he
      have := h3 rfl
      omega
    · exact key _ j h4 (h.ptrs i hi p j he h2 (fun he => by omega) h4)
  · have := h.room
    have hu := unm_set ha hk hh hn
    rw [if_neg (by omega)] at this
    rw [if_pos hk]
    simp at this ⊢
    omega
theorem Dfs.push {ws : List Int} {l : List Ob} {W : List Int} {M : List Bool} {k q : Nat} (h : Dfs ws l W M 4 k q) (hk : k < l.length) (hm : mkd l M k) (hq : q < (l[k]).ptrs) (hq32 : q < 32) : Dfs ws l (W ++ [wd ws (pl l[k] q)]) M 4 k (q + 1) := by
  refine ⟨h.sound, fun x hx j hj => ?_, fun r hr j hj => ?_, fun i hi p j h1 h2 h3 h4 => ?_, ?_⟩
  · rcases List.mem_append.1 hx with hx | hx
    · exact h.wsound x hx j hj
    · obtain rfl : x = wd ws (pl l[k] q) := by simpa using hx
      exact reach_step hk (h.sound k hk hm) hq hj
  · rcases h.roots r hr j hj with h1 | h1
    · exact .inl h1
    · exact .inr (List.mem_append_left _ h1)
  · by_cases he : i = k ∧ p = q
    · obtain ⟨rfl, rfl⟩ := he
      exact .inr (by simp)
    · rcases h.ptrs i hi p j h1 h2 (fun hik => by have := h3 hik; omega) h4 with h1 | h1
      · exact .inl h1
      · exact .inr (List.mem_append_left _ h1)
  · have := h.room
    rw [if_pos hk] at this ⊢
    simp
    omega
theorem Dfs.all {ws : List Int} {l : List Ob} {W : List Int} {M : List Bool} {k q : Nat} (h : Dfs ws l W M 4 k q) (hk : k < l.length) (hq : (l[k]).ptrs ≤ q) : Dfs ws l W M 4 l.length 0 := by
  refine ⟨h.sound, h.wsound, h.roots, fun i hi p j h1 h2 h3 h4 => h.ptrs i hi p j h1 h2 (fun hik => by subst hik; omega) h4, ?_⟩
  have := h.room
  rw [if_neg (by omega)]
  omega
theorem Dfs.done {ws : List Int} {l : List Ob} {M : List Bool} {q : Nat} (h : Dfs ws l [] M 4 l.length q) (hlt : ∀ r k, idx l r = some k → k < l.length) (i : Nat) (hi : i < l.length) : mkd l M i ↔ Reach ws l i :=
  ⟨h.sound i hi, fun hr => (hr (fun i => i < l.length ∧ mkd l M i) ⟨fun r hr k hk => ⟨hlt _ k hk, (h.roots r hr k hk).resolve_right (by simp)⟩, fun i hi' p k ho hp hk => ⟨hlt _ k hk, (h.ptrs i hi' p k ho.2 hp (fun he => by omega) hk).resolve_right (by simp)⟩⟩).2⟩
end Go.Proofs.YtbagcjlimdilpaaGreat
/- The walk of the program's Kept.Copy: words in memory of their own. -/
namespace Go.Proofs.YtbagcjlimdilpaaGreat
open Go.RowKit

theorem splice_all {xs ys : List Value} (h : xs.length = ys.length) : splice xs 0 ys = ys := by
  unfold splice
  simp [h]
set_option maxRecDepth 100000 in
theorem kcopy_any (a : Option Addr) (cap : Nat) (ws : List Int) (w : World) (hm : ws.length ≤ 1048576) (hp : 0 < ws.length) (hr : RowU w a ws) :
    Calls Tryz.prog 51 #[.slice a ws.length cap] w fun e w' => e = .returned (.slice (some ⟨w.heap.size, 0, none⟩) ws.length ws.length) ∧ Row w' w.heap.size ws ∧ Fr New w w' := by
  obtain ⟨i0, hi, hz0, hz1, hz2⟩ := info_parts Tryz.info50
  obtain ⟨sb, so, rfl, hsb, hcw⟩ := rowU_plain hr hp
  have HRU : Hid (∀ W, Fr New w W → RowU W (some ⟨sb, so, none⟩) ws) := fun W hf => rowU_fr hf hr (fun _ _ h => h)
  have hmin : Hid ((ws.map (Value.int .u64)).length = Nat.min ws.length ws.length) := by show _ = _; simp
  obtain ⟨L, hL⟩ : ∃ L, L = ws.length := ⟨_, rfl⟩
  have HL : Hid (L = ws.length) := hL
  rw [← hL] at hmin hm hp ⊢
  clear hr hcw hL
  go_enter Tryz.func51, Tryz.ntmps51
  go_wp2_with (first
    | (at_make; refine wpList_make_full _ rfl (.tmp 5) (.tmp 5) 105 rfl w.heap.size 50 i0 (.int .u64 0) 1 Tryz.underlying105 hi hz0 hz1 .i64 .i64 _ _ L rfl rfl (by omega) (by omega) (by rw [hz2]; omega) (by unfold maxLen; omega) (Nat.le_refl _) ?_; intro w1 hown1 hg1; have hr1 := Row.ofOwn hown1 (made_zeros _); have hf1 := (Fr.refl New w).grownNew hg1; clear hown1 hg1)
    | (refine wpList_copy_splice rfl (.tmp 7) (.tmp 8) 105 105 rfl 50 Tryz.underlying105 Tryz.size50 (some ⟨w.heap.size, 0, none⟩) (some ⟨sb, so, none⟩) L L L cap (by rfl) (by rfl) w.heap.size 0 _ 50 hr1 (ws.map (Value.int .u64)) hmin.out (fun hp => ⟨rfl, news_row (HRU.out w1 hf1) hp⟩) (by simp [← HL.out]) (ints_oneU _) w.heap.size w (hf1.below (Nat.le_refl _) (fun _ _ h => h)) (Nat.le_refl _) ?_; intro w4 hr4 hb4; have hR4 : Row w4 w.heap.size ws := (by have hr4' := hr4.out; rw [splice_all (by simp [← HL.out])] at hr4'; exact hr4'); have hF4 : Fr New w w4 := ((Fr.ofBelow hb4).mono (fun j hj h => by omega)))
    | fail)
  go_ret
  exact ⟨rfl, hR4, hF4⟩
end Go.Proofs.YtbagcjlimdilpaaGreat
/- Mathematics: what Repair makes is sound. -/
namespace Go.Proofs.YtbagcjlimdilpaaGreat

/-- objects lie one behind the other -/
def Apart (l : List Ob) : Prop := ∀ i j (hi : i < l.length) (hj : j < l.length), i < j → (l[i]).block + (l[i]).span ≤ (l[j]).block
/-- an object that is reached -/
def RB (ws : List Int) (l : List Ob) (o : Ob) : Prop := ∃ i, ∃ hi : i < l.length, l[i] = o ∧ Reach ws l i
theorem idx_mem {l : List Ob} {h : Int} {k : Nat} (hk : idx l h = some k) : ∃ hk' : k < l.length, (((l[k]).block + 1 : Nat) : Int) = h := by
  unfold idx at hk
  obtain ⟨h1, h2, _⟩ := List.findIdx?_eq_some_iff_getElem.1 hk
  exact ⟨h1, by simpa using h2⟩
theorem idx_some_of_mem {l : List Ob} {h : Int} {o : Ob} (ho : o ∈ l) (hh : ((o.block + 1 : Nat) : Int) = h) : idx l h ≠ none := by
  intro hx
  unfold idx at hx
  rw [List.findIdx?_eq_none_iff] at hx
  have := hx o ho
  simp at this
  omega

theorem walkF_congr {a c : List Int} (h : ∀ b, slotAt a b = slotAt c b) (n : Nat) : ∀ f b, walkF a n f b = walkF c n f b
  | 0, _ => rfl
  | f + 1, b => by
    rw [walkF, walkF, h b]
    split
    · split
      · rw [walkF_congr h n f]
      · rw [walkF_congr h n f]
      · rw [walkF_congr h n f]
    · rfl

end Go.Proofs.YtbagcjlimdilpaaGreat
/- Mathematics: what Check and Repair say of spoilt words. -/
namespace Go.Proofs.YtbagcjlimdilpaaGreat

end Go.Proofs.YtbagcjlimdilpaaGreat
