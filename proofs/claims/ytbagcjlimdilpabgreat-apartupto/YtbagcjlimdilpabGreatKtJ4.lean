/- Texts that follow one another, joined. -/
import Derived.Test.YtbagcjlimdilpabGreatKtJ0
import Derived.Test.YtbagcjlimdilpabGreatKtJ3
/- Mathematics: what Repair makes is sound. -/
namespace Go.Proofs.YtbagcjlimdilpabGreat

/-- objects lie one behind the other -/
def Apart (l : List Ob) : Prop := ∀ i j (hi : i < l.length) (hj : j < l.length), i < j → (l[i]).block + (l[i]).span ≤ (l[j]).block
theorem apart_cons {o : Ob} {l : List Ob} (h : ∀ x ∈ l, o.block + o.span ≤ x.block) (hl : Apart l) : Apart (o :: l) := by
  intro i j hi hj hij
  cases j with
  | zero => omega
  | succ j =>
    cases i with
    | zero => simpa using h _ (List.getElem_mem (by simpa using hj))
    | succ i => simpa using hl i j (by simpa using hi) (by simpa using hj) (by omega)
theorem walkF_apart {ws : List Int} {n f b : Nat} : Apart (walkF ws n f b).1 := by
  induction f generalizing b with
  | zero => intro i j hi; simp [walkF] at hi
  | succ f ih =>
    rw [walkF]
    split
    · split
      · rename_i o hs
        obtain ⟨e1, e2, _⟩ := slot_obs hs
        refine apart_cons (fun x hx => ?_) ih
        have := walkF_ge x hx
        omega
      · exact ih
      · exact ih
    · intro i j hi; simp at hi
theorem objs_apart (ws : List Int) : Apart (objs ws) := walkF_apart
theorem apart_mem {l : List Ob} (h : Apart l) {o o' : Ob} (ho : o ∈ l) (ho' : o' ∈ l) : o = o' ∨ o.block + o.span ≤ o'.block ∨ o'.block + o'.span ≤ o.block := by
  obtain ⟨i, hi, rfl⟩ := List.getElem_of_mem ho
  obtain ⟨j, hj, rfl⟩ := List.getElem_of_mem ho'
  rcases Nat.lt_or_ge i j with h1 | h1
  · exact .inr (.inl (h i j hi hj h1))
  · rcases Nat.lt_or_ge j i with h2 | h2
    · exact .inr (.inr (h j i hj hi h2))
    · obtain rfl : i = j := by omega
      exact .inl rfl

/-- an object that is reached -/
def RB (ws : List Int) (l : List Ob) (o : Ob) : Prop := ∃ i, ∃ hi : i < l.length, l[i] = o ∧ Reach ws l i
theorem idx_mem {l : List Ob} {h : Int} {k : Nat} (hk : idx l h = some k) : ∃ hk' : k < l.length, (((l[k]).block + 1 : Nat) : Int) = h := by
  unfold idx at hk
  obtain ⟨h1, h2, _⟩ := List.findIdx?_eq_some_iff_getElem.1 hk
  exact ⟨h1, by simpa using h2⟩
theorem idx_some_of_mem {l : List Ob} {h : Int} {o : Ob} (ho : o ∈ l) (hh : ((o.block + 1 : Nat) : Int) = h) : idx l h ≠ none := by
  intro hx
  unfold idx at hx
  rw [List.findIdx?_eq_none_iff] at hx
  have := hx o ho
  simp at this
  omega

theorem rb_at {w2 : List Int} {o : Ob} (hr : RB w2 (objs w2) o) {j : Nat} (hj : j < (objs w2).length) (he : o = (objs w2)[j]) : Reach w2 (objs w2) j := by
  obtain ⟨i, hi, he', hri⟩ := hr
  have h1 := objs_apart w2
  have : i = j := by
    rcases Nat.lt_or_ge i j with h2 | h2
    · have h4 := h1 i j hi hj h2
      have h5 := (objs_in (List.getElem_mem hi)).2.1
      rw [he', he] at h4
      rw [he', he] at h5
      omega
    · rcases Nat.lt_or_ge j i with h3 | h3
      · have h4 := h1 j i hj hi h3
        have h5 := (objs_in (List.getElem_mem hj)).2.1
        rw [he', he] at h4
        omega
      · omega
  subst this
  exact hri


theorem fix_less {w2 w3 : List Int} (h : Zeroed w2 w3 (fixZ w2 (objs w2))) (q : Nat) (hq : wd w2 q = 0) : wd w3 q = 0 := by
  by_cases hz : fixZ w2 (objs w2) q
  · exact h.yes q hz
  · rw [h.no q hz]; exact hq
/-- the header of an object that is reached stays -/
theorem fix_header {w2 w3 : List Int} (h : Zeroed w2 w3 (fixZ w2 (objs w2))) {o : Ob} (ho : o ∈ objs w2) (hr : RB w2 (objs w2) o) : wd w3 (106 + 8 * o.block) = wd w2 (106 + 8 * o.block) := by
  refine h.no _ (fun hz => ?_)
  have hin := objs_in ho
  rcases hz with (⟨h1, h2, _⟩ | ⟨j, hj, _, _, p, hp, hq, _⟩) | ⟨j, hj, _, hnr, b', hb, hq⟩
  · omega
  · have ho' : (objs w2)[j] ∈ objs w2 := List.getElem_mem hj
    have hin' := objs_in ho'
    unfold pl at hq
    rcases apart_mem (objs_apart w2) ho ho' with he | he | he
    · rw [← he] at hq; omega
    · omega
    · omega
  · have ho' : (objs w2)[j] ∈ objs w2 := List.getElem_mem hj
    rcases apart_mem (objs_apart w2) ho ho' with he | he | he
    · exact hnr (rb_at hr hj he)
    · omega
    · omega
/-- the pointers of an object that is reached -/
theorem fix_ptr {w2 w3 : List Int} (h : Zeroed w2 w3 (fixZ w2 (objs w2))) {o : Ob} (ho : o ∈ objs w2) (hr : RB w2 (objs w2) o) {p : Nat} (hp : p < o.ptrs) :
    (idx (objs w2) (wd w2 (pl o p)) = none ∧ wd w3 (pl o p) = 0) ∨ (idx (objs w2) (wd w2 (pl o p)) ≠ none ∧ wd w3 (pl o p) = wd w2 (pl o p)) := by
  by_cases hx : idx (objs w2) (wd w2 (pl o p)) = none
  · refine .inl ⟨hx, h.yes _ (.inl (.inr ?_))⟩
    obtain ⟨i, hi, he, hri⟩ := hr
    exact ⟨i, hi, hi, hri, p, by rw [he]; exact hp, by rw [he], hx⟩
  · refine .inr ⟨hx, h.no _ (fun hz => ?_)⟩
    have hin := objs_in ho
    rcases hz with (⟨h1, h2, h3⟩ | ⟨j, hj, _, _, p', hp', hq, h3⟩) | ⟨j, hj, _, hnr, b', hb, hq⟩
    · exact hx h3
    · exact hx h3
    · have ho' : (objs w2)[j] ∈ objs w2 := List.getElem_mem hj
      unfold pl at hq
      rcases apart_mem (objs_apart w2) ho ho' with he | he | he
      · exact hnr (rb_at hr hj he)
      · have := (objs_in ho').2.1; omega
      · omega
theorem fix_root {w2 w3 : List Int} (h : Zeroed w2 w3 (fixZ w2 (objs w2))) {r : Nat} (hr : r < 4) : (idx (objs w2) (wd w2 (3 + r)) = none ∧ wd w3 (3 + r) = 0) ∨ (idx (objs w2) (wd w2 (3 + r)) ≠ none ∧ wd w3 (3 + r) = wd w2 (3 + r)) := by
  by_cases hx : idx (objs w2) (wd w2 (3 + r)) = none
  · exact .inl ⟨hx, h.yes _ (.inl (.inl ⟨by omega, by omega, hx⟩))⟩
  · refine .inr ⟨hx, h.no _ (fun hz => ?_)⟩
    rcases hz with (⟨h1, h2, h3⟩ | ⟨j, hj, _, _, p', hp', hq, h3⟩) | ⟨j, hj, _, hnr, b', hb, hq⟩
    · exact hx h3
    · exact hx h3
    · omega
theorem fix_low {w2 w3 : List Int} (h : Zeroed w2 w3 (fixZ w2 (objs w2))) {q : Nat} (hq : q < 106) (h3 : q < 3 ∨ 7 ≤ q) : wd w3 q = wd w2 q := by
  refine h.no _ (fun hz => ?_)
  rcases hz with (⟨h1, h2, _⟩ | ⟨j, hj, _, _, p', hp', hq', _⟩) | ⟨j, hj, _, hnr, b', hb, hq'⟩
  · omega
  · unfold pl at hq'; omega
  · omega
/-- the blocks of an object that is not reached become free -/
theorem fix_leak {w2 w3 : List Int} (h : Zeroed w2 w3 (fixZ w2 (objs w2))) {o : Ob} (ho : o ∈ objs w2) (hr : ¬ RB w2 (objs w2) o) {b : Nat} (hb : b < o.span) : wd w3 (106 + 8 * (o.block + b)) = 0 := by
  obtain ⟨i, hi, rfl⟩ := List.getElem_of_mem ho
  exact h.yes _ (.inr ⟨i, hi, hi, fun hri => hr ⟨i, hi, rfl, hri⟩, b, hb, rfl⟩)

theorem walk_free_many {ws : List Int} {n : Nat} : ∀ (s b : Nat), b + s ≤ n → (∀ i, i < s → wd ws (106 + 8 * (b + i)) = 0) → walkS ws n b = walkS ws n (b + s)
  | 0, b, _, _ => rfl
  | s + 1, b, hb, hz => by
    rw [walk_free (by omega) (slot_free (by have := hz 0 (by omega); simpa using this)), walk_free_many s (b + 1) (by omega) (fun i hi => by have := hz (i + 1) (by omega); rwa [show b + (i + 1) = b + 1 + i by omega] at this)]
    congr 1
    omega
/-- what is left, behind the mending: the objects that are reached -/
theorem walk_fixed {w2 w3 : List Int} (h : Zeroed w2 w3 (fixZ w2 (objs w2))) {n : Nat} (hn : n = nblk w2.length) : ∀ (f b : Nat), n - b ≤ f → (∀ o ∈ (walkS w2 n b).1, o ∈ objs w2) → (walkS w2 n b).2 = [] →
    (walkS w3 n b).2 = [] ∧ ∀ o, o ∈ (walkS w3 n b).1 ↔ o ∈ (walkS w2 n b).1 ∧ RB w2 (objs w2) o := by
  intro f
  induction f using Nat.strongRecOn with
  | ind f ih =>
    intro b hf hsub hbad
    by_cases hb : b < n
    · rcases hs : slotAt w2 b with _ | _ | o
      · rw [walk_free hb hs] at hsub hbad ⊢
        have h0 : wd w2 (106 + 8 * b) = 0 := by
          unfold slotAt at hs
          split at hs
          · assumption
          · split at hs <;> cases hs
        rw [walk_free hb (slot_free (fix_less h _ h0))]
        exact ih (f - 1) (by omega) (b + 1) (by omega) hsub hbad
      · rw [walk_bad hb hs] at hbad
        cases hbad
      · obtain ⟨e1, e2, e3, e4, e5⟩ := slot_obs hs
        rw [walk_ob hb hs] at hsub hbad ⊢
        have ho : o ∈ objs w2 := hsub o (by simp)
        have hle : b + o.span ≤ n := by
          rw [hn]
          have := nblk_some (len := w2.length) (by omega)
          omega
        have hrec := ih (f - 1) (by omega) (b + o.span) (by omega) (fun x hx => hsub x (by simp [hx])) hbad
        by_cases hr : RB w2 (objs w2) o
        · have hs3 : slotAt w3 b = some (some o) := by
            rw [slot_same h.len (by rw [← e1]; exact fix_header h ho hr)]
            exact hs
          rw [walk_ob hb hs3]
          refine ⟨hrec.1, fun x => ?_⟩
          simp only [List.mem_cons]
          rw [hrec.2 x]
          constructor
          · rintro (rfl | ⟨h1, h2⟩)
            · exact ⟨.inl rfl, hr⟩
            · exact ⟨.inr h1, h2⟩
          · rintro ⟨rfl | h1, h2⟩
            · exact .inl rfl
            · exact .inr ⟨h1, h2⟩
        · rw [walk_free_many o.span b hle (fun i hi => by rw [← e1]; exact fix_leak h ho hr hi)]
          refine ⟨hrec.1, fun x => ?_⟩
          rw [hrec.2 x]
          simp only [List.mem_cons]
          constructor
          · rintro ⟨h1, h2⟩
            exact ⟨.inr h1, h2⟩
          · rintro ⟨rfl | h1, h2⟩
            · exact absurd h2 hr
            · exact ⟨h1, h2⟩
    · rw [walk_end hb] at hsub hbad ⊢
      rw [walk_end hb]
      exact ⟨rfl, fun o => by simp⟩

theorem walkF_zero2 {ws w2 : List Int} {Z : Nat → Prop} (h : Zeroed ws w2 Z) (hZ : ∀ b, Z (106 + 8 * b) → slotAt ws b = some none) {n : Nat} : ∀ f b, (∀ q ∈ (walkF ws n f b).2, Z q) → (walkF w2 n f b).2 = []
  | 0, _, _ => rfl
  | f + 1, b, hq => by
    rw [walkF] at hq
    rw [walkF]
    by_cases hb : b < n
    · rw [if_pos hb] at hq
      rw [if_pos hb]
      rcases hs : slotAt ws b with _ | _ | o
      · rw [hs] at hq
        rw [slot_same h.len (h.no _ (fun hz => by rw [hZ b hz] at hs; cases hs)), hs]
        exact walkF_zero2 h hZ f (b + 1) hq
      · rw [hs] at hq
        have hz : wd w2 (106 + 8 * b) = 0 := h.yes _ (hq _ (by simp))
        rw [slot_free hz]
        exact walkF_zero2 h hZ f (b + 1) (fun q hq' => hq q (by simp [hq']))
      · rw [hs] at hq
        rw [slot_same h.len (h.no _ (fun hz => by rw [hZ b hz] at hs; cases hs)), hs]
        exact walkF_zero2 h hZ f (b + o.span) hq
    · rw [if_neg hb]
/-- no wrong header is left, where each becomes 0 -/
theorem bads_zeroed {ws w2 : List Int} (h : Zeroed ws w2 (fun q => q ∈ bads ws)) : bads w2 = [] := by
  unfold bads walkS
  rw [h.len]
  refine walkF_zero2 h (fun b hb => ?_) _ _ (fun q hq => hq)
  obtain ⟨b', e, hs⟩ := walkF_bad2 hb
  obtain rfl : b = b' := by omega
  exact hs
theorem walkF_congr {a c : List Int} (h : ∀ b, slotAt a b = slotAt c b) (n : Nat) : ∀ f b, walkF a n f b = walkF c n f b
  | 0, _ => rfl
  | f + 1, b => by
    rw [walkF, walkF, h b]
    split
    · split
      · rw [walkF_congr h n f]
      · rw [walkF_congr h n f]
      · rw [walkF_congr h n f]
    · rfl

/-- WHAT REPAIR MAKES IS SOUND -/
theorem repair_is_sound {ws r : List Int} (h : RepairIs ws r 0) : Sound r := by
  rcases h with ⟨_, h, _⟩ | ⟨hn, ⟨_, h, _⟩ | ⟨hok, _, w2, w3, z2, z3, rfl⟩⟩
  · cases h
  · cases h
  have hlen := (nblk_some hn).1
  have hl3 : w3.length = ws.length := by rw [z3.len, z2.len, loggedS_len]
  have hl2 : w2.length = ws.length := by rw [z2.len, loggedS_len]
  have hlr : (w3.set 7 (sumL (w3.take 7))).length = ws.length := by rw [List.length_set, hl3]
  have hn1 := (nblk_some hn).2.1
  have h7 : 7 < w3.length := by omega
  have hwd : ∀ q, q ≠ 7 → wd (w3.set 7 (sumL (w3.take 7))) q = wd w3 q := fun q hq => by rw [wd_set h7, if_neg hq]
  have hsl : ∀ b, slotAt (w3.set 7 (sumL (w3.take 7))) b = slotAt w3 b := fun b => slot_same (by simp) (hwd _ (by omega))
  have hob : objs (w3.set 7 (sumL (w3.take 7))) = objs w3 := by unfold objs walkS; rw [List.length_set, walkF_congr hsl]
  have hbd : bads (w3.set 7 (sumL (w3.take 7))) = bads w3 := by unfold bads walkS; rw [List.length_set, walkF_congr hsl]
  have hb2 := bads_zeroed z2
  have hlow2 : ∀ q, q < 106 → wd w2 q = wd (loggedS ws) q := fun q hq => z2.no _ (fun hz => by
    obtain ⟨b', e, _⟩ := walkF_bad2 hz
    omega)
  have hlg8 : wd (loggedS ws) 8 = 0 := by
    unfold loggedS
    rw [wd_set (by split; rw [doneS_len]; omega; omega), if_pos rfl]
  obtain ⟨hb3, hmem⟩ := walk_fixed z3 (n := nblk w2.length) rfl (nblk w2.length) 0 (by omega) (fun o ho => ho) hb2
  have hmem3 : ∀ o, o ∈ objs w3 ↔ o ∈ objs w2 ∧ RB w2 (objs w2) o := fun o => by
    have := hmem o
    unfold objs
    rw [z3.len]
    exact this
  have hbad3 : bads w3 = [] := by unfold bads; rw [z3.len]; exact hb3
  have ha3 := objs_asc w3
  have held : ∀ {x : Int} {k : Nat}, idx (objs w2) x = some k → Reach w2 (objs w2) k → ∃ o ∈ objs w3, ((o.block + 1 : Nat) : Int) = x := fun {x k} hk hr => by
    obtain ⟨hk', e⟩ := idx_mem hk
    exact ⟨_, (hmem3 _).2 ⟨List.getElem_mem hk', k, hk', rfl, hr⟩, e⟩
  refine ⟨by rw [hlr]; exact hn, ?_, ?_, ?_, ?_, by rw [hbd]; exact hbad3, ?_, ?_, ?_⟩
  · rw [hwd 0 (by omega), fix_low z3 (by omega) (.inl (by omega)), hlow2 0 (by omega)]; exact hok.1
  · rw [hwd 1 (by omega), fix_low z3 (by omega) (.inl (by omega)), hlow2 1 (by omega), hlr]; exact hok.2
  · rw [wd_set h7, if_pos rfl, List.take_set_of_le (by omega)]
  · rw [hwd 8 (by omega), fix_low z3 (by omega) (.inr (by omega)), hlow2 8 (by omega)]; exact hlg8
  · intro r hr
    rw [hob, hwd (3 + r) (by omega)]
    rcases fix_root z3 hr with ⟨_, h0⟩ | ⟨hx, he⟩
    · exact .inl h0
    · right
      rw [he]
      rcases hk : idx (objs w2) (wd w2 (3 + r)) with _ | k
      · exact absurd hk hx
      · obtain ⟨o, ho, e⟩ := held hk (reach_root hr hk)
        exact idx_some_of_mem ho e
  · intro i hi p hp
    have hi' : i < (objs w3).length := by rw [hob] at hi; exact hi
    have heq : (objs (w3.set 7 (sumL (w3.take 7))))[i] = (objs w3)[i] := by simp only [hob]
    rw [heq] at hp ⊢
    rw [hob, hwd _ (by unfold pl; omega)]
    obtain ⟨ho, hrb⟩ := (hmem3 _).1 (List.getElem_mem hi')
    rcases fix_ptr z3 ho hrb hp with ⟨_, h0⟩ | ⟨hx, he⟩
    · exact .inl h0
    · right
      rw [he]
      rcases hk : idx (objs w2) (wd w2 (pl (objs w3)[i] p)) with _ | k
      · exact absurd hk hx
      · obtain ⟨j, hj, e, hrj⟩ := hrb
        rw [← e] at hk hp
        obtain ⟨o, ho', e'⟩ := held hk (reach_step hj hrj hp hk)
        rw [← e]
        exact idx_some_of_mem ho' e'
  · intro i hi
    have hi' : i < (objs w3).length := by rw [hob] at hi; exact hi
    rw [hob]
    intro S hS
    obtain ⟨ho, j, hj, e, hrj⟩ := (hmem3 _).1 (List.getElem_mem hi')
    have key := hrj (fun j => ∃ hj : j < (objs w2).length, Reach w2 (objs w2) j ∧ ∀ i' (hi' : i' < (objs w3).length), (objs w3)[i'] = (objs w2)[j] → S i') ⟨fun r hr k hk => ?_, fun j hj' p k hSj hp hk => ?_⟩
    · exact key.2.2 i hi' e.symm
    · obtain ⟨hk', ek⟩ := idx_mem hk
      refine ⟨hk', reach_root hr hk, fun i' hi'' he => ?_⟩
      refine hS.1 r hr i' ?_
      rw [hwd _ (by omega)]
      rcases fix_root z3 hr with ⟨hx, _⟩ | ⟨_, h3⟩
      · rw [hk] at hx; cases hx
      · rw [h3]
        exact idx_at ha3 hi'' (by rw [hnd_eq hi'', he]; exact ek)
    · obtain ⟨hj2, hrj2, hS2⟩ := hSj
      obtain ⟨hk', ek⟩ := idx_mem hk
      refine ⟨hk', reach_step hj' hrj2 hp hk, fun i' hi'' he => ?_⟩
      have hm : (objs w2)[j] ∈ objs w3 := (hmem3 _).2 ⟨List.getElem_mem hj', j, hj', rfl, hrj2⟩
      obtain ⟨i2, hi2, e2⟩ := List.getElem_of_mem hm
      refine hS.2 i2 hi2 p i' (hS2 i2 hi2 e2) (by rw [e2]; exact hp) ?_
      rw [e2, hwd _ (by unfold pl; omega)]
      rcases fix_ptr z3 (List.getElem_mem hj') ⟨j, hj', rfl, hrj2⟩ hp with ⟨hx, _⟩ | ⟨_, h3⟩
      · rw [hk] at hx; cases hx
      · rw [h3]
        exact idx_at ha3 hi'' (by rw [hnd_eq hi'', he]; exact ek)
end Go.Proofs.YtbagcjlimdilpabGreat

/- Mathematics: what Check and Repair say of spoilt words. -/
namespace Go.Proofs.YtbagcjlimdilpabGreat

theorem repair_checks {ws r : List Int} (h : RepairIs ws r 0) : CheckIs r 0 0 := check_of_sound (repair_is_sound h)
theorem repair_again {ws r : List Int} (h : RepairIs ws r 0) : RepairIs r r 0 := repair_sound (repair_checks h)
theorem repair_same {ws r : List Int} (h : RepairIs ws r 0) : r = ws ↔ CheckIs ws 0 0 :=
  ⟨fun e => by subst e; exact repair_checks h, fun hc => (repair_one h (repair_sound hc)).1⟩
theorem repair_fails {ws r : List Int} {e : Int} (h : RepairIs ws r e) (he : e ≠ 0) (hn : nblk ws.length ≠ 0) : e = 3 ∧ r = [] ∧ (¬ (wd ws 0 = 20261114 ∧ wd ws 1 = nblk ws.length) ∨ wd ws 8 ≠ 0) := by
  rcases h with ⟨h0, _⟩ | ⟨_, ⟨hk, rfl, rfl⟩ | ⟨_, rfl, _⟩⟩
  · exact absurd h0 hn
  · refine ⟨rfl, rfl, ?_⟩
    by_cases h8 : wd ws 8 = 0
    · left
      intro hh
      apply hk
      have hl := (nblk_some hn).1
      unfold headOk
      rw [logged_same h8 (by omega)]
      exact hh
    · exact .inr h8
  · exact absurd rfl he
theorem told_place {E : List (Prop × Int × Int)} {c p : Int} {L : Int} (h : Told E c p) (hL : 0 < L) (hE : ∀ y ∈ E, 0 ≤ y.2.2 ∧ y.2.2 < L) : 0 ≤ p ∧ p < L := by
  induction E with
  | nil => obtain ⟨_, rfl⟩ := h; omega
  | cons x r ih =>
    rcases h with ⟨_, _, rfl⟩ | ⟨_, h⟩
    · exact hE x (by simp)
    · exact ih h (fun y hy => hE y (by simp [hy]))
/-- a place is one of the words -/
theorem check_place {ws : List Int} {c p : Int} (h : CheckIs ws c p) (hn : nblk ws.length ≠ 0) : 0 ≤ p ∧ p < ws.length := by
  have hl := (nblk_some hn).1
  have hn1 := (nblk_some hn).2.1
  refine told_place h (by omega) (fun y hy => ?_)
  unfold checkT at hy
  rcases List.mem_append.1 hy with hy | hy
  · simp only [headT, List.mem_cons, List.not_mem_nil, or_false] at hy
    rcases hy with rfl | rfl | rfl | rfl | rfl <;> (simp only; omega)
  · rcases List.mem_append.1 hy with hy | hy
    · obtain ⟨q, hq, rfl⟩ := List.mem_map.1 hy
      have := bads_lt hn hq
      simp only
      omega
    · rcases List.mem_append.1 hy with hy | hy
      · obtain ⟨r, hr, rfl⟩ := List.mem_map.1 hy
        have : r < 4 := by simpa using hr
        simp only [rootT]
        omega
      · rcases List.mem_append.1 hy with hy | hy
        · obtain ⟨o, ho, hy⟩ := List.mem_flatMap.1 hy
          obtain ⟨q, hq, rfl⟩ := List.mem_map.1 hy
          have h1 := objs_in ho
          have h2 : q < o.ptrs := by simpa using hq
          simp only [ptrT, pl]
          omega
        · obtain ⟨i, hi, rfl⟩ := List.mem_map.1 hy
          have hi' : i < (objs ws).length := by simpa using hi
          have h1 := objs_in (List.getElem_mem hi')
          simp only [leakT, List.getElem?_eq_getElem hi', Option.elim]
          omega
end Go.Proofs.YtbagcjlimdilpabGreat

/- The walk of the document's Repair. -/
namespace Go.Proofs.YtbagcjlimdilpabGreat
open Go.RowKit

theorem ret_rep {v : Value} {a b : Int} (h : a = b) : Ending.returned (.tuple #[v, .int .i64 a]) = .returned (.tuple #[v, .int .i64 b]) := by rw [h]

end Go.Proofs.YtbagcjlimdilpabGreat

