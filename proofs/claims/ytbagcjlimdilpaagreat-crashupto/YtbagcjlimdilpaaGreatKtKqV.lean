/- What the laws of stops need: Stores of a story and of a heap; what is left, as it opens. -/
import Derived.Test.YtbagcjlimdilpaaGreatKtKqU
import Derived.Test.YtbagcjlimdilpaaGreatKtJ20
namespace Go.Proofs.YtbagcjlimdilpaaGreat
open Go.RowKit Go.Maps

/-- Stores of a story's heap -/
theorem hstores_sty {sb n hb tb cb mb g : Nat} {vs vn vk : Value} {un uk : List Value} {ws now : List Int} {sts : List St} {w : World} (S : Sty sb n hb tb cb mb g vs vn vk un uk ws now sts w) :
    Calls Tryz.prog 25 #[.pointer (some ⟨hb, 0, none⟩)] w fun e w' => e = .returned vs ∧ Sty sb n hb tb cb mb g (.slice none 0 0) vn vk un uk ws now [] w' ∧ Fr (fun k => k = tb) w w' ∧ w'.ownsRow 0 122 3 vs sts.length (stsCells sts) := by
  refine (hstores_any hb tb cb mb g vs ws now sts w S.ph).mono ?_
  rintro e w' ⟨rfl, hp, hf, ho, _⟩
  exact ⟨rfl, ⟨hf.heap S.blk (fun e => type_ne S.blk S.ph.tg.t.td (by decide) e), hp, S.hw, S.tn.fr hf (fun k hk e => by subst e; exact S.tn.no S.ph.tg.t.td (by decide) (by decide) hk), S.tk.fr hf (fun k hk e => by subst e; exact S.tk.no S.ph.tg.t.td (by decide) (by decide) hk), S.n, S.gn, S.gk, S.nk⟩, hf, ho⟩
/-- what a commit leaves of a stop: its words, its stores, and what comes of them -/
structure Stopped (ws now ws' : List Int) (sts : List St) : Prop where
  few : sts.length ≤ 151
  all : leftW ws sts (lastF sts sts.length) (fun _ => true) sts.length = ws'
  one : ∀ (n : Nat) (P : Nat → Bool) (m : Nat) (R : Nat → Bool), n ≤ sts.length → m ≤ (openSt (leftW ws sts (lastF sts n) P n)).length →
    ∃ a b, Opens (leftW ws sts (lastF sts n) P n) a ∧ Opens (leftW (leftW ws sts (lastF sts n) P n) (openSt (leftW ws sts (lastF sts n) P n)) (lastF (openSt (leftW ws sts (lastF sts n) P n)) m) R m) b ∧ ((Like a ws ∧ Like b ws) ∨ (Like a ws' ∧ Like b ws'))
theorem stq_in {ws now : List Int} {l : List St} (h : HW ws now) (hs : Sts l (recsOf ws (nextS now))) (h48 : (recsOf ws (nextS now)).length ≤ 48) {i : Nat} (hi : i < l.length) (hk : (stq l i).k = 1) : 0 ≤ (stq l i).at' ∧ (stq l i).at' < (ws.length : Int) := by
  have hL := h.gw.len
  have hro := recs_out h
  rw [hs.len] at hi
  obtain ⟨rs, hrs⟩ : ∃ rs, rs = recsOf ws (nextS now) := ⟨_, rfl⟩
  rw [← hrs] at hs hro h48 hi
  by_cases c1 : i < 2 * rs.length
  · rw [hs.log i c1]; simp only; omega
  · by_cases c2 : i = 2 * rs.length
    · subst c2; rw [hs.sum]; simp only; omega
    · by_cases c3 : i = 2 * rs.length + 1
      · subst c3; rw [hs.f1] at hk; simp at hk
      · by_cases c4 : i = 2 * rs.length + 2
        · subst c4; rw [hs.num]; simp only; omega
        · by_cases c5 : i = 2 * rs.length + 3
          · subst c5; rw [hs.f2] at hk; simp at hk
          · by_cases c6 : i < 3 * rs.length + 4
            · obtain ⟨j, rfl⟩ : ∃ j, i = 2 * rs.length + 4 + j := ⟨i - (2 * rs.length + 4), by omega⟩
              have hj : j < rs.length := by omega
              obtain ⟨q', e1, e2, e4, e3⟩ := hro _ (List.getElem_mem hj)
              rw [hs.put j hj]
              simp only
              omega
            · by_cases c7 : i = 3 * rs.length + 4
              · subst c7; rw [hs.f3] at hk; simp at hk
              · by_cases c8 : i = 3 * rs.length + 5
                · subst c8; rw [hs.zero]; simp only; omega
                · obtain rfl : i = 3 * rs.length + 6 := by omega
                  rw [hs.f4] at hk; simp at hk
theorem stopped {ws now ws' now' : List Int} {sts' : List St} (h : HW ws now) (hc : CommitR ws now [] ws' now' sts') : Stopped ws now ws' sts' := by
  have hnone : ∀ wx : List Int, wx = ws → Stopped ws now wx [] := fun wx e => by
    subst e
    have o := opens_self h.back
    refine ⟨by simp, rfl, fun n P m R hn hm => ?_⟩
    obtain rfl : n = 0 := by simpa using hn
    have e0 : leftW wx [] (lastF [] 0) P 0 = wx := rfl
    rw [e0] at hm ⊢
    have e1 : openSt wx = [] := (open_self h.back).2.2
    rw [e1] at hm ⊢
    obtain rfl : m = 0 := by simpa using hm
    exact ⟨wx, wx, o, o, .inl ⟨Like.refl _, Like.refl _⟩⟩
  rcases hc with ⟨_, rfl, _, rfl⟩ | ⟨_, _, rfl, _, rfl⟩ | ⟨_, h48, rfl, _, rfl⟩
  · exact hnone _ rfl
  · exact hnone _ rfl
  · rw [List.nil_append]
    have hs := sts_of ws now
    have hlk := (commit_good h h48).2.symm
    refine ⟨by rw [hs.len]; omega, ?_, fun n P m R hn hm => ?_⟩
    · rw [left_all _ (fun _ => rfl) (fun i hi hk => stq_in h hs h48 hi hk), all_stores]
    · have st := stop_left h hs h48 n P
      obtain ⟨a, b, o1, o2, hc⟩ := stop_twice h h48 st m hm R
      refine ⟨a, b, o1, o2, hc.imp id (fun ⟨p, q⟩ => ⟨p.trans hlk, q.trans hlk⟩)⟩
theorem left_U {ws : List Int} {l : List St} {last : Nat} {P : Nat → Bool} (hu : ∀ z ∈ ws, U z) (hv : ∀ i, U (stq l i).v) : ∀ n, ∀ z ∈ leftW ws l last P n, U z
  | 0 => hu
  | n + 1 => by
    unfold leftW
    split
    · exact set_U (left_U hu hv n) (hv n)
    · exact left_U hu hv n
theorem stq_none (i : Nat) : U (stq [] i).v := by
  unfold stq
  simp
  unfold U
  omega
theorem stq_U {l : List St} (h : ∀ s ∈ l, U s.v) (i : Nat) : U (stq l i).v := by
  unfold stq
  by_cases hi : i < l.length
  · simp only [List.getD, List.getElem?_eq_getElem hi]
    exact h _ (List.getElem_mem hi)
  · simp only [List.getD, List.getElem?_eq_none (show l.length ≤ i by omega)]
    show U 0
    unfold U
    omega
theorem puts_U {rs : List (Int × Int)} (h : ∀ r ∈ rs, U r.2) : ∀ s ∈ putsSt rs, U s.v := fun s hs => by
  simp only [putsSt, List.mem_map] at hs
  obtain ⟨r, hr, rfl⟩ := hs
  exact h r hr
theorem commit_stq_U {ws now : List Int} (h : HW ws now) (hn : ∀ z ∈ now, U z) (h48 : (recsOf ws (nextS now)).length ≤ 48) (i : Nat) : U (stq (pcommitSt ws now) i).v := by
  have hL := h.gw.len
  have hr : ∀ r ∈ recsOf ws (nextS now), U r.1 ∧ U r.2 := fun r hr => by
    obtain ⟨q, e1, _, e3, e4⟩ := recs_out h r hr
    rw [e1, e4]
    exact ⟨by unfold U; omega, wd_U (nextS_U hn) q⟩
  refine stq_U (fun s hs => ?_) i
  unfold pcommitSt enterSt carrySt at hs
  simp only [List.mem_append, List.mem_cons, List.not_mem_nil, or_false] at hs
  rcases hs with (hs | rfl | rfl | rfl | rfl) | (hs | rfl | rfl | rfl)
  · refine puts_U (fun r hr' => ?_) s hs
    obtain ⟨j, _, rfl⟩ := logPs_mem.1 hr'
    exact wd_U (flatR_U hr) j
  · exact sumL_U _
  · unfold U; simp only; omega
  · unfold U; simp only; omega
  · unfold U; simp only; omega
  · exact puts_U (fun r hr' => (hr r hr').2) s hs
  · unfold U; simp only; omega
  · unfold U; simp only; omega
  · unfold U; simp only; omega
theorem open_stq_U {im : List Int} (hu : ∀ z ∈ im, U z) (i : Nat) : U (stq (openSt im) i).v := by
  refine stq_U (fun s hs => ?_) i
  unfold openSt at hs
  split at hs
  · cases hs
  · simp only [List.mem_append, List.mem_cons, List.not_mem_nil, or_false, putsS, List.mem_map] at hs
    rcases hs with ((⟨j, _, rfl⟩ | rfl) | rfl) | rfl
    · exact wd_U hu _
    · unfold U; simp only; omega
    · unfold U; simp only; omega
    · unfold U; simp only; omega
theorem stopped_U {ws now ws' now' : List Int} {sts' : List St} (h : HW ws now) (hn : ∀ z ∈ now, U z) (hc : CommitR ws now [] ws' now' sts') (i : Nat) : U (stq sts' i).v := by
  rcases hc with ⟨_, _, _, rfl⟩ | ⟨_, _, _, _, rfl⟩ | ⟨_, h48, _, _, rfl⟩
  · exact stq_none i
  · exact stq_none i
  · rw [List.nil_append]
    exact commit_stq_U h hn h48 i
theorem bits_all (i : Nat) : decide (bits .and .i64 (-1 / 2 ^ (i % 60)) 1 = 1) = true := by
  have h : (-1 : Int) / 2 ^ (i % 60) = -1 := by
    have hp : (0 : Int) < 2 ^ (i % 60) := Int.pow_pos (by omega)
    exact Int.ediv_eq_neg_one_of_neg_of_le (by omega) (by omega)
  rw [h]
  decide
end Go.Proofs.YtbagcjlimdilpaaGreat
