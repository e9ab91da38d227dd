/- What a story is behind an object that is freed. -/
import Derived.Test.YtbagcjlimdilpabGreatKtJ18
import Derived.Test.YtbagcjlimdilpabGreatKtPhB
namespace Go.Proofs.YtbagcjlimdilpabGreat
open Go.RowKit Go.Maps

theorem wd_objW {now : List Int} {o : Ob} {p : Nat} (hp : p < 8 * o.span - 1) : wd (objW now o) p = wd now (pl o p) := by
  unfold wd objW
  simp [List.getD, hp]
  rfl
theorem held_iff {now : List Int} {x : Int} : ((∃ k, k < 4 ∧ root4 (wd now 3) (wd now 4) (wd now 5) (wd now 6) k = x) ∨ ThHeld (things now) x (things now).length) ↔ HeldBy now (objs now) x := by
  have hroot : ∀ k, k < 4 → root4 (wd now 3) (wd now 4) (wd now 5) (wd now 6) k = wd now (3 + k) := fun k hk => by
    match k, hk with
    | 0, _ => rfl
    | 1, _ => rfl
    | 2, _ => rfl
    | 3, _ => rfl
  unfold HeldBy
  refine or_congr ?_ ?_
  · exact exists_congr fun k => and_congr_right fun hk => by rw [hroot k hk]
  · unfold ThHeld
    constructor
    · rintro ⟨j, hj, _, p, hp, e⟩
      obtain ⟨hj', e2⟩ := things_at hj
      rw [e2] at hp e
      simp only at hp e
      have hoi := objs_in (List.getElem_mem hj')
      rw [wd_objW (by omega)] at e
      exact ⟨j, hj', p, hp, e⟩
    · rintro ⟨j, hj', p, hp, e⟩
      have hj : j < (things now).length := by rw [things_len]; exact hj'
      obtain ⟨_, e2⟩ := things_at hj
      have hoi := objs_in (List.getElem_mem hj')
      refine ⟨j, hj, hj, p, by rw [e2]; exact hp, ?_⟩
      rw [e2]
      simp only
      rw [wd_objW (by omega)]
      exact e
/-- one thing less -/
theorem ThAt.remove {w w' : World} {v v' : Value} {l : List Th} {us : List Value} {K : Nat} (h : ThAt w v l us) (hf : Fr New w w') (hK : K < l.length)
    (ho : w'.ownsRow 0 53 4 v' (l.length - 1) (ktCells (l.take K ++ l.drop (K + 1)) (us.take K ++ us.drop (K + 1)))) :
    ThAt w' v' (l.take K ++ l.drop (K + 1)) (us.take K ++ us.drop (K + 1)) := by
  have hul := h.len
  have hlen : (l.take K ++ l.drop (K + 1)).length = l.length - 1 := by simp; omega
  refine ⟨by rw [hlen]; exact ho, by simp; omega, fun i hi hv => ?_, fun y hy => ?_, ?_, by have := h.n; omega⟩
  · rcases Nat.lt_or_ge i K with hiK | hiK
    · have e1 : (l.take K ++ l.drop (K + 1))[i] = l[i]'(by omega) := by rw [List.getElem_append_left (by simp; omega), List.getElem_take]
      have e2 : (us.take K ++ us.drop (K + 1))[i] = us[i]'(by omega) := by rw [List.getElem_append_left (by simp; omega), List.getElem_take]
      rw [e1, e2]
      exact hf.owns (h.rows i (by omega) (by omega)) (fun _ _ h => h)
    · obtain ⟨j, rfl⟩ : ∃ j, i = K + j := ⟨i - K, by omega⟩
      have e1 : (l.take K ++ l.drop (K + 1))[K + j] = l[K + 1 + j]'(by rw [hlen] at hi; omega) := by
        rw [List.getElem_append_right (by simp; omega)]
        simp only [List.length_take, show min K l.length = K by omega, show K + j - K = j by omega, List.getElem_drop]
      have e2 : (us.take K ++ us.drop (K + 1))[K + j] = us[K + 1 + j]'(by rw [hlen] at hi; omega) := by
        rw [List.getElem_append_right (by simp; omega)]
        simp only [List.length_take, show min K us.length = K by omega, show K + j - K = j by omega, List.getElem_drop]
      rw [e1, e2]
      exact hf.owns (h.rows _ (by rw [hlen] at hi; omega) (by rw [hlen] at hi; omega)) (fun _ _ h => h)
  · rcases List.mem_append.1 hy with hy | hy
    · exact h.fit y (List.mem_of_mem_take hy)
    · exact h.fit y (List.mem_of_mem_drop hy)
  · have hap := h.apart
    rw [← List.take_append_drop K us, List.pairwise_append] at hap
    rw [List.pairwise_append]
    refine ⟨hap.1, ?_, fun u hu u' hu' => hap.2.2 u hu u' (List.mem_of_mem_drop (i := 1) (by rw [List.drop_drop]; exact hu'))⟩
    have h2 := hap.2.1
    have := List.Pairwise.sublist (List.drop_sublist 1 (us.drop K)) h2
    rwa [List.drop_drop] at this
theorem freed_things {now r : List Int} {k : Nat} (hk : k < (objs now).length) (h : Freed now r (objs now)[k] ((objs now).take k) ((objs now).drop (k + 1))) : things r = (things now).take k ++ (things now).drop (k + 1) := by
  unfold things
  rw [h.objs, List.map_append, ← List.map_take, ← List.map_drop]
  congr 1
  · exact List.map_congr_left (fun x hx => by rw [h.words x (List.mem_append_left _ hx)])
  · exact List.map_congr_left (fun x hx => by rw [h.words x (List.mem_append_right _ hx)])
theorem free_end {F : Nat → Prop} {sb n hb tb cb mb g : Nat} {vs vn vk : Value} {un uk : List Value} {ws now r : List Int} {sts : List St} {w wr w1 w6 : World} {k : Nat} {v6 : Value}
    (S : Sty sb n hb tb cb mb g vs vn vk un uk ws now sts w) (hF : ∀ k, Foot sb hb tb cb mb g vs vn vk un uk k → F k) (hf : Fr New w wr) (hk : k < (objs now).length) (hA : Freed now r (objs now)[k] ((objs now).take k) ((objs now).drop (k + 1))) (hfr : Fr (fun k => k = mb) wr w1) (hph : PH hb tb cb mb g vs ws r sts w1)
    (hf6 : Fr New w1 w6) (ho : w6.ownsRow w1.heap.size 53 4 v6 ((things now).length - 1) (ktCells ((things now).take k ++ (things now).drop (k + 1)) (un.take k ++ un.drop (k + 1)))) :
    ∃ F', Story F' sb n ws r sts (w6.setCell ⟨sb, 2, none⟩ v6) ∧ Fr F w (w6.setCell ⟨sb, 2, none⟩ v6) ∧ ∀ k, F' k → F k ∨ w.heap.size ≤ k := by
  obtain ⟨n1, n2, n3⟩ := (S.new hf).next hfr hph
  have hb6 := hf6.heap n1 id
  have hst : Fr (fun k => k = sb) w6 (w6.setCell ⟨sb, 2, none⟩ v6) := (Fr.refl (fun k => k = sb) w6).setCell (p := ⟨sb, 2, none⟩) (fun _ => rfl) _
  have hsz : w.heap.size ≤ w1.heap.size := Nat.le_trans hf.size hfr.size
  have hth := freed_things hk hA
  have hT6 : ThAt w6 v6 (things r) (un.take k ++ un.drop (k + 1)) := by
    rw [hth]
    exact n2.remove hf6 (by rw [things_len]; exact hk) (own_le ho (Nat.zero_le _))
  have hmem : ∀ u ∈ un.take k ++ un.drop (k + 1), u ∈ un := fun u hu => by
    rcases List.mem_append.1 hu with hu | hu
    · exact List.mem_of_mem_take hu
    · exact List.mem_of_mem_drop hu
  refine ⟨Foot sb hb tb cb mb g vs v6 vk (un.take k ++ un.drop (k + 1)) uk, ⟨hb, tb, cb, mb, g, vs, v6, vk, _, uk, ⟨?_, (hph.new hf6).story hb6 hst, S.hw.to hA.good hA.len (fun q _ h2 => hA.head q h2), hT6.story hb6 hst, (n3.new hf6).story hb6 hst, S.n, fun u hu => S.gn u (hmem u hu), S.gk, fun u hu => S.nk u (hmem u hu)⟩, fun k hk => hk⟩, ?_, fun j hj => ?_⟩
  · rw [heap_setCell_same _ _ 2 _ _ _ hb6]
    unfold stArr
    rw [hA.head 3 (by omega), hA.head 4 (by omega), hA.head 5 (by omega), hA.head 6 (by omega)]
    rfl
  · have h1 : Fr F w w1 := (hf.mono (fun _ _ h => h.elim)).trans hfr (fun j _ e => by subst e; exact hF _ (.inr (.inr (.inr (.inr (.inl rfl))))))
    exact (h1.same hf6).trans hst (fun j _ e => by subst e; exact hF _ (.inl rfl))
  · rcases hj with hk | hk | hk | hk | hk | hk | hk | hk | hk
    · exact .inl (hF j (.inl hk))
    · exact .inl (hF j (.inr (.inl hk)))
    · exact .inl (hF j (.inr (.inr (.inl hk))))
    · exact .inl (hF j (.inr (.inr (.inr (.inl hk)))))
    · exact .inl (hF j (.inr (.inr (.inr (.inr (.inl hk))))))
    · exact .inl (hF j (.inr (.inr (.inr (.inr (.inr (.inl hk)))))))
    · exact .inl (hF j (.inr (.inr (.inr (.inr (.inr (.inr (.inl hk))))))))
    · rcases hk with hk | ⟨u, hu, hk⟩
      · have := (own_block ho hk).1
        exact .inr (by omega)
      · exact .inl (hF j (.inr (.inr (.inr (.inr (.inr (.inr (.inr (.inl (.inr ⟨u, hmem u hu, hk⟩))))))))))
    · exact .inl (hF j (.inr (.inr (.inr (.inr (.inr (.inr (.inr (.inr hk)))))))))
/-- what Free answers, of a thing -/
theorem free_is {now r : List Int} {k : Nat} {c : Int} (g : Good now) (hk : k < (objs now).length) (h : FreeIs now ((((objs now)[k]).block + 1 : Nat) : Int) r c) :
    (HeldBy now (objs now) ((((objs now)[k]).block + 1 : Nat) : Int) ∧ r = now ∧ c = 10) ∨ (¬ HeldBy now (objs now) ((((objs now)[k]).block + 1 : Nat) : Int) ∧ Freed now r (objs now)[k] ((objs now).take k) ((objs now).drop (k + 1)) ∧ c = 0) := by
  have hx : idx (objs now) (((objs now)[k].block + 1 : Nat) : Int) = some k := idx_at (objs_asc now) hk (by rw [hnd_eq hk])
  rcases h with ⟨h, _⟩ | ⟨_, h1, h2, h3⟩ | ⟨k', hk', h1, h2, h3, h4⟩
  · rw [hx] at h; cases h
  · exact .inl ⟨h1, h2, h3⟩
  · rw [hx] at h1
    cases h1
    exact .inr ⟨h2, free_good g hk' h2 h3, h4⟩
end Go.Proofs.YtbagcjlimdilpabGreat

