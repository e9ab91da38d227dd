/- Walks of the program's Places and Copy of changes. -/
import Derived.Test.YtbagcjlimdilpaaGreatHhShelfK
import Derived.Test.YtbagcjlimdilpaaGreatHhJ12
namespace Go.Proofs.YtbagcjlimdilpaaGreat
open Go.RowKit Go.Maps Go.Sort Go.Shelf

theorem sort_int (m : Nat) : AnyZI.SortsIn Tryz.prog Tryz.sortedA_ren Fence.wide m :=
  ⟨fun blk off cap ss W hH hblk hsz => callsIn_wide.2 (AnyM.slices_Sort_int Tryz.sortA blk off cap ss W hH hblk hsz),
   fun p cap W => callsIn_wide.2 (AnyM.slices_Sort_int_none Tryz.sortA p cap W)⟩
theorem difP_sorted (ws now : List Int) : ((difP ws now).map (fun q : Nat => (q : Int))).Pairwise (fun a b => a ≤ b) := by
  refine List.Pairwise.map _ (fun a b h => Int.ofNat_le.2 h) ?_
  exact List.Pairwise.filter _ (List.Pairwise.imp (fun h => Nat.le_of_lt h) (List.pairwise_lt_range))
theorem sort_keys {w : World} {mb n : Nat} {D : DataW Unit} {ws now : List Int} (h : w.ownsMap Tryz.prog 3 (plainElem Tryz.prog 50) mb n D) (hd : DiffIs D ws now) {ss : List Int} (hs : ss.Perm (intKeys D)) : ss.mergeSort (fun x y => decide (x ≤ y)) = (difP ws now).map (fun q : Nat => (q : Int)) := by
  rw [show ss.mergeSort (fun x y => decide (x ≤ y)) = ((difP ws now).map (fun q : Nat => (q : Int))).mergeSort (fun x y => decide (x ≤ y)) from mergeSort_of_perm_i (hs.trans (keys_perm' h hd).symm)]
  refine List.mergeSort_of_pairwise ?_
  exact (difP_sorted ws now).imp (fun h => by simpa using h)
set_option maxHeartbeats 1000000 in
theorem places_any (cb tb mb : Nat) (ws now : List Int) (w : World) (hc : ChgIs w cb tb mb ws now) (hl : ws.length ≤ 1048576) :
    Calls Tryz.prog 102 #[.pointer (some ⟨cb, 0, none⟩)] w fun e w' => ∃ v, e = .returned v ∧ w'.ownsRow w.heap.size 3 1 v (difP ws now).length ((difP ws now).map (fun q : Nat => Value.int .i64 (q : Int))) ∧ Fr New w w' := by
  have hmp := hc.map
  obtain ⟨D, hown, hd⟩ := hc.mp
  have hsz : Maps.size D ≤ 1048576 := by rw [diff_size hown hd]; have := difP_len ws now; omega
  have HSK : Hid (∀ ss : List Int, ss.Perm (intKeys D) → ss.mergeSort (fun x y => decide (x ≤ y)) = (difP ws now).map (fun q : Nat => (q : Int)) ∧ ss.length = (difP ws now).length) := fun ss hs => ⟨sort_keys hown hd hs, by rw [(hs.trans (keys_perm' hown hd).symm).length_eq, List.length_map]⟩
  refine (callsIn_wide (n := 6)).1 ?_
  have hbl := hown.lt
  have hseq : SeqGives Fence.wide 2 Tryz.prog 155 #[.pointer (some ⟨w.heap.size, 0, none⟩)] encZ (fun ss => ss.Perm (intKeys D)) (Maps.size D) (w.alloc (.cells #[.map (some mb)] 166)) :=
    AnyZI.keys_gives (ρ := Tryz.keysA_ren) { Tryz.keysA with } Fence.wide _ trivial rfl (by omega) w.heap.size mb _ D _ (by simp) (by simp) (by
      obtain ⟨es, clock, hb, Ft, hs, hD⟩ := hown
      exact ⟨es, clock, (Below.heap_alloc _ _ mb hbl).trans hb, Ft, hs, hD⟩)
  have cK : ∀ mb W, CallsIn Fence.wide 5 Tryz.prog 143 #[.map mb] W fun e w' => e = .returned (.func (.func 155) #[] #[.pointer (some ⟨W.heap.size, 0, none⟩)]) ∧ w' = W.alloc (.cells #[.map mb] 166) := fun mb W => AnyZI.keys_in Tryz.keysA Fence.wide 5 trivial rfl mb W
  have cS := AnyZI.sorted_in Tryz.sortedA Fence.wide 5 trivial trivial trivial trivial rfl (by omega) (sort_int _) (enters_of Tryz.func154 (by kernel_rfl) rfl) 155 #[.pointer (some ⟨w.heap.size, 0, none⟩)] trivial (enters_of Tryz.func155 (by kernel_rfl) rfl) _ _ (by unfold maxLen; omega) (by omega) _ hseq
  change CallsIn _ _ Tryz.prog 142 _ _ _ at cS
  have hfK : Fence.wide.fn 143 := trivial
  have hfS : Fence.wide.fn 142 := trivial
  clear hc hown hd hsz
  refine callsIn_of_wp Tryz.func102 rfl trivial ?_ rfl
  simp only [Tryz.ntmps102, List.size_toArray, List.length_cons, List.length_nil, Nat.reduceAdd, Nat.reduceSub, Array.replicate_succ, Array.replicate_zero, List.push_toArray, List.append_toArray, List.nil_append, List.cons_append]
  gi_wp2_with (first
    | (gi_at_call 143; refine (cK _ _).mono ?_; rintro e w' ⟨rfl, rfl⟩)
    | (gi_at_call 142; refine cS.mono ?_; rintro e w' ⟨v, ss, rfl, hS, hrow, hnil, hb⟩))
  go_ret
  obtain ⟨h1, h2⟩ := HSK.out ss hS
  refine ⟨v, rfl, ?_, ?_⟩
  · rw [h1, h2, List.map_map] at hrow
    exact ownsRow_base_a hrow (by simp)
  · exact (Fr.ofBelow (((Below.refl _ w).alloc (Nat.le_refl _) _).trans (hb.mono (by simp)))).mono (fun j hj h => by omega)
end Go.Proofs.YtbagcjlimdilpaaGreat
