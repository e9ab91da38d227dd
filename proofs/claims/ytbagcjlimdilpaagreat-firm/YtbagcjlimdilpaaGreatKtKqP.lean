/- The walk of at: the thing with a handle. -/
import Derived.Test.YtbagcjlimdilpaaGreatKtJ17
namespace Go.Proofs.YtbagcjlimdilpaaGreat
open Go.RowKit Go.Maps

set_option maxHeartbeats 1000000 in
set_option maxRecDepth 100000 in
theorem kat_any (v : Value) (l : List Th) (us : List Value) (r0 r1 r2 r3 x : Int) (w : World) (ht : ThAt w v l us) :
    Calls Tryz.prog 27 #[shV v r0 r1 r2 r3, .int .u64 x] w fun e w' => e = .returned (.int .i64 (findI (l.map Prod.fst) x)) ∧ Fr New w w' := by
  have HT : Hid (∀ wr, Fr New w wr → ThAt wr v l us) := fun wr hf => ht.new hf
  have hl32 := ht.n
  have HFIT : Hid (∀ y ∈ l, y.2.length = 8 * y.1.span - 1 ∧ 1 ≤ y.1.span ∧ y.1.span ≤ 4 ∧ y.1.ptrs < 8 * y.1.span ∧ y.1.block < 32) := ht.fit
  obtain ⟨av, cv, rfl⟩ := ht.slice
  clear ht
  go_enter Tryz.func27, Tryz.ntmps27
  go_wp2
  have hsb : (w.alloc (.cells #[.slice av l.length cv, .int .i64 r0, .int .i64 r1, .int .i64 r2, .int .i64 r3] 37)).heap[w.heap.size]? = some (.cells #[.slice av l.length cv, .int .i64 r0, .int .i64 r1, .int .i64 r2, .int .i64 r3] 37 (0, 0)) := Go.Deep.blk_alloc_new w _
  have hf1 : Fr New w (w.alloc (.cells #[.slice av l.length cv, .int .i64 r0, .int .i64 r1, .int .i64 r2, .int .i64 r3] 37)) := (Fr.refl New w).alloc _
  obtain ⟨w1, hw1⟩ : ∃ w1, w1 = w.alloc (.cells #[.slice av l.length cv, .int .i64 r0, .int .i64 r1, .int .i64 r2, .int .i64 r3] 37) := ⟨_, rfl⟩
  obtain ⟨sb, hsbe⟩ : ∃ sb, sb = w.heap.size := ⟨_, rfl⟩
  rw [← hw1, ← hsbe] at hsb
  rw [← hw1] at hf1
  rw [← hw1, ← hsbe]
  have HF1 : Hid (Fr New w w1) := hf1
  have hc0 : w1.cell? ⟨sb, 0, none⟩ = some (.slice av l.length cv) := ((block_cells hsb).1 0).trans rfl
  have HT1 : Hid (ThAt w1 (.slice av l.length cv) l us) := HT.out w1 hf1
  clear hw1 hsbe hsb hf1 HT
  go_loopg [5] l.length (fun gh t wq => ∃ i : Nat, i ≤ l.length ∧ gh = l.length - i ∧ t = .int .i64 i ∧ wq = w1 ∧ ∀ j (hj : j < l.length), j < i → (((l[j]).1.block + 1 : Nat) : Int) ≠ x)
  case atStart => exact ⟨0, by omega, rfl, rfl, rfl, fun j hj h => by omega⟩
  case round =>
    obtain ⟨i, hil, rfl, rfl, hwr, hno⟩ := hrel
    subst hwr
    have HNO : Hid (∀ j (hj : j < l.length), j < i → (((l[j]).1.block + 1 : Nat) : Int) ≠ x) := hno
    clear hno
    by_cases hi : i < l.length
    · have hd0 : decide ((i : Int) < (l.length : Int)) = true := by simp; omega
      obtain ⟨g2, cg2, gi2, ci2, hv2, hg2, d0, _, _, _, _, _, _, _⟩ := HT1.out.at' i hi
      cases hv2
      have hfi := (HFIT.out l[i] (List.getElem_mem _)).2.2.2.2
      obtain ⟨B, hB⟩ : ∃ B : Nat, B = (l[i]).1.block + 1 := ⟨_, rfl⟩
      rw [← hB] at d0
      have HB : Hid (B = (l[i]).1.block + 1) := hB
      have hB32 : B ≤ 32 := by omega
      have hwB : IntKind.u64.wrap (B : Int) = (B : Int) := by rw [IntKind.wrap_u64]; omega
      clear hB hfi
      by_cases c : (B : Int) = x
      · have hcb : ((B : Int) == x) = true := by simpa using c
        have HR : Hid (findI (l.map Prod.fst) x = (i : Int)) := by
          refine findI_some (idx_first (by simpa using hi) (by rw [List.getElem_map, ← HB.out]; exact c) (fun j hj => ?_))
          rw [List.getElem_map]
          exact HNO.out j (by omega) hj
        clear c
        go_wp2
        go_ret
        rw [HR.out]
        exact ⟨rfl, HF1.out⟩
      · have hcb : ((B : Int) == x) = false := by simpa using c
        go_wp2
        go_roundg (l.length - (i + 1))
        case measure => omega
        case rel => exact ⟨i + 1, by omega, rfl, by go_num, rfl, fun j hj hji => by
          rcases (show j < i ∨ j = i by omega) with h' | rfl
          · exact HNO.out j hj h'
          · rw [← HB.out]; exact c⟩
    · obtain rfl : i = l.length := by omega
      have hd0 : decide ((l.length : Int) < (l.length : Int)) = false := by simp
      have HR : Hid (findI (l.map Prod.fst) x = -1) := findI_none (idx_no (fun j hj => by
        rw [List.getElem_map]
        exact HNO.out j (by simpa using hj) (by simpa using hj)))
      clear hi hil
      go_wp2
      go_ret
      rw [HR.out]
      exact ⟨rfl, HF1.out⟩
end Go.Proofs.YtbagcjlimdilpaaGreat
