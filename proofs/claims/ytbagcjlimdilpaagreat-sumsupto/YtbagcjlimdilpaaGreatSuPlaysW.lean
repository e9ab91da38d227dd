/- The walk of 'plays' and of the law Sums, over any script that lies in memory. -/
import Derived.Test.YtbagcjlimdilpaaGreatSuStepW
namespace Go.Proofs.YtbagcjlimdilpaaGreat
open Go.RowKit

theorem inv_start (w : World) : Inv w.heap.size w.heap.size 0 (w.alloc (.cells #[.slice none 0 0, .slice none 0 0, .int .i64 0, .slice none 0 0, .slice none 0 0, .slice none 0 0] 88)) :=
  ⟨.slice none 0 0, 0, [], .slice none 0 0, [], ⟨Go.Deep.blk_alloc_new w _, World.ownsRow_nil _ _ _ _, World.ownsRow_nil _ _ _ _, fun e he => absurd he (by simp), by omega, Nat.le_refl _, Nat.le_refl _⟩⟩

theorem first_step (w : World) :
    Calls Tryz.prog 42 #[.pointer (some ⟨w.heap.size, 0, none⟩), .agg #[.int .i64 1, .int .i64 0, .int .i64 4, .int .i64 0, .int .u64 0, .slice none 0 0]] (w.alloc (.cells #[.slice none 0 0, .slice none 0 0, .int .i64 0, .slice none 0 0, .slice none 0 0, .slice none 0 0] 88))
      fun e w' => e = .returned (.bool true) ∧ Below w.heap.size w w' ∧ ∃ c', c' ≤ 1 ∧ Inv w.heap.size w.heap.size c' w' :=
  (step_low w.heap.size w.heap.size 0 1 0 4 0 0 none 0 [] _ (by omega) (inv_start w) (by omega) (by decide) (rowU_nil _ _)).mono (by
    rintro e w' ⟨rfl, hb, c', hc, hI⟩
    exact ⟨rfl, (((Fr.refl New w).alloc _).below (Nat.le_refl _) (fun _ _ h => h)).trans hb, c', by omega, hI⟩)

set_option maxHeartbeats 400000 in
set_option maxRecDepth 1000000 in
theorem plays_low (a0 : Option Addr) (cap : Nat) (ops : List OpD) (w : World) (hlen : ops.length ≤ 1048576) (ha : 0 < ops.length → ∃ sb so, a0 = some ⟨sb, so, none⟩ ∧ Script w sb so ops) :
    Calls Tryz.prog 14 #[.slice a0 ops.length cap, .int .i64 2] w fun e w' => e = .returned (.bool true) ∧ Below w.heap.size w w' := by
  go_enter Tryz.func14, Tryz.ntmps14
  go_wp2_with (first
    | (go_at_call 42; refine (first_step w).mono ?_; rintro e w1 ⟨rfl, hb1, c1, hc1, hI1⟩)
    | fail)
  go_loopw [6, 11] (fun t i wr => ∃ k c : Nat, k ≤ ops.length ∧ t = .bool true ∧ i = .int .i64 k ∧ c ≤ k + 1 ∧ Inv w.heap.size w.heap.size c wr ∧ Below w.heap.size w wr) (fun _ i _ => ops.length - (intOf i).toNat)
  case atStart => exact ⟨0, c1, Nat.zero_le _, rfl, rfl, hc1, hI1, hb1⟩
  case round =>
    obtain ⟨k, c, hk, rfl, rfl, hck, hI, hb⟩ := hrel
    clear hI1 hb1 hc1
    by_cases hlt : k < ops.length
    · have hd : decide ((k : Int) < (ops.length : Int)) = true := by simp; omega
      obtain ⟨sb, so, rfl, hS⟩ := ha (by omega)
      obtain ⟨hE, hz, hr⟩ := hS k hlt
      obtain ⟨o, ho⟩ : ∃ o, o = ops[k] := ⟨_, rfl⟩
      rw [← ho] at hE hz hr
      clear ho hS ha
      have hrw := rowU_below hb hr
      have hE' : ∀ j, j < 6 → wr.cell? ⟨sb, so + k * 6 + j, none⟩ = o.cells[j]? := fun j hj => by
        have h6 := hE j hj
        have hs : ∃ v, o.cells[j]? = some v := by
          have : j < o.cells.length := by simpa [OpD.cells] using hj
          exact ⟨_, List.getElem?_eq_getElem this⟩
        obtain ⟨v, hv⟩ := hs
        rw [hv] at h6 ⊢
        exact (hb.cell (World.block_lt_of_cell? w _ h6)).trans h6
      obtain ⟨ok, oA, oD, oC, oV, oa, oc, oz⟩ := o
      have e0 := hE' 0 (by omega)
      have e1 := hE' 1 (by omega)
      have e2 := hE' 2 (by omega)
      have e3 := hE' 3 (by omega)
      have e4 := hE' 4 (by omega)
      have e5 := hE' 5 (by omega)
      clear hE hE' hr
      simp only [OpD.cells, List.getElem?_cons_zero, List.getElem?_cons_succ, Nat.add_zero] at e0 e1 e2 e3 e4 e5 hz hrw
      by_cases hk2 : ok ≤ 2
      · go_wp2_with (first
          | (go_at_call 42; refine (step_low w.heap.size w.heap.size c ok oA oD oC oV oa oc oz wr hk2 hI (by omega) hz hrw).mono ?_; rintro e w2 ⟨rfl, hb2, c2, hc2, hI2⟩)
          | (go_at_call 43; refine (looks_inv w.heap.size w.heap.size c2 w2 hI2 (by omega)).mono ?_; rintro e w3 ⟨rfl, hb3, hI3⟩)
          | fail)
        go_roundw
        case rel => exact ⟨k + 1, c2, by omega, rfl, by go_num, by omega, hI3, (hb.trans hb2).trans hb3⟩
        case measure => simp [intOf]; omega
      · go_wp2
        go_roundw
        case rel => exact ⟨k + 1, c, by omega, rfl, by go_num, by omega, hI, hb⟩
        case measure => simp [intOf]; omega
    · have hd : decide ((k : Int) < (ops.length : Int)) = false := by simp; omega
      obtain ⟨vws, nw, xs, vb, es, P⟩ := hI
      obtain ⟨hcb, hzb⟩ := block_cells P.bk
      obtain ⟨aw, cw, rfl⟩ := own_slice P.ws
      by_cases hw0 : 0 < nw
      · have hd2 : decide ((0 : Int) < (nw : Int)) = true := by simp; omega
        go_wp2
        refine wp_loop_rounds 1 ?_
        rw [rounds_succ]
        go_wp2
        refine wp_loop_rounds 1 ?_
        rw [rounds_succ]
        go_wp2
        go_ret
        exact ⟨rfl, hb⟩
      · have hd2 : decide ((0 : Int) < (nw : Int)) = false := by simp; omega
        go_wp2
        refine wp_loop_rounds 1 ?_
        rw [rounds_succ]
        go_wp2
        refine wp_loop_rounds 1 ?_
        rw [rounds_succ]
        go_wp2
        go_ret
        exact ⟨rfl, hb⟩

theorem sums_walk (a0 : Option Addr) (cap : Nat) (ops : List OpD) (w : World) (hlen : ops.length ≤ 1048576) (ha : 0 < ops.length → ∃ sb so, a0 = some ⟨sb, so, none⟩ ∧ Script w sb so ops) :
    Calls Tryz.prog 3 #[.slice a0 ops.length cap] w fun e w' => e = .returned (.bool true) ∧ Below w.heap.size w w' := by
  go_enter Tryz.func3, Tryz.ntmps3
  go_wp2_with (go_at_call 14; refine (plays_low a0 cap ops w hlen ha).mono ?_; rintro e w1 ⟨rfl, hb⟩)
  go_ret
  exact ⟨rfl, hb⟩
end Go.Proofs.YtbagcjlimdilpaaGreat
