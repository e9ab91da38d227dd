/- The walk of 'plays' and of the law Checks, over any script that lies in memory. -/
import Derived.Test.YtekdicppkeldoaaGreatPlainF
import Derived.Test.YtekdicppkeldoaaGreatPlaysW
import Derived.Deep.QuietTactic
namespace Go.Proofs.YtekdicppkeldoaaGreat
open Go.RowKit

theorem inv2_start (w : World) : Inv2 w.heap.size w.heap.size 0 (w.alloc (.cells #[.slice none 0 0, .slice none 0 0, .int .i64 0, .slice none 0 0, .slice none 0 0, .slice none 0 0] 34)) :=
  ⟨.slice none 0 0, 0, [], .slice none 0 0, [], ⟨Go.Deep.blk_alloc_new w _, World.ownsRow_nil _ _ _ _, World.ownsRow_nil _ _ _ _, fun e he => absurd he (by simp), by omega, Nat.le_refl _, Nat.le_refl _⟩, fun v hv => by simp at hv⟩
theorem looks_inv2 (B b c : Nat) (w : World) (hI : Inv2 B b c w) (hc : c ≤ 1073741824) :
    Calls Tryz.prog 7 #[.pointer (some ⟨b, 2, none⟩)] w fun e w' => e = .returned (.bool true) ∧ Below B w w' ∧ Inv2 B b c w' := by
  obtain ⟨vws, nw, xs, vb, es, P, I⟩ := hI
  refine (looks_true b c vws _ vb es B w P.bk P.own (by have := P.les; omega) P.good).mono ?_
  rintro e w' ⟨rfl, hf⟩
  exact ⟨rfl, hf.below P.size (fun _ _ h => h), _, _, _, _, _, P.fr hf, I.new hf⟩
theorem ok_plain (A : Int) (h0 : -9223372036854775808 ≤ A) (h1 : A ≤ 9223372036854775807) : OpOk A 0 0 [] := ⟨h0, h1, by decide, by decide, U_zero, by decide, fun z hz => by cases hz⟩
theorem step_bare (B b c : Nat) (k A D : Int) (w : World) (hk : k ≤ 5) (h0 : -9223372036854775808 ≤ A) (h1 : A ≤ 9223372036854775807) (hI : Inv2 B b c w) (hc : c ≤ 1073741823) :
    Calls Tryz.prog 6 #[.pointer (some ⟨b, 0, none⟩), .agg #[.int .i64 k, .int .i64 A, .int .i64 D, .int .i64 0, .int .u64 0, .slice none 0 0]] w fun e w' => e = .returned (.bool true) ∧ Below B w w' ∧ ∃ c', c' ≤ c + 1 ∧ Inv2 B b c' w' :=
  step_five B b c k A D 0 0 none 0 [] w hk hI hc (ok_plain A h0 h1) (rowU_nil _ _)
theorem first2 (w : World) :
    Calls Tryz.prog 6 #[.pointer (some ⟨w.heap.size, 0, none⟩), .agg #[.int .i64 1, .int .i64 0, .int .i64 4, .int .i64 0, .int .u64 0, .slice none 0 0]] (w.alloc (.cells #[.slice none 0 0, .slice none 0 0, .int .i64 0, .slice none 0 0, .slice none 0 0, .slice none 0 0] 34))
      fun e w' => e = .returned (.bool true) ∧ Below w.heap.size w w' ∧ ∃ c', c' ≤ 1 ∧ Inv2 w.heap.size w.heap.size c' w' :=
  (step_bare w.heap.size w.heap.size 0 1 0 4 _ (by omega) (by decide) (by decide) (inv2_start w) (by omega)).mono (by
    rintro e w' ⟨rfl, hb, c', hc, hI⟩
    exact ⟨rfl, (((Fr.refl New w).alloc _).below (Nat.le_refl _) (fun _ _ h => h)).trans hb, c', by omega, hI⟩)

/-- a script, with its numbers -/
def Script2 (w : World) (sb so : Nat) (ops : List OpD) : Prop := Script w sb so ops ∧ ∀ i (h : i < ops.length), OpOk (ops[i]).A (ops[i]).C (ops[i]).V (ops[i]).zs

set_option maxHeartbeats 4000000 in
set_option maxRecDepth 1000000 in
theorem plays_five (a0 : Option Addr) (cap : Nat) (ops : List OpD) (w : World) (hlen : ops.length ≤ 1048576) (ha : 0 < ops.length → ∃ sb so, a0 = some ⟨sb, so, none⟩ ∧ Script2 w sb so ops) :
    Calls Tryz.prog 5 #[.slice a0 ops.length cap, .int .i64 5] w fun e w' => e = .returned (.bool true) ∧ Below w.heap.size w w' := by
  go_enter Tryz.func5, Tryz.ntmps5
  go_wp2_with (first
    | (go_at_call_of 6 (Value.int IntKind.i64 5); refine (step_bare w.heap.size w.heap.size c2 5 0 0 w2 (by omega) (by decide) (by decide) hI2 (by omega)).mono ?_; rintro e w3 ⟨rfl, hb3, c3, hc3, hI3⟩)
    | (go_at_call_of 6 (Value.int IntKind.i64 1); refine (first2 w).mono ?_; rintro e w1 ⟨rfl, hb1, c1, hc1, hI1⟩)
    | (go_at_call_of 6 (Value.int IntKind.i64 4); refine (step_bare w.heap.size w.heap.size c1 4 0 0 w1 (by omega) (by decide) (by decide) hI1 (by omega)).mono ?_; rintro e w2 ⟨rfl, hb2, c2, hc2, hI2⟩)
    | fail)
  go_loopw [6, 11] (fun t i wr => ∃ k c : Nat, k ≤ ops.length ∧ t = .bool true ∧ i = .int .i64 k ∧ c ≤ k + 3 ∧ Inv2 w.heap.size w.heap.size c wr ∧ Below w.heap.size w wr) (fun _ i _ => ops.length - (intOf i).toNat)
  case atStart => exact ⟨0, c3, Nat.zero_le _, rfl, rfl, by omega, hI3, (hb1.trans hb2).trans hb3⟩
  case round =>
    obtain ⟨k, c, hk, rfl, rfl, hck, hI, hb⟩ := hrel
    clear hI1 hb1 hc1 hI2 hb2 hc2 hI3 hb3 hc3
    by_cases hlt : k < ops.length
    · have hd : decide ((k : Int) < (ops.length : Int)) = true := by simp; omega
      obtain ⟨sb, so, rfl, hS, hOK⟩ := ha (by omega)
      obtain ⟨hE, hz, hr⟩ := hS k hlt
      have hok := hOK k hlt
      obtain ⟨o, ho⟩ : ∃ o, o = ops[k] := ⟨_, rfl⟩
      rw [← ho] at hE hz hr hok
      clear ho hS ha hOK
      have hrw := rowU_below hb hr
      have hE' : ∀ j, j < 6 → wr.cell? ⟨sb, so + k * 6 + j, none⟩ = o.cells[j]? := fun j hj => by
        have h6 := hE j hj
        have hs : ∃ v, o.cells[j]? = some v := by
          have : j < o.cells.length := by simpa [OpD.cells] using hj
          exact ⟨_, List.getElem?_eq_getElem this⟩
        obtain ⟨v, hv⟩ := hs
        rw [hv] at h6 ⊢
        exact (hb.cell (World.block_lt_of_cell? w _ h6)).trans h6
      obtain ⟨ok, oA, oD, oC, oV, oa, oc, oz⟩ := o
      have e0 := hE' 0 (by omega)
      have e1 := hE' 1 (by omega)
      have e2 := hE' 2 (by omega)
      have e3 := hE' 3 (by omega)
      have e4 := hE' 4 (by omega)
      have e5 := hE' 5 (by omega)
      clear hE hE' hr
      simp only [OpD.cells, List.getElem?_cons_zero, List.getElem?_cons_succ, Nat.add_zero] at e0 e1 e2 e3 e4 e5 hz hrw hok
      have HOK : Hid (OpOk oA oC oV oz) := hok
      clear hok
      by_cases hk2 : ok ≤ 5
      · go_wp2_with (first
          | (go_at_call 6; refine (step_five w.heap.size w.heap.size c ok oA oD oC oV oa oc oz wr hk2 hI (by omega) HOK.out hrw).mono ?_; rintro e w2 ⟨rfl, hb2, c2, hc2, hI2⟩)
          | (go_at_call 7; refine (looks_inv2 w.heap.size w.heap.size c2 w2 hI2 (by omega)).mono ?_; rintro e w3 ⟨rfl, hb3, hI3⟩)
          | fail)
        go_roundw
        case rel => exact ⟨k + 1, c2, by omega, rfl, by go_num, by omega, hI3, (hb.trans hb2).trans hb3⟩
        case measure => simp [intOf]; omega
      · go_wp2
        go_roundw
        case rel => exact ⟨k + 1, c, by omega, rfl, by go_num, by omega, hI, hb⟩
        case measure => simp [intOf]; omega
    · have hd : decide ((k : Int) < (ops.length : Int)) = false := by simp; omega
      have hc0 : c ≤ 1048579 := by omega
      clear ha
      go_wp2
      go_loopg [6, 13] 13 (fun gh t i wr => ∃ k c : Nat, k ≤ 12 ∧ gh = 13 - k ∧ t = .bool true ∧ i = .int .i64 k ∧ c ≤ 1048579 + 2 * k ∧ Inv2 w.heap.size w.heap.size c wr ∧ Below w.heap.size w wr)
      case atStart => exact ⟨0, c, by omega, rfl, rfl, rfl, by omega, hI, hb⟩
      case round =>
        clear hI hb hc0 hck
        obtain ⟨k2, c, hk12, rfl, rfl, rfl, hck, hI, hb⟩ := hrel
        have HI0 : Hid (Inv2 w.heap.size w.heap.size c wr) := hI
        obtain ⟨vws, nw, xs, vb, es, P, I⟩ := hI
        have hfew := P.few
        obtain ⟨hcb, hzb⟩ := block_cells P.bk
        obtain ⟨aw, cw, rfl⟩ := own_slice P.ws
        clear P I
        by_cases hw0 : k2 < nw
        · have hd2 : decide ((k2 : Int) < (nw : Int)) = true := by simp; omega
          go_wp2_with (first
            | (go_at_call_of 6 (Value.int IntKind.i64 5); refine (step_bare w.heap.size w.heap.size c2 5 k2 0 w2 (by omega) (by omega) (by omega) hI2 (by omega)).mono ?_; rintro e w3 ⟨rfl, hb3, c3, hc3, hI3⟩)
            | (go_at_call_of 6 (Value.int IntKind.i64 4); refine (step_bare w.heap.size w.heap.size c 4 k2 0 wr (by omega) (by omega) (by omega) HI0.out (by omega)).mono ?_; rintro e w2 ⟨rfl, hb2, c2, hc2, hI2⟩)
            | fail)
          go_roundg (13 - (k2 + 1))
          case measure => omega
          case rel => exact ⟨k2 + 1, c3, by omega, rfl, rfl, by go_num, by omega, hI3, (hb.trans hb2).trans hb3⟩
        · have hd2 : decide ((k2 : Int) < (nw : Int)) = false := by simp; omega
          go_wp2
          refine wp_loop_rounds 1 ?_
          rw [rounds_succ]
          go_wp2
          go_ret
          exact ⟨rfl, hb⟩

theorem checks_walk (a0 : Option Addr) (cap : Nat) (ops : List OpD) (w : World) (hlen : ops.length ≤ 1048576) (ha : 0 < ops.length → ∃ sb so, a0 = some ⟨sb, so, none⟩ ∧ Script2 w sb so ops) :
    Calls Tryz.prog 4 #[.slice a0 ops.length cap] w fun e w' => e = .returned (.bool true) ∧ Below w.heap.size w w' := by
  go_enter Tryz.func4, Tryz.ntmps4
  go_wp2_with (go_at_call 5; refine (plays_five a0 cap ops w hlen ha).mono ?_; rintro e w1 ⟨rfl, hb⟩)
  go_ret
  exact ⟨rfl, hb⟩
end Go.Proofs.YtekdicppkeldoaaGreat
