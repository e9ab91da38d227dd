/- Texts that follow one another, joined. -/
import Derived.Test.YtbagcjlimdilpaaGreatChPlainF
import Derived.Test.YtbagcjlimdilpaaGreatChJ2
import Derived.Deep.QuietTactic
import Derived.OpenShut
/- The walk of 'plays' and of the law Checks, over any script that lies in memory. -/
namespace Go.Proofs.YtbagcjlimdilpaaGreat
open Go.RowKit

theorem inv2_start (w : World) : Inv2 w.heap.size w.heap.size 0 (w.alloc (.cells #[.slice none 0 0, .slice none 0 0, .int .i64 0, .slice none 0 0, .slice none 0 0, .slice none 0 0] 88)) :=
  ⟨.slice none 0 0, 0, [], .slice none 0 0, [], ⟨Go.Deep.blk_alloc_new w _, World.ownsRow_nil _ _ _ _, World.ownsRow_nil _ _ _ _, fun e he => absurd he (by simp), by omega, Nat.le_refl _, Nat.le_refl _⟩, fun v hv => by simp at hv⟩
theorem looks_inv2 (B b c : Nat) (w : World) (hI : Inv2 B b c w) (hc : c ≤ 1073741824) :
    Calls Tryz.prog 43 #[.pointer (some ⟨b, 2, none⟩)] w fun e w' => e = .returned (.bool true) ∧ Below B w w' ∧ Inv2 B b c w' := by
  obtain ⟨vws, nw, xs, vb, es, P, I⟩ := hI
  refine (looks_true b c vws _ vb es B w P.bk P.own (by have := P.les; omega) P.good).mono ?_
  rintro e w' ⟨rfl, hf⟩
  exact ⟨rfl, hf.below P.size (fun _ _ h => h), _, _, _, _, _, P.fr hf, I.new hf⟩
theorem ok_plain (A : Int) (h0 : -9223372036854775808 ≤ A) (h1 : A ≤ 9223372036854775807) : OpOk A 0 0 [] := ⟨h0, h1, by decide, by decide, U_zero, by decide, fun z hz => by cases hz⟩
theorem step_bare (B b c : Nat) (k A D : Int) (w : World) (hk : k ≤ 5) (h0 : -9223372036854775808 ≤ A) (h1 : A ≤ 9223372036854775807) (hI : Inv2 B b c w) (hc : c ≤ 1073741823) :
    Calls Tryz.prog 42 #[.pointer (some ⟨b, 0, none⟩), .agg #[.int .i64 k, .int .i64 A, .int .i64 D, .int .i64 0, .int .u64 0, .slice none 0 0]] w fun e w' => e = .returned (.bool true) ∧ Below B w w' ∧ ∃ c', c' ≤ c + 1 ∧ Inv2 B b c' w' :=
  step_five B b c k A D 0 0 none 0 [] w hk hI hc (ok_plain A h0 h1) (rowU_nil _ _)
theorem first2 (w : World) :
    Calls Tryz.prog 42 #[.pointer (some ⟨w.heap.size, 0, none⟩), .agg #[.int .i64 1, .int .i64 0, .int .i64 4, .int .i64 0, .int .u64 0, .slice none 0 0]] (w.alloc (.cells #[.slice none 0 0, .slice none 0 0, .int .i64 0, .slice none 0 0, .slice none 0 0, .slice none 0 0] 88))
      fun e w' => e = .returned (.bool true) ∧ Below w.heap.size w w' ∧ ∃ c', c' ≤ 1 ∧ Inv2 w.heap.size w.heap.size c' w' :=
  (step_bare w.heap.size w.heap.size 0 1 0 4 _ (by omega) (by decide) (by decide) (inv2_start w) (by omega)).mono (by
    rintro e w' ⟨rfl, hb, c', hc, hI⟩
    exact ⟨rfl, (((Fr.refl New w).alloc _).below (Nat.le_refl _) (fun _ _ h => h)).trans hb, c', by omega, hI⟩)

/-- a script, with its numbers -/
def Script2 (w : World) (sb so : Nat) (ops : List OpD) : Prop := Script w sb so ops ∧ ∀ i (h : i < ops.length), OpOk (ops[i]).A (ops[i]).C (ops[i]).V (ops[i]).zs

set_option maxHeartbeats 4000000 in
set_option maxRecDepth 1000000 in
theorem plays_five (a0 : Option Addr) (cap : Nat) (ops : List OpD) (w : World) (hlen : ops.length ≤ 1048576) (ha : 0 < ops.length → ∃ sb so, a0 = some ⟨sb, so, none⟩ ∧ Script2 w sb so ops) :
    Calls Tryz.prog 14 #[.slice a0 ops.length cap, .int .i64 5] w fun e w' => e = .returned (.bool true) ∧ Below w.heap.size w w' := by
  go_enter Tryz.func14, Tryz.ntmps14
  go_wp2_with (first
    | (go_at_call_of 42 (Value.int IntKind.i64 5); refine (step_bare w.heap.size w.heap.size c2 5 0 0 w2 (by omega) (by decide) (by decide) hI2 (by omega)).mono ?_; rintro e w3 ⟨rfl, hb3, c3, hc3, hI3⟩)
    | (go_at_call_of 42 (Value.int IntKind.i64 1); refine (first2 w).mono ?_; rintro e w1 ⟨rfl, hb1, c1, hc1, hI1⟩)
    | (go_at_call_of 42 (Value.int IntKind.i64 4); refine (step_bare w.heap.size w.heap.size c1 4 0 0 w1 (by omega) (by decide) (by decide) hI1 (by omega)).mono ?_; rintro e w2 ⟨rfl, hb2, c2, hc2, hI2⟩)
    | fail)
  go_loopw [6, 11] (fun t i wr => ∃ k c : Nat, k ≤ ops.length ∧ t = .bool true ∧ i = .int .i64 k ∧ c ≤ k + 3 ∧ Inv2 w.heap.size w.heap.size c wr ∧ Below w.heap.size w wr) (fun _ i _ => ops.length - (intOf i).toNat)
  case atStart => exact ⟨0, c3, Nat.zero_le _, rfl, rfl, by omega, hI3, (hb1.trans hb2).trans hb3⟩
  case round =>
    obtain ⟨k, c, hk, rfl, rfl, hck, hI, hb⟩ := hrel
    clear hI1 hb1 hc1 hI2 hb2 hc2 hI3 hb3 hc3
    by_cases hlt : k < ops.length
    · have hd : decide ((k : Int) < (ops.length : Int)) = true := by simp; omega
      obtain ⟨sb, so, rfl, hS, hOK⟩ := ha (by omega)
      obtain ⟨hE, hz, hr⟩ := hS k hlt
      have hok := hOK k hlt
      obtain ⟨o, ho⟩ : ∃ o, o = ops[k] := ⟨_, rfl⟩
      rw [← ho] at hE hz hr hok
      clear ho hS ha hOK
      have hrw := rowU_below hb hr
      have hE' : ∀ j, j < 6 → wr.cell? ⟨sb, so + k * 6 + j, none⟩ = o.cells[j]? := fun j hj => by
        have h6 := hE j hj
        have hs : ∃ v, o.cells[j]? = some v := by
          have : j < o.cells.length := by simpa [OpD.cells] using hj
          exact ⟨_, List.getElem?_eq_getElem this⟩
        obtain ⟨v, hv⟩ := hs
        rw [hv] at h6 ⊢
        exact (hb.cell (World.block_lt_of_cell? w _ h6)).trans h6
      obtain ⟨ok, oA, oD, oC, oV, oa, oc, oz⟩ := o
      have e0 := hE' 0 (by omega)
      have e1 := hE' 1 (by omega)
      have e2 := hE' 2 (by omega)
      have e3 := hE' 3 (by omega)
      have e4 := hE' 4 (by omega)
      have e5 := hE' 5 (by omega)
      clear hE hE' hr
      simp only [OpD.cells, List.getElem?_cons_zero, List.getElem?_cons_succ, Nat.add_zero] at e0 e1 e2 e3 e4 e5 hz hrw hok
      have HOK : Hid (OpOk oA oC oV oz) := hok
      clear hok
      by_cases hk2 : ok ≤ 5
      · go_wp2_with (first
          | (go_at_call 42; refine (step_five w.heap.size w.heap.size c ok oA oD oC oV oa oc oz wr hk2 hI (by omega) HOK.out hrw).mono ?_; rintro e w2 ⟨rfl, hb2, c2, hc2, hI2⟩)
          | (go_at_call 43; refine (looks_inv2 w.heap.size w.heap.size c2 w2 hI2 (by omega)).mono ?_; rintro e w3 ⟨rfl, hb3, hI3⟩)
          | fail)
        go_roundw
        case rel => exact ⟨k + 1, c2, by omega, rfl, by go_num, by omega, hI3, (hb.trans hb2).trans hb3⟩
        case measure => simp [intOf]; omega
      · go_wp2
        go_roundw
        case rel => exact ⟨k + 1, c, by omega, rfl, by go_num, by omega, hI, hb⟩
        case measure => simp [intOf]; omega
    · have hd : decide ((k : Int) < (ops.length : Int)) = false := by simp; omega
      have hc0 : c ≤ 1048579 := by omega
      clear ha
      go_wp2
      go_loopg [6, 13] 13 (fun gh t i wr => ∃ k c : Nat, k ≤ 12 ∧ gh = 13 - k ∧ t = .bool true ∧ i = .int .i64 k ∧ c ≤ 1048579 + 2 * k ∧ Inv2 w.heap.size w.heap.size c wr ∧ Below w.heap.size w wr)
      case atStart => exact ⟨0, c, by omega, rfl, rfl, rfl, by omega, hI, hb⟩
      case round =>
        clear hI hb hc0 hck
        obtain ⟨k2, c, hk12, rfl, rfl, rfl, hck, hI, hb⟩ := hrel
        have HI0 : Hid (Inv2 w.heap.size w.heap.size c wr) := hI
        obtain ⟨vws, nw, xs, vb, es, P, I⟩ := hI
        have hfew := P.few
        obtain ⟨hcb, hzb⟩ := block_cells P.bk
        obtain ⟨aw, cw, rfl⟩ := own_slice P.ws
        clear P I
        by_cases hw0 : k2 < nw
        · have hd2 : decide ((k2 : Int) < (nw : Int)) = true := by simp; omega
          go_wp2_with (first
            | (go_at_call_of 42 (Value.int IntKind.i64 5); refine (step_bare w.heap.size w.heap.size c2 5 k2 0 w2 (by omega) (by omega) (by omega) hI2 (by omega)).mono ?_; rintro e w3 ⟨rfl, hb3, c3, hc3, hI3⟩)
            | (go_at_call_of 42 (Value.int IntKind.i64 4); refine (step_bare w.heap.size w.heap.size c 4 k2 0 wr (by omega) (by omega) (by omega) HI0.out (by omega)).mono ?_; rintro e w2 ⟨rfl, hb2, c2, hc2, hI2⟩)
            | fail)
          go_roundg (13 - (k2 + 1))
          case measure => omega
          case rel => exact ⟨k2 + 1, c3, by omega, rfl, rfl, by go_num, by omega, hI3, (hb.trans hb2).trans hb3⟩
        · have hd2 : decide ((k2 : Int) < (nw : Int)) = false := by simp; omega
          go_wp2
          refine wp_loop_rounds 1 ?_
          rw [rounds_succ]
          go_wp2
          go_ret
          exact ⟨rfl, hb⟩

theorem checks_walk (a0 : Option Addr) (cap : Nat) (ops : List OpD) (w : World) (hlen : ops.length ≤ 1048576) (ha : 0 < ops.length → ∃ sb so, a0 = some ⟨sb, so, none⟩ ∧ Script2 w sb so ops) :
    Calls Tryz.prog 4 #[.slice a0 ops.length cap] w fun e w' => e = .returned (.bool true) ∧ Below w.heap.size w w' := by
  go_enter Tryz.func4, Tryz.ntmps4
  go_wp2_with (go_at_call 14; refine (plays_five a0 cap ops w hlen ha).mono ?_; rintro e w1 ⟨rfl, hb⟩)
  go_ret
  exact ⟨rfl, hb⟩
end Go.Proofs.YtbagcjlimdilpaaGreat
/- How a script that comes in lies in memory, with the bounds of its numbers. -/
namespace Go.Proofs.YtbagcjlimdilpaaGreat
open Go.RowKit Go.ChangeShapes Go.Deep

section
variable {H : Type} {enc : TypeId × Value → H} {w : World} {base : Nat} {held : Bool}

theorem open_wordlist2 {n : Nat} {c : Value} {y : DataW H × List MemPlace} (h : DataW.trod enc Tryz.prog w base (fun _ => true) held n 43 [c] = some y) :
    ∃ a cap zs, c = .slice a zs.length cap ∧ RowU w a zs ∧ zs.length ≤ Rows.uptoBulk y.1 ∧ ∀ z ∈ zs, U z := by
  rcases open_ints Tryz.underlying43 Tryz.underlying50 Tryz.cells50 h with ⟨hcs, hx⟩ | ⟨a, len, cap, zs, hcs, _, hl, hm, hz, hx, hcell, hwz⟩
  · refine ⟨none, 0, [], by simpa using hcs, rowU_nil _ _, by simp, fun z hz => by cases hz⟩
  · simp only [if_true] at hz
    have hlen : (zs.take len).length = len := by simp; omega
    refine ⟨some a, cap, zs.take len, by rw [hlen]; simpa using hcs, ?_, ?_, ?_⟩
    · intro i hi
      have hi1 : i < len := by rw [hlen] at hi; exact hi
      refine ⟨a, rfl, (hcell i (by omega)).trans ?_⟩
      rw [List.getD_eq_getElem?_getD, List.getD_eq_getElem?_getD, List.getElem?_take_of_lt hi1]
    · rw [hx]
      have := length_le (lits (H := H) .u64 (zs.take len))
      simp only [Rows.uptoBulk]
      simp only [lits, List.length_map] at this
      simp only [lits]
      omega
    · intro z hz'
      have := bounds_u64 (hwz z (List.mem_of_mem_take hz'))
      exact ⟨this.1, by have := this.2; show z < _; omega⟩

set_option maxRecDepth 100000 in
theorem open_op2 {n : Nat} {cs : List Value} {x : DataW H × List MemPlace} (h : DataW.trod enc Tryz.prog w base (fun _ => true) held n 91 cs = some x) :
    ∃ o : OpD, cs = o.cells ∧ RowU w o.Wa o.zs ∧ o.zs.length ≤ Rows.uptoBulk x.1 ∧ (o.zs.length ≤ 1048576 → OpOk o.A o.C o.V o.zs) := by
  obtain ⟨xs, n', _, rfl, hl, hlen, hf⟩ := DataW.trod_struct Tryz.underlying91 h
  rw [Tryz.cells91] at hl
  obtain ⟨y0, y1, y2, y3, y4, y5, rfl⟩ := list6 (show xs.length = 6 from hlen)
  obtain ⟨c0, c1, c2, c3, c4, c5, rfl⟩ := list6 hl
  have h0 : DataW.trod enc Tryz.prog w base (fun _ => true) held n' 3 (([c0, c1, c2, c3, c4, c5].drop 0).take (Tryz.prog.cellsOf 3)) = some y0 := hf 0 _ rfl
  rw [Tryz.cells3] at h0
  have h1 : DataW.trod enc Tryz.prog w base (fun _ => true) held n' 3 (([c0, c1, c2, c3, c4, c5].drop 1).take (Tryz.prog.cellsOf 3)) = some y1 := hf 1 _ rfl
  rw [Tryz.cells3] at h1
  have h2 : DataW.trod enc Tryz.prog w base (fun _ => true) held n' 3 (([c0, c1, c2, c3, c4, c5].drop 2).take (Tryz.prog.cellsOf 3)) = some y2 := hf 2 _ rfl
  rw [Tryz.cells3] at h2
  have h3 : DataW.trod enc Tryz.prog w base (fun _ => true) held n' 3 (([c0, c1, c2, c3, c4, c5].drop 3).take (Tryz.prog.cellsOf 3)) = some y3 := hf 3 _ rfl
  rw [Tryz.cells3] at h3
  have h4 : DataW.trod enc Tryz.prog w base (fun _ => true) held n' 50 (([c0, c1, c2, c3, c4, c5].drop 4).take (Tryz.prog.cellsOf 50)) = some y4 := hf 4 _ rfl
  rw [Tryz.cells50] at h4
  have h5 : DataW.trod enc Tryz.prog w base (fun _ => true) held n' 43 (([c0, c1, c2, c3, c4, c5].drop 5).take (Tryz.prog.cellsOf 43)) = some y5 := hf 5 _ rfl
  rw [Tryz.cells43] at h5
  obtain ⟨k, e0, _, _⟩ := DataW.trod_int Tryz.underlying3 h0
  obtain ⟨A, e1, _, wA⟩ := DataW.trod_int Tryz.underlying3 h1
  obtain ⟨D, e2, _, _⟩ := DataW.trod_int Tryz.underlying3 h2
  obtain ⟨C, e3, _, wC⟩ := DataW.trod_int Tryz.underlying3 h3
  obtain ⟨V, e4, _, wV⟩ := DataW.trod_int Tryz.underlying50 h4
  obtain ⟨a, cap, zs, e5, hr, hb, hU⟩ := open_wordlist2 h5
  refine ⟨⟨k, A, D, C, V, a, cap, zs⟩, ?_, hr, ?_, fun hz => ⟨(bounds_i64 wA).1, (bounds_i64 wA).2, (bounds_i64 wC).1, (bounds_i64 wC).2, ⟨(bounds_u64 wV).1, by have := (bounds_u64 wV).2; show V < _; omega⟩, hz, hU⟩⟩
  · have g0 : c0 = .int .i64 k := by simpa using e0
    have g1 : c1 = .int .i64 A := by simpa using e1
    have g2 : c2 = .int .i64 D := by simpa using e2
    have g3 : c3 = .int .i64 C := by simpa using e3
    have g4 : c4 = .int .u64 V := by simpa using e4
    rw [g0, g1, g2, g3, g4, e5]
    rfl
  · have hp : Rows.uptoBulk y5.1 ≤ Rows.uptoBulkAll ([y0, y1, y2, y3, y4, y5].map (·.1)) := part_le (by simp)
    simp only [Rows.uptoBulk]
    exact Nat.le_trans hb (by omega)

/-- a script that comes in -/
theorem open_script2 {fuel : Nat} {a0 : Option Addr} {len cap : Nat} {x : DataW H × List MemPlace} (h : DataW.trod enc Tryz.prog w base (fun _ => true) held fuel 22 [.slice a0 len cap] = some x) (hb : Rows.uptoBulk x.1 ≤ 1048576) :
    ∃ ops : List OpD, ops.length = len ∧ len ≤ 1048576 ∧ (0 < ops.length → ∃ sb so, a0 = some ⟨sb, so, none⟩ ∧ Script2 w sb so ops) := by
  rcases open_slice Tryz.underlying22 h with ⟨hcs, _⟩ | ⟨a, l, c, m, n, D, Pl, hcs, _, hl, hm, hmm, hx, hel⟩
  · simp only [List.cons.injEq, Value.slice.injEq, and_true] at hcs
    obtain ⟨rfl, rfl, rfl⟩ := hcs
    exact ⟨[], rfl, by omega, fun h => absurd h (by simp)⟩
  · simp only [List.cons.injEq, Value.slice.injEq, and_true] at hcs
    obtain ⟨rfl, rfl, rfl⟩ := hcs
    simp only [if_true] at hmm
    subst hmm
    rw [hx] at hb
    simp only [Rows.uptoBulk] at hb
    have hD : ∀ i, i < len → Rows.uptoBulk (D i) ≤ 1048576 := fun i hi => by
      have := part_le (d := D i) (l := (List.range len).map D) (List.mem_map.2 ⟨i, by simpa using hi, rfl⟩)
      omega
    have hlen : len ≤ 1048576 := by
      have := length_le ((List.range len).map D)
      simp only [List.length_map, List.length_range] at this
      omega
    have hin : Inhabited OpD := ⟨⟨0, 0, 0, 0, 0, none, 0, []⟩⟩
    obtain ⟨f, hfp⟩ := choose_lt (α := OpD) (n := len) (p := fun i o => w.cells? base (a.add (i * 6)) 6 = some o.cells ∧ RowU w o.Wa o.zs ∧ o.zs.length ≤ 1048576 ∧ OpOk o.A o.C o.V o.zs) (fun i hi => by
      obtain ⟨cs', h1, h2⟩ := hel i (by omega)
      rw [Tryz.cells91] at h1
      obtain ⟨o, rfl, hr, hz, hk⟩ := open_op2 h2
      exact ⟨o, h1, hr, Nat.le_trans hz (hD i hi), hk (Nat.le_trans hz (hD i hi))⟩)
    refine ⟨(List.range len).map f, by simp, hlen, fun hp => ?_⟩
    have hp' : 0 < len := by simpa using hp
    obtain ⟨sb, so, spot⟩ := a
    have hspot : spot = none := by
      obtain ⟨h1, _, _, _⟩ := hfp 0 hp'
      obtain ⟨_, _, h3⟩ := World.cells?_some h1
      have := h3 0 (by omega)
      rw [show ((f 0).cells)[0]? = some (.int .i64 (f 0).k) from rfl] at this
      simpa [Addr.add] using World.cell?_spot this
    subst hspot
    refine ⟨sb, so, rfl, fun i hi => ?_, fun i hi => by
      have hi' : i < len := by simpa using hi
      simp only [List.getElem_map, List.getElem_range]
      exact (hfp i hi').2.2.2⟩
    have hi' : i < len := by simpa using hi
    obtain ⟨h1, h2, h3, _⟩ := hfp i hi'
    simp only [List.getElem_map, List.getElem_range]
    refine ⟨fun j hj => ?_, h3, h2⟩
    obtain ⟨_, _, h4⟩ := World.cells?_some h1
    have := h4 j hj
    rwa [Addr.add_lit, Addr.add_lit] at this
end
end Go.Proofs.YtbagcjlimdilpaaGreat
