/- How a script that comes in lies in memory, with the bounds of all its numbers. -/
import Derived.Test.YtbagcjlimdilpaaGreatHhJ22All
import Derived.Test.YtbagcjlimdilpaaGreatHhOpsR
import Derived.OpenShut
namespace Go.Proofs.YtbagcjlimdilpaaGreat
open Go.RowKit Go.ChangeShapes Go.Deep

section
variable {H : Type} {enc : TypeId × Value → H} {w : World} {base : Nat} {held : Bool}

theorem open_wordlist3 {n : Nat} {c : Value} {y : DataW H × List MemPlace} (h : DataW.trod enc Tryz.prog w base (fun _ => true) held n 43 [c] = some y) :
    ∃ a cap zs, c = .slice a zs.length cap ∧ RowU w a zs ∧ zs.length ≤ Rows.uptoBulk y.1 ∧ ∀ z ∈ zs, U z := by
  rcases open_ints Tryz.underlying43 Tryz.underlying50 Tryz.cells50 h with ⟨hcs, hx⟩ | ⟨a, len, cap, zs, hcs, _, hl, hm, hz, hx, hcell, hwz⟩
  · refine ⟨none, 0, [], by simpa using hcs, rowU_nil _ _, by simp, fun z hz => by cases hz⟩
  · simp only [if_true] at hz
    have hlen : (zs.take len).length = len := by simp; omega
    refine ⟨some a, cap, zs.take len, by rw [hlen]; simpa using hcs, ?_, ?_, ?_⟩
    · intro i hi
      have hi1 : i < len := by rw [hlen] at hi; exact hi
      refine ⟨a, rfl, (hcell i (by omega)).trans ?_⟩
      rw [List.getD_eq_getElem?_getD, List.getD_eq_getElem?_getD, List.getElem?_take_of_lt hi1]
    · rw [hx]
      have := length_le (lits (H := H) .u64 (zs.take len))
      simp only [Rows.uptoBulk]
      simp only [lits, List.length_map] at this
      simp only [lits]
      omega
    · intro z hz'
      have := bounds_u64 (hwz z (List.mem_of_mem_take hz'))
      exact ⟨this.1, by have := this.2; show z < _; omega⟩

set_option maxRecDepth 100000 in
theorem open_op3 {n : Nat} {cs : List Value} {x : DataW H × List MemPlace} (h : DataW.trod enc Tryz.prog w base (fun _ => true) held n 91 cs = some x) :
    ∃ o : OpD, cs = o.cells ∧ RowU w o.Wa o.zs ∧ o.zs.length ≤ Rows.uptoBulk x.1 ∧ (o.zs.length ≤ 1048576 → OpOkX o.A o.D o.C o.V o.zs) := by
  obtain ⟨xs, n', _, rfl, hl, hlen, hf⟩ := DataW.trod_struct Tryz.underlying91 h
  rw [Tryz.cells91] at hl
  obtain ⟨y0, y1, y2, y3, y4, y5, rfl⟩ := list6 (show xs.length = 6 from hlen)
  obtain ⟨c0, c1, c2, c3, c4, c5, rfl⟩ := list6 hl
  have h0 : DataW.trod enc Tryz.prog w base (fun _ => true) held n' 3 (([c0, c1, c2, c3, c4, c5].drop 0).take (Tryz.prog.cellsOf 3)) = some y0 := hf 0 _ rfl
  rw [Tryz.cells3] at h0
  have h1 : DataW.trod enc Tryz.prog w base (fun _ => true) held n' 3 (([c0, c1, c2, c3, c4, c5].drop 1).take (Tryz.prog.cellsOf 3)) = some y1 := hf 1 _ rfl
  rw [Tryz.cells3] at h1
  have h2 : DataW.trod enc Tryz.prog w base (fun _ => true) held n' 3 (([c0, c1, c2, c3, c4, c5].drop 2).take (Tryz.prog.cellsOf 3)) = some y2 := hf 2 _ rfl
  rw [Tryz.cells3] at h2
  have h3 : DataW.trod enc Tryz.prog w base (fun _ => true) held n' 3 (([c0, c1, c2, c3, c4, c5].drop 3).take (Tryz.prog.cellsOf 3)) = some y3 := hf 3 _ rfl
  rw [Tryz.cells3] at h3
  have h4 : DataW.trod enc Tryz.prog w base (fun _ => true) held n' 50 (([c0, c1, c2, c3, c4, c5].drop 4).take (Tryz.prog.cellsOf 50)) = some y4 := hf 4 _ rfl
  rw [Tryz.cells50] at h4
  have h5 : DataW.trod enc Tryz.prog w base (fun _ => true) held n' 43 (([c0, c1, c2, c3, c4, c5].drop 5).take (Tryz.prog.cellsOf 43)) = some y5 := hf 5 _ rfl
  rw [Tryz.cells43] at h5
  obtain ⟨k, e0, _, _⟩ := DataW.trod_int Tryz.underlying3 h0
  obtain ⟨A, e1, _, wA⟩ := DataW.trod_int Tryz.underlying3 h1
  obtain ⟨D, e2, _, wD⟩ := DataW.trod_int Tryz.underlying3 h2
  obtain ⟨C, e3, _, wC⟩ := DataW.trod_int Tryz.underlying3 h3
  obtain ⟨V, e4, _, wV⟩ := DataW.trod_int Tryz.underlying50 h4
  obtain ⟨a, cap, zs, e5, hr, hb, hU⟩ := open_wordlist3 h5
  refine ⟨⟨k, A, D, C, V, a, cap, zs⟩, ?_, hr, ?_, fun hz => ⟨(bounds_i64 wA).1, (bounds_i64 wA).2, (bounds_i64 wD).1, (bounds_i64 wD).2, (bounds_i64 wC).1, (bounds_i64 wC).2, ⟨(bounds_u64 wV).1, by have := (bounds_u64 wV).2; show V < _; omega⟩, hz, hU⟩⟩
  · have g0 : c0 = .int .i64 k := by simpa using e0
    have g1 : c1 = .int .i64 A := by simpa using e1
    have g2 : c2 = .int .i64 D := by simpa using e2
    have g3 : c3 = .int .i64 C := by simpa using e3
    have g4 : c4 = .int .u64 V := by simpa using e4
    rw [g0, g1, g2, g3, g4, e5]
    rfl
  · have hp : Rows.uptoBulk y5.1 ≤ Rows.uptoBulkAll ([y0, y1, y2, y3, y4, y5].map (·.1)) := part_le (by simp)
    simp only [Rows.uptoBulk]
    exact Nat.le_trans hb (by omega)

/-- a script that comes in -/
theorem open_script3 {fuel : Nat} {a0 : Option Addr} {len cap : Nat} {x : DataW H × List MemPlace} (h : DataW.trod enc Tryz.prog w base (fun _ => true) held fuel 22 [.slice a0 len cap] = some x) (hb : Rows.uptoBulk x.1 ≤ 1048576) :
    ∃ ops : List OpD, ops.length = len ∧ len ≤ 1048576 ∧ (0 < ops.length → ∃ sb so, a0 = some ⟨sb, so, none⟩ ∧ Script3 w sb so ops) := by
  rcases open_slice Tryz.underlying22 h with ⟨hcs, _⟩ | ⟨a, l, c, m, n, D, Pl, hcs, _, hl, hm, hmm, hx, hel⟩
  · simp only [List.cons.injEq, Value.slice.injEq, and_true] at hcs
    obtain ⟨rfl, rfl, rfl⟩ := hcs
    exact ⟨[], rfl, by omega, fun h => absurd h (by simp)⟩
  · simp only [List.cons.injEq, Value.slice.injEq, and_true] at hcs
    obtain ⟨rfl, rfl, rfl⟩ := hcs
    simp only [if_true] at hmm
    subst hmm
    rw [hx] at hb
    simp only [Rows.uptoBulk] at hb
    have hD : ∀ i, i < len → Rows.uptoBulk (D i) ≤ 1048576 := fun i hi => by
      have := part_le (d := D i) (l := (List.range len).map D) (List.mem_map.2 ⟨i, by simpa using hi, rfl⟩)
      omega
    have hlen : len ≤ 1048576 := by
      have := length_le ((List.range len).map D)
      simp only [List.length_map, List.length_range] at this
      omega
    have hin : Inhabited OpD := ⟨⟨0, 0, 0, 0, 0, none, 0, []⟩⟩
    obtain ⟨f, hfp⟩ := choose_lt (α := OpD) (n := len) (p := fun i o => w.cells? base (a.add (i * 6)) 6 = some o.cells ∧ RowU w o.Wa o.zs ∧ o.zs.length ≤ 1048576 ∧ OpOkX o.A o.D o.C o.V o.zs) (fun i hi => by
      obtain ⟨cs', h1, h2⟩ := hel i (by omega)
      rw [Tryz.cells91] at h1
      obtain ⟨o, rfl, hr, hz, hk⟩ := open_op3 h2
      exact ⟨o, h1, hr, Nat.le_trans hz (hD i hi), hk (Nat.le_trans hz (hD i hi))⟩)
    refine ⟨(List.range len).map f, by simp, hlen, fun hp => ?_⟩
    have hp' : 0 < len := by simpa using hp
    obtain ⟨sb, so, spot⟩ := a
    have hspot : spot = none := by
      obtain ⟨h1, _, _, _⟩ := hfp 0 hp'
      obtain ⟨_, _, h3⟩ := World.cells?_some h1
      have := h3 0 (by omega)
      rw [show ((f 0).cells)[0]? = some (.int .i64 (f 0).k) from rfl] at this
      simpa [Addr.add] using World.cell?_spot this
    subst hspot
    refine ⟨sb, so, rfl, fun i hi => ?_, fun i hi => by
      have hi' : i < len := by simpa using hi
      simp only [List.getElem_map, List.getElem_range]
      exact (hfp i hi').2.2.2⟩
    have hi' : i < len := by simpa using hi
    obtain ⟨h1, h2, h3, _⟩ := hfp i hi'
    simp only [List.getElem_map, List.getElem_range]
    refine ⟨fun j hj => ?_, h3, h2⟩
    obtain ⟨_, _, h4⟩ := World.cells?_some h1
    have := h4 j hj
    rwa [Addr.add_lit, Addr.add_lit] at this
end
end Go.Proofs.YtbagcjlimdilpaaGreat
