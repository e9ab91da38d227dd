/- A law for 'append(s, make([]uint64, k)...)' onto a list of words that owns its row. -/
import Derived.Test.YtbagcjlimdilpaaGreatHhJ4
import Derived.Test.YtbagcjlimdilpaaGreatHhPgR
import Derived.Lib.AppendZerosOnto
import Derived.Deep.MidRow
namespace Go.Proofs.YtbagcjlimdilpaaGreat
open Go.RowKit

theorem zeros_toList (k : Nat) : (Builtin.zeroCells (Value.int .u64 0).cells k).toList = List.replicate k (Value.int .u64 0) := by
  apply List.ext_getElem?
  intro i
  simp [Builtin.zeroCells, Value.cells]
  by_cases h : i < k
  · simp [h, Nat.mod_one]
  · simp [h]
theorem getD_left {a b : List Int} {i : Nat} (h : i < a.length) : (a ++ b).getD i 0 = a.getD i 0 := by
  rw [List.getD_eq_getElem?_getD, List.getD_eq_getElem?_getD, List.getElem?_append_left h]
theorem getD_zeros {a : List Int} {i k : Nat} (h : a.length ≤ i) : (a ++ List.replicate k 0).getD i 0 = 0 := by
  rw [List.getD_eq_getElem?_getD, List.getElem?_append_right h, List.getElem?_replicate]
  split <;> rfl
theorem run_append_zeros (w : World) (g n cap k : Nat) (ty : TypeId) (zs : List Int) (ho : w.ownsRow 0 50 1 (.slice (some ⟨g, 0, none⟩) n cap) n (zs.map (Value.int .u64))) (hk : k < 64) (hn : n ≤ 2000) :
    ∃ ad cap' w', (Builtin.append_ #[43, 3] ty #[.slice (some ⟨g, 0, none⟩) n cap, .int .i64 (k : Nat)]).run Tryz.prog w = .ok (.slice (some ad) (n + k) cap') w' ∧ RowU w' (some ad) (zs ++ List.replicate k 0) ∧ Fr (fun j => j = g) w w' := by
  obtain ⟨i0, hi, hz0, hz1, hz2⟩ := info_parts Tryz.info50
  have hzn : zs.length = n := by have := ho.1; simp at this; omega
  have hcell : ∀ i, i < n → w.cell? ⟨g, i, none⟩ = some (.int .u64 (zs.getD i 0)) := fun i hi => by
    rw [ho.cellAt i (by omega)]
    simp [show i < zs.length by omega, List.getD]
  obtain ⟨cur, hgb, hcap, hsz⟩ : ∃ cur : Array Value, w.heap[g]? = some (.cells cur 50 (0, 0)) ∧ n ≤ cap ∧ cur.size = cap := by
    rcases ho.2 with ⟨h', _⟩ | ⟨g', cap', cur, h', _, hg, hnc, _, hcs, _⟩
    · cases h'
    · simp only [Value.slice.injEq, Option.some.injEq, Addr.mk.injEq, and_true, true_and] at h'
      obtain ⟨rfl, rfl⟩ := h'
      exact ⟨cur, hg, hnc, by omega⟩
  have hw : IntKind.i64.wrap (k : Int) = k := by rw [IntKind.wrap_i64]; omega
  by_cases hroom : n + k ≤ cap
  · have hth : w.there g n k := fun j hj => by
      obtain ⟨h1, h2⟩ := block_cells hgb
      rw [h1, h2]
      simp [show n + j < cur.size by omega]
    have hst := run_storeCells_cells (P := Tryz.prog) g n (List.replicate k (Value.int .u64 0)) 0 w (by intro j hj; rw [Nat.add_zero]; exact (hth j (by simpa using hj)).1) (by intro j hj; rw [Nat.add_zero]; exact (hth j (by simpa using hj)).2) (by intro u hu; rw [(List.mem_replicate.1 hu).2]; rfl)
    simp only [Nat.add_zero] at hst
    refine ⟨⟨g, 0, none⟩, cap, w.setCells g n (List.replicate k (.int .u64 0)), ?_, ?_, Fr.setCells (T := fun j => j = g) (fun _ => rfl) _ _ _ (Fr.refl _ _)⟩
    · have hneg : ¬ ((k : Int) < 0) := by omega
      have h48i : ¬ (281474976710656 < (k : Int) * 8) := by omega
      have hz := zeros_toList k
      by_cases hk0 : k = 0
      · subst hk0
        simp [Builtin.append_, run_underlying Tryz.underlying43, run_underlying Tryz.underlying3, sizeOf, typeInfo, hi, hz2, asInt, asIntOf, IntKind.wrap_i64, hcap, Addr.add_lit, storeCells, World.setCells]
      · simp [Builtin.append_, run_underlying Tryz.underlying43, run_underlying Tryz.underlying3, sizeOf, typeInfo, zeroValue, hi, hz0, hz1, hz2, asInt, asIntOf, hw, hneg, h48i, hroom, hk0, hz, Addr.add_lit, hst]
    · intro i hi
      refine ⟨_, rfl, ?_⟩
      rw [Addr.add_lit, Nat.zero_add]
      by_cases hin : i < n
      · rw [World.cell?_setCells_out _ _ _ _ _ (fun _ _ => .inl hin), hcell i hin]
        rw [getD_left (by omega)]
      · have hik : i - n < k := by simp at hi; omega
        have := World.rangeAt_setCells_same w g n (List.replicate k (.int .u64 0)) (by simpa using hth) (i - n) (.int .u64 0) (by simp [hik])
        rw [show n + (i - n) = i by omega] at this
        rw [this, getD_zeros (by omega)]
  · have hold := run_firstCells_some (P := Tryz.prog) w.drew i0.size n ⟨g, 0, none⟩ n cap (zs.map (Value.int .u64)) (by simp [hz1, hzn]) (fun j v hv => by
      have hj : j < zs.length := by
        rcases Nat.lt_or_ge j zs.length with h | h
        · exact h
        · rw [List.getElem?_eq_none (by simpa using h)] at hv; cases hv
      rw [Addr.add_lit, Nat.zero_add]
      show w.cell? _ = _
      rw [hcell j (by omega)]
      simp [hj] at hv
      simp [List.getD, hj, hv])
    have hr := Lib.run_append_grow_zeros w 43 3 ty 50 i0 (.int .u64 0) .i64 .i64 Tryz.underlying43 Tryz.underlying3 hi hz0 (some ⟨g, 0, none⟩) n cap (zs.map (Value.int .u64)) hold k (by omega) (by omega) (by omega) (by omega) (by rw [hz2]; omega) (by rw [hz2]; exact growslice_fits (by omega) (by omega))
    refine ⟨_, _, _, hr, ?_, ((Fr.refl _ _).drew).alloc _⟩
    intro i hi
    refine ⟨_, rfl, ?_⟩
    rw [Addr.add_lit, Nat.zero_add]
    have hb := Go.Deep.blk_alloc_new w.drew (.cells ((zs.map (Value.int .u64)).toArray ++ Builtin.zeroCells (Value.int .u64 0).cells k ++ Builtin.zeroCells (Value.int .u64 0).cells (grownCap w (n + k) cap 50 - (n + k))) 50)
    have hc := (block_cells hb).1 i
    refine hc.trans ?_
    rw [← Array.getElem?_toList, Array.toList_append, Array.toList_append, zeros_toList, zeros_toList]
    by_cases hin : i < n
    · rw [List.getElem?_append_left (by simp; omega), List.getElem?_append_left (by simp; omega), getD_left (by omega)]
      simp [List.getD, show i < zs.length by omega]
    · rw [getD_zeros (by omega)]
      simp at hi
      rw [List.getElem?_append_left (by simp; omega), List.getElem?_append_right (by simp; omega)]
      simp [show i - zs.length < k by omega]
theorem wpList_append_zeros {ops : Array Oper} {rest : List Oper} {o : Oper} {a : Act} {w : World} {Q : Exit → Act → World → Prop} (hgd : o.guard = none) (s x : Operand)
    (hop : o.op = .call { callee := .builtin .append, args := #[s, x], argTypes := #[43, 3] }) (g n cap k : Nat) (zs : List Int) (hs : a.eval s = .slice (some ⟨g, 0, none⟩) n cap) (hx : a.eval x = .int .i64 (k : Nat))
    (ho : w.ownsRow 0 50 1 (.slice (some ⟨g, 0, none⟩) n cap) n (zs.map (Value.int .u64))) (hk : k < 64) (hn : n ≤ 2000)
    (h : ∀ ad cap' w', RowU w' (some ad) (zs ++ List.replicate k 0) → Fr (fun j => j = g) w w' → wpList Tryz.prog ops Q rest (a.put o.dst (.slice (some ad) (n + k) cap')) w') : wpList Tryz.prog ops Q (o :: rest) a w := by
  refine wpList_plain hgd fun K hK => ?_
  obtain ⟨ad, cap', w', hr, h2, h3⟩ := run_append_zeros w g n cap k o.type zs ho hk hn
  unfold Oper.wp execOp
  simp only [hop, resolve, invoke, builtin, Sem.run_bind, Sem.run_pure, Result.andThen_ok, List.map_toArray, List.map_cons, List.map_nil, hs, hx, hr]
  exact hK _ _ (h ad cap' w' h2 h3)
end Go.Proofs.YtbagcjlimdilpaaGreat
