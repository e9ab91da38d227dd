/- Texts that follow one another, joined. -/
import Derived.Test.YtbagcjlimdilpaaGreatChPgL
import Derived.Test.YtbagcjlimdilpaaGreatChJ4
import Derived.Test.YtbagcjlimdilpaaGreatChJ2
import Derived.Deep.CutRange
import Derived.Test.YtbagcjlimdilpaaGreatChPgR
import Derived.Lib.AppendZerosOnto
import Derived.Deep.MidRow
/- The walk of the program's Repair: it meets the document's mathematics. -/
namespace Go.Proofs.YtbagcjlimdilpaaGreat
open Go.RowKit

theorem mem2_row {w w4 : World} {ws : List Int} (hb : Row w4 w.heap.size ws) (hf : Fr New w w4) (hm : ws.length ≤ 1048576) : Mem2 w w.heap.size ws.length ws.length ws w4 :=
  ⟨⟨by simp, .inr ⟨w.heap.size, ws.length, _, rfl, Nat.le_refl _, hb, Nat.le_refl _, by unfold maxLen; omega, by simp, by simp [List.take_of_length_le]⟩⟩, rfl, hf⟩
theorem Mem2.row {w : World} {g L : Nat} {cur : List Int} {wr : World} (h : Mem2 w g L L cur wr) : Row wr g cur := Row.ofOwn h.own rfl

set_option maxHeartbeats 1000000 in
set_option maxRecDepth 100000 in
theorem prepair_any (a : Option Addr) (cap : Nat) (ws : List Int) (w : World) (hm : ws.length ≤ 1048576) (hU : ∀ z ∈ ws, U z) (hr : RowU w a ws) :
    Calls Tryz.prog 32 #[.slice a ws.length cap] w fun e w' => ∃ v r c, e = .returned (.tuple #[v, .int .i64 c]) ∧ RepairIs ws r c ∧ ((c ≠ 0 ∧ v = .slice none 0 0 ∧ r = []) ∨ (c = 0 ∧ v = .slice (some ⟨w.heap.size, 0, none⟩) ws.length ws.length ∧ Row w' w.heap.size r ∧ r.length = ws.length)) ∧ Fr New w w' := by
  by_cases hn : nblk ws.length = 0
  · have HT : Hid (RepairIs ws [] 2) := .inl ⟨hn, rfl, rfl⟩
    have HS : Hid (Calls Tryz.prog 46 #[.int .i64 ws.length] w fun e w' => e = .returned (.bool false) ∧ w' = w) := shaped_no _ w hm hn
    clear hn hr
    go_enter Tryz.func32, Tryz.ntmps32
    go_wp2_with (go_at_call 46; refine calls_same HS.out ?_)
    go_ret2
    exact ⟨_, [], 2, rfl, HT.out, .inl ⟨by decide, rfl, rfl⟩, Fr.refl _ _⟩
  · have HS : Hid (Calls Tryz.prog 46 #[.int .i64 ws.length] w fun e w' => e = .returned (.bool true) ∧ w' = w) := shaped_yes _ w hn
    have hp : 0 < ws.length := by have := (nblk_some hn).1; omega
    have HRP : Hid (∀ W, Row W w.heap.size ws → Fr New w W → Calls Tryz.prog 61 #[rowV (some ⟨w.heap.size, 0, none⟩) ws.length ws.length] W fun e w' => ∃ (cd : Int) (r r' : List Int), e = .returned (.int .i64 cd) ∧ RepairIs ws r cd ∧ Mem2 w w.heap.size ws.length ws.length r' w' ∧ (cd = 0 → r' = r) ∧ (cd ≠ 0 → r = [])) := fun W hR hF => soundRepair_any W (mem2_row hR hF hm) hU hn
    have HC : Hid (Calls Tryz.prog 51 #[.slice a ws.length cap] w fun e w' => e = .returned (.slice (some ⟨w.heap.size, 0, none⟩) ws.length ws.length) ∧ Row w' w.heap.size ws ∧ Fr New w w') := kcopy_any a cap ws w hm hp hr
    obtain ⟨L, hL⟩ : ∃ L, L = ws.length := ⟨_, rfl⟩
    rw [← hL] at HS HRP HC hm hp ⊢
    clear hn hr hL hU
    go_enter Tryz.func32, Tryz.ntmps32
    go_wp2_with (first
      | (go_at_call 46; refine calls_same HS.out ?_)
      | (go_at_call 51; refine HC.out.mono ?_; rintro e w4 ⟨rfl, hr4, hf4⟩)
      | (go_at_call 61; refine (HRP.out w4 hr4 hf4).mono ?_; rintro e w5 ⟨cd, r, r', rfl, hri, hm5, hc0, hc1⟩)
      | fail)
    · rename_i h
      go_ret2
      exact ⟨_, r, cd, rfl, hri, .inl ⟨by simpa using h, rfl, hc1 (by simpa using h)⟩, hm5.fr⟩
    · rename_i h
      have e0 : cd = 0 := by simpa using h
      obtain rfl := hc0 e0
      subst e0
      go_ret2
      exact ⟨_, _, 0, rfl, hri, .inr ⟨rfl, rfl, hm5.row, hm5.len⟩, hm5.fr⟩
end Go.Proofs.YtbagcjlimdilpaaGreat
/- The walk of the law's 'plain' for Check: the answer is the document's. -/
namespace Go.Proofs.YtbagcjlimdilpaaGreat
open Go.RowKit

theorem lpick_any (c n : Int) (w : World) (h0 : -9223372036854775808 ≤ c) (h1 : c ≤ 9223372036854775807) (hn : 0 < n) (hn1 : n ≤ 9223372036854775807) :
    Calls Tryz.prog 74 #[.int .i64 c, .int .i64 n] w fun e w' => e = .returned (.int .i64 (pickI c n)) ∧ w' = w := by
  by_cases hc : c < 0
  · go_enter Tryz.func74, Tryz.ntmps74
    go_wp2
    go_ret
    refine ⟨ret_i ?_, rfl⟩
    unfold pickI
    rw [if_pos hc, ← Int.neg_tmod, Int.tmod_eq_emod_of_nonneg (by omega)]
  · go_enter Tryz.func74, Tryz.ntmps74
    go_wp2
    go_ret
    refine ⟨ret_i ?_, rfl⟩
    unfold pickI
    rw [if_neg (by omega)]


/-- a step, as a value -/
abbrev opV (k A D C V : Int) (Wa : Option Addr) (Wl Wc : Nat) : Value := .agg #[.int .i64 k, .int .i64 A, .int .i64 D, .int .i64 C, .int .u64 V, .slice Wa Wl Wc]

set_option maxHeartbeats 4000000 in
set_option maxRecDepth 1000000 in
/-- no image: nothing is asked -/
theorem plain_none (B b c : Nat) (k A D C V : Int) (Wa : Option Addr) (Wl Wc : Nat) {vws : Value} {xs : List Value} {vb : Value} {es : List Entry} (w : World) (hk1 : k ≠ 1) (hk2 : k ≠ 2) (P : Parts B b c vws 0 xs vb es w) :
    Calls Tryz.prog 73 #[.pointer (some ⟨b, 0, none⟩), opV k A D C V Wa Wl Wc] w fun e w' => e = .returned (.bool true) ∧ Fr New w w' := by
  obtain ⟨aw, cw, rfl⟩ := own_slice P.ws
  obtain ⟨hcb, hzb⟩ := block_cells P.bk
  have hd1 : (k == 1) = false := by simpa using hk1
  have hd2 : (k == 2) = false := by simpa using hk2
  have hbW := P.lt
  clear hk1 hk2
  go_enter Tryz.func73, Tryz.ntmps73
  go_wp2
  go_ret
  exact ⟨rfl, (Fr.refl _ _).alloc _⟩

set_option maxHeartbeats 8000000 in
set_option maxRecDepth 1000000 in
theorem plain_check (B b c : Nat) (A D C V : Int) (Wa : Option Addr) (Wl Wc : Nat) {vws : Value} {nw : Nat} {xs : List Value} {vb : Value} {es : List Entry} (w : World) (hA0 : -9223372036854775808 ≤ A) (hA1 : A ≤ 9223372036854775807) (hn : 0 < nw) (P : Parts B b c vws nw xs vb es w) (I : Imgs w xs) :
    Calls Tryz.prog 73 #[.pointer (some ⟨b, 0, none⟩), opV 4 A D C V Wa Wl Wc] w fun e w' => e = .returned (.bool true) ∧ Fr New w w' := by
  have hn12 := P.few
  have hp0 := pickI_nonneg A nw (by omega)
  have hp1 := pickI_lt A nw (by omega)
  have HPK : Hid (∀ w, Calls Tryz.prog 74 #[.int .i64 A, .int .i64 nw] w fun e w' => e = .returned (.int .i64 (pickI A nw)) ∧ w' = w) := fun w => lpick_any A nw w hA0 hA1 (by omega) (by omega)
  obtain ⟨j, hj⟩ := Int.eq_ofNat_of_zero_le hp0
  rw [hj] at hp1 HPK
  have hjn : j < nw := by omega
  obtain ⟨gw, cw, av, cv, zs, rfl, hcj, hrz, hcz, hz1, hzU⟩ := P.pick I hn j hjn
  obtain ⟨hcb, hzb⟩ := block_cells P.bk
  have hbW := P.lt
  have hcb0 : w.cell? ⟨b, 0, none⟩ = some (.slice (some ⟨gw, 0, none⟩) nw cw) := (hcb 0).trans rfl
  have HRZ : Hid (∀ w', Fr New w w' → RowU w' av zs) := fun w' hf => rowU_fr hf hrz (fun _ _ h => h)
  have HLN : Hid (∀ w', Fr New w w' → Calls Tryz.prog 120 #[.slice av zs.length cv] w' fun e w'' => e = .returned (.slice (some ⟨w'.heap.size, 0, none⟩) (zs.length + 8) (zs.length + 8)) ∧ Row w'' w'.heap.size (withEight zs) ∧ Fr New w' w'') := fun w' hf => lent_any av cv zs w' (by omega) (HRZ.out w' hf)
  have HCK : Hid (∀ g w', Row w' g (withEight zs) → Calls Tryz.prog 33 #[.slice (some ⟨g, 0, none⟩) zs.length (zs.length + 8)] w' fun e w'' => ∃ c p, e = .returned (.tuple #[.int .i64 c, .int .i64 p]) ∧ CheckIs zs c p ∧ Fr New w' w'') := fun g w' hr => pcheck_any _ _ zs w' (by omega) (eight_row hr)
  have HCR : Hid (∀ w', Fr New w w' → Calls Tryz.prog 123 #[.slice av zs.length cv] w' fun e w'' => ∃ c p, e = .returned (.tuple #[.int .i64 c, .int .i64 p]) ∧ CheckIs zs c p ∧ Fr New w' w'') := fun w' hf => check_any av cv zs w' (by omega) hcz (HRZ.out w' hf)
  have HBK : Hid (∀ g w', Row w' g (withEight zs) → Fr New w w' → Calls Tryz.prog 122 #[.slice (some ⟨g, 0, none⟩) (zs.length + 8) (zs.length + 8), .slice av zs.length cv] w' fun e w'' => e = .returned (.bool true) ∧ Fr (fun k => k = g) w' w'') := fun g w' hr hf => back_true g av cv zs w' (by omega) hr (HRZ.out w' hf)
  have hnz : ((nw : Int) == 0) = false := by simp; omega
  have hj0 : (0 : Int) ≤ (j : Int) := by omega
  have hj1 : (j : Int) < (nw : Int) := by omega
  have hgw : gw < w.heap.size := World.block_lt_of_cell? w _ hcj
  obtain ⟨n, hnl⟩ : ∃ n, n = zs.length := ⟨_, rfl⟩
  rw [← hnl] at hcj HLN HCK HCR HBK hcz hz1
  clear hcb hzb hrz hzU hp0 hj hnl I
  go_enter Tryz.func73, Tryz.ntmps73
  go_upto_region 17 with fail
  go_quiet (first | (go_at_call 74; exact Calls.quiet_of_same (HPK.out _)) | fail)
  go_wp2_with (first
    | (go_at_call 120; refine (HLN.out _ (((Fr.refl New w).alloc _).drewN _)).mono ?_; rintro e w1 ⟨rfl, hr1, hf1⟩; have hf1' : Fr New w w1 := ((Fr.refl New w).alloc _).drewN _ |>.same hf1; obtain ⟨hcx, hzx⟩ := block_cells (hf1.heap (k := w.heap.size) (Go.Deep.blk_alloc_new w _) id); have hr1' : Row w1 (w.heap.size + 1) (withEight zs) := (by simpa using hr1))
    | (go_at_call 33; refine (HCK.out (w.heap.size + 1) w1 hr1').mono ?_; rintro e w2 ⟨cd, pp, rfl, hci, hf2⟩)
    | (go_at_call 123; refine (HCR.out w2 (hf1'.same hf2)).mono ?_; rintro e w3 ⟨cd', pp', rfl, hci', hf3⟩; obtain ⟨rfl, rfl⟩ := told_one hci hci')
    | (go_at_call 122; refine (HBK.out (w.heap.size + 1) w3 ((hr1'.fr hf2 id).fr hf3 id) ((hf1'.same hf2).same hf3)).mono ?_; rintro e w4 ⟨rfl, hf4⟩)
    | fail)
  go_ret
  exact ⟨rfl, ((hf1'.same hf2).same hf3).trans hf4 (fun j hj ht => by omega)⟩
end Go.Proofs.YtbagcjlimdilpaaGreat
/- A law for 'append(s, make([]uint64, k)...)' onto a list of words that owns its row. -/
namespace Go.Proofs.YtbagcjlimdilpaaGreat
open Go.RowKit

theorem zeros_toList (k : Nat) : (Builtin.zeroCells (Value.int .u64 0).cells k).toList = List.replicate k (Value.int .u64 0) := by
  apply List.ext_getElem?
  intro i
  simp [Builtin.zeroCells, Value.cells]
  by_cases h : i < k
  · simp [h, Nat.mod_one]
  · simp [h]
theorem getD_left {a b : List Int} {i : Nat} (h : i < a.length) : (a ++ b).getD i 0 = a.getD i 0 := by
  rw [List.getD_eq_getElem?_getD, List.getD_eq_getElem?_getD, List.getElem?_append_left h]
theorem getD_zeros {a : List Int} {i k : Nat} (h : a.length ≤ i) : (a ++ List.replicate k 0).getD i 0 = 0 := by
  rw [List.getD_eq_getElem?_getD, List.getElem?_append_right h, List.getElem?_replicate]
  split <;> rfl
theorem run_append_zeros (w : World) (g n cap k : Nat) (ty : TypeId) (zs : List Int) (ho : w.ownsRow 0 50 1 (.slice (some ⟨g, 0, none⟩) n cap) n (zs.map (Value.int .u64))) (hk : k < 64) (hn : n ≤ 2000) :
    ∃ ad cap' w', (Builtin.append_ #[43, 3] ty #[.slice (some ⟨g, 0, none⟩) n cap, .int .i64 (k : Nat)]).run Tryz.prog w = .ok (.slice (some ad) (n + k) cap') w' ∧ RowU w' (some ad) (zs ++ List.replicate k 0) ∧ Fr (fun j => j = g) w w' := by
  obtain ⟨i0, hi, hz0, hz1, hz2⟩ := info_parts Tryz.info50
  have hzn : zs.length = n := by have := ho.1; simp at this; omega
  have hcell : ∀ i, i < n → w.cell? ⟨g, i, none⟩ = some (.int .u64 (zs.getD i 0)) := fun i hi => by
    rw [ho.cellAt i (by omega)]
    simp [show i < zs.length by omega, List.getD]
  obtain ⟨cur, hgb, hcap, hsz⟩ : ∃ cur : Array Value, w.heap[g]? = some (.cells cur 50 (0, 0)) ∧ n ≤ cap ∧ cur.size = cap := by
    rcases ho.2 with ⟨h', _⟩ | ⟨g', cap', cur, h', _, hg, hnc, _, hcs, _⟩
    · cases h'
    · simp only [Value.slice.injEq, Option.some.injEq, Addr.mk.injEq, and_true, true_and] at h'
      obtain ⟨rfl, rfl⟩ := h'
      exact ⟨cur, hg, hnc, by omega⟩
  have hw : IntKind.i64.wrap (k : Int) = k := by rw [IntKind.wrap_i64]; omega
  by_cases hroom : n + k ≤ cap
  · have hth : w.there g n k := fun j hj => by
      obtain ⟨h1, h2⟩ := block_cells hgb
      rw [h1, h2]
      simp [show n + j < cur.size by omega]
    have hst := run_storeCells_cells (P := Tryz.prog) g n (List.replicate k (Value.int .u64 0)) 0 w (by intro j hj; rw [Nat.add_zero]; exact (hth j (by simpa using hj)).1) (by intro j hj; rw [Nat.add_zero]; exact (hth j (by simpa using hj)).2) (by intro u hu; rw [(List.mem_replicate.1 hu).2]; rfl)
    simp only [Nat.add_zero] at hst
    refine ⟨⟨g, 0, none⟩, cap, w.setCells g n (List.replicate k (.int .u64 0)), ?_, ?_, Fr.setCells (T := fun j => j = g) (fun _ => rfl) _ _ _ (Fr.refl _ _)⟩
    · have hneg : ¬ ((k : Int) < 0) := by omega
      have h48i : ¬ (281474976710656 < (k : Int) * 8) := by omega
      have hz := zeros_toList k
      by_cases hk0 : k = 0
      · subst hk0
        simp [Builtin.append_, run_underlying Tryz.underlying43, run_underlying Tryz.underlying3, sizeOf, typeInfo, hi, hz2, asInt, asIntOf, IntKind.wrap_i64, hcap, Addr.add_lit, storeCells, World.setCells]
      · simp [Builtin.append_, run_underlying Tryz.underlying43, run_underlying Tryz.underlying3, sizeOf, typeInfo, zeroValue, hi, hz0, hz1, hz2, asInt, asIntOf, hw, hneg, h48i, hroom, hk0, hz, Addr.add_lit, hst]
    · intro i hi
      refine ⟨_, rfl, ?_⟩
      rw [Addr.add_lit, Nat.zero_add]
      by_cases hin : i < n
      · rw [World.cell?_setCells_out _ _ _ _ _ (fun _ _ => .inl hin), hcell i hin]
        rw [getD_left (by omega)]
      · have hik : i - n < k := by simp at hi; omega
        have := World.rangeAt_setCells_same w g n (List.replicate k (.int .u64 0)) (by simpa using hth) (i - n) (.int .u64 0) (by simp [hik])
        rw [show n + (i - n) = i by omega] at this
        rw [this, getD_zeros (by omega)]
  · have hold := run_firstCells_some (P := Tryz.prog) w.drew i0.size n ⟨g, 0, none⟩ n cap (zs.map (Value.int .u64)) (by simp [hz1, hzn]) (fun j v hv => by
      have hj : j < zs.length := by
        rcases Nat.lt_or_ge j zs.length with h | h
        · exact h
        · rw [List.getElem?_eq_none (by simpa using h)] at hv; cases hv
      rw [Addr.add_lit, Nat.zero_add]
      show w.cell? _ = _
      rw [hcell j (by omega)]
      simp [hj] at hv
      simp [List.getD, hj, hv])
    have hr := Lib.run_append_grow_zeros w 43 3 ty 50 i0 (.int .u64 0) .i64 .i64 Tryz.underlying43 Tryz.underlying3 hi hz0 (some ⟨g, 0, none⟩) n cap (zs.map (Value.int .u64)) hold k (by omega) (by omega) (by omega) (by omega) (by rw [hz2]; omega) (by rw [hz2]; exact growslice_fits (by omega) (by omega))
    refine ⟨_, _, _, hr, ?_, ((Fr.refl _ _).drew).alloc _⟩
    intro i hi
    refine ⟨_, rfl, ?_⟩
    rw [Addr.add_lit, Nat.zero_add]
    have hb := Go.Deep.blk_alloc_new w.drew (.cells ((zs.map (Value.int .u64)).toArray ++ Builtin.zeroCells (Value.int .u64 0).cells k ++ Builtin.zeroCells (Value.int .u64 0).cells (grownCap w (n + k) cap 50 - (n + k))) 50)
    have hc := (block_cells hb).1 i
    refine hc.trans ?_
    rw [← Array.getElem?_toList, Array.toList_append, Array.toList_append, zeros_toList, zeros_toList]
    by_cases hin : i < n
    · rw [List.getElem?_append_left (by simp; omega), List.getElem?_append_left (by simp; omega), getD_left (by omega)]
      simp [List.getD, show i < zs.length by omega]
    · rw [getD_zeros (by omega)]
      simp at hi
      rw [List.getElem?_append_left (by simp; omega), List.getElem?_append_right (by simp; omega)]
      simp [show i - zs.length < k by omega]
theorem wpList_append_zeros {ops : Array Oper} {rest : List Oper} {o : Oper} {a : Act} {w : World} {Q : Exit → Act → World → Prop} (hgd : o.guard = none) (s x : Operand)
    (hop : o.op = .call { callee := .builtin .append, args := #[s, x], argTypes := #[43, 3] }) (g n cap k : Nat) (zs : List Int) (hs : a.eval s = .slice (some ⟨g, 0, none⟩) n cap) (hx : a.eval x = .int .i64 (k : Nat))
    (ho : w.ownsRow 0 50 1 (.slice (some ⟨g, 0, none⟩) n cap) n (zs.map (Value.int .u64))) (hk : k < 64) (hn : n ≤ 2000)
    (h : ∀ ad cap' w', RowU w' (some ad) (zs ++ List.replicate k 0) → Fr (fun j => j = g) w w' → wpList Tryz.prog ops Q rest (a.put o.dst (.slice (some ad) (n + k) cap')) w') : wpList Tryz.prog ops Q (o :: rest) a w := by
  refine wpList_plain hgd fun K hK => ?_
  obtain ⟨ad, cap', w', hr, h2, h3⟩ := run_append_zeros w g n cap k o.type zs ho hk hn
  unfold Oper.wp execOp
  simp only [hop, resolve, invoke, builtin, Sem.run_bind, Sem.run_pure, Result.andThen_ok, List.map_toArray, List.map_cons, List.map_nil, hs, hx, hr]
  exact hK _ _ (h ad cap' w' h2 h3)
end Go.Proofs.YtbagcjlimdilpaaGreat
