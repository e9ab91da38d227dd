/- Texts that follow one another, joined. -/
import Derived.Test.YtbagcjlimdilpaaGreatHhPiB
import Derived.Test.YtbagcjlimdilpaaGreatHhPgC
import Derived.Test.YtbagcjlimdilpaaGreatHhJ13
import Derived.Test.YtbagcjlimdilpaaGreatHhJ10
import Derived.Test.YtbagcjlimdilpaaGreatHhJ12
import Derived.Test.YtbagcjlimdilpaaGreatHhPgH
/- Walks of the program's Copy of changes, Next of a head. -/
namespace Go.Proofs.YtbagcjlimdilpaaGreat
open Go.RowKit Go.Maps

theorem clone_any (mb : Nat) (es : Array MapEntry) (clock : Nat) (w : World) (hb : w.heap[mb]? = some (.map es clock)) :
    Calls Tryz.prog 156 #[.map (some mb)] w fun e w' => e = .returned (.map (some w.heap.size)) ∧ w' = w.alloc (.map es clock) := AnyW.maps_Clone Tryz.cloneA mb es clock w hb
set_option maxRecDepth 100000 in
theorem ccopy_any (cb tb mb : Nat) (ws now : List Int) (w : World) (hc : ChgIs w cb tb mb ws now) :
    Calls Tryz.prog 144 #[.pointer (some ⟨cb, 0, none⟩)] w fun e w' => ∃ cb' mb', e = .returned (.pointer (some ⟨cb', 0, none⟩)) ∧ ChgIs w' cb' tb mb' ws now ∧ w.heap.size ≤ cb' ∧ w.heap.size ≤ mb' ∧ Fr New w w' := by
  have hbl := hc.below
  have hmp := hc.map
  have hlt : cb < w.heap.size := lt_of_block hc.cg
  obtain ⟨D, ⟨es, clock, hb, r⟩, hd⟩ := hc.mp
  have HCL : Hid (Calls Tryz.prog 156 #[.map (some mb)] w fun e w' => e = .returned (.map (some w.heap.size)) ∧ w' = w.alloc (.map es clock)) := clone_any mb es clock w hb
  have HCD : Hid (Calls Tryz.prog 156 #[.map (some mb)] w.drew fun e w' => e = .returned (.map (some w.heap.size)) ∧ w' = w.drew.alloc (.map es clock)) := clone_any mb es clock w.drew hb
  have HF : Hid (∀ W, (W = w ∨ W = w.drew) → ChgIs ((W.alloc (.map es clock)).alloc (.cells #[.iface 97 (.pointer (some ⟨tb, 0, none⟩)), .map (some w.heap.size)] 168)) (w.heap.size + 1) tb w.heap.size ws now ∧ Fr New w ((W.alloc (.map es clock)).alloc (.cells #[.iface 97 (.pointer (some ⟨tb, 0, none⟩)), .map (some w.heap.size)] 168))) := fun W hW => by
    have hs : W.heap.size = w.heap.size := by rcases hW with rfl | rfl <;> rfl
    have hf : Fr New w W := by
      rcases hW with rfl | rfl
      · exact Fr.refl _ _
      · exact (Fr.refl _ _).drew
    refine ⟨⟨?_, ⟨D, ⟨es, clock, ?_, r⟩, hd⟩, hc.len, hc.un⟩, (hf.alloc _).alloc _⟩
    · exact new_at _ _ _ (by simp [hs])
    · rw [Go.Deep.blk_alloc_lt _ _ _ (by simp [hs]), ← hs]
      exact (MapKept.heap_alloc W _).1
  clear hc hb r hd
  go_enter Tryz.func144, Tryz.ntmps144
  go_upto_region 1 with fail
  go_region_with (first
    | (go_at_call 156; refine HCL.out.mono ?_; rintro e w2 ⟨rfl, rfl⟩)
    | (go_at_call 156; refine HCD.out.mono ?_; rintro e w2 ⟨rfl, rfl⟩))
  all_goals (try go_wp2_with fail)
  all_goals
    go_ret
    first
      | exact ⟨_, _, rfl, (HF.out w (.inl rfl)).1, by omega, Nat.le_refl _, (HF.out w (.inl rfl)).2⟩
      | exact ⟨_, _, rfl, (HF.out w.drew (.inr rfl)).1, by omega, Nat.le_refl _, (HF.out w.drew (.inr rfl)).2⟩
      | exact ⟨_, _, rfl, (HF.out w (.inl rfl)).1.fr ((Fr.refl New _).drew) id id, by omega, Nat.le_refl _, (HF.out w (.inl rfl)).2.drew⟩
      | exact ⟨_, _, rfl, (HF.out w.drew (.inr rfl)).1.fr ((Fr.refl New _).drew) id id, by omega, Nat.le_refl _, (HF.out w.drew (.inr rfl)).2.drew⟩
set_option maxRecDepth 100000 in
theorem next_any (x0 x1 x2 x3 x4 x5 x6 x7 : Int) (w : World) :
    Calls Tryz.prog 145 #[.agg #[.int .u64 x0, .int .u64 x1, .int .u64 x2, .int .u64 x3, .int .u64 x4, .int .u64 x5, .int .u64 x6, .int .u64 x7]] w fun e w' =>
      e = .returned (.agg #[.int .u64 x0, .int .u64 x1, .int .u64 (IntKind.u64.wrap (x2 + 1)), .int .u64 x3, .int .u64 x4, .int .u64 x5, .int .u64 x6, .int .u64 (sumL [x0, x1, IntKind.u64.wrap (x2 + 1), x3, x4, x5, x6])]) ∧ Fr New w w' := by
  have HS : Hid (∀ y w, Calls Tryz.prog 112 #[.agg #[.int .u64 x0, .int .u64 x1, .int .u64 y, .int .u64 x3, .int .u64 x4, .int .u64 x5, .int .u64 x6, .int .u64 x7]] w fun e w' => e = .returned (.agg #[.int .u64 x0, .int .u64 x1, .int .u64 y, .int .u64 x3, .int .u64 x4, .int .u64 x5, .int .u64 x6, .int .u64 (sumL [x0, x1, y, x3, x4, x5, x6])]) ∧ Fr New w w') := fun y w => sealed_any x0 x1 y x3 x4 x5 x6 x7 w
  go_enter Tryz.func145, Tryz.ntmps145
  go_wp2_with (go_at_call 112; refine (HS.out _ _).mono ?_; rintro e w1 ⟨rfl, hf1⟩; obtain ⟨hcc, hzz⟩ := block_cells (hf1.heap (k := w.heap.size + 1) (new_at2 w _ _) id))
  refine bodyPost_ret (v := .agg #[.int .u64 x0, .int .u64 x1, .int .u64 (IntKind.u64.wrap (x2 + 1)), .int .u64 x3, .int .u64 x4, .int .u64 x5, .int .u64 x6, .int .u64 (sumL [x0, x1, IntKind.u64.wrap (x2 + 1), x3, x4, x5, x6])]) (by simp [results, Tryz.results145, go_sem, hcc]) rfl ⟨rfl, ?_⟩
  have hf : Fr New w w1 := (((Fr.refl _ _).alloc _).alloc _).same hf1
  iterate 8 refine Fr.setCell ?_ (fun h => absurd h (by simp)) _
  exact hf
end Go.Proofs.YtbagcjlimdilpaaGreat
/- The walk of the program's toCommit: the records of a Commit. -/
namespace Go.Proofs.YtbagcjlimdilpaaGreat
open Go.RowKit Go.Maps

/-- the head behind one commit more -/
def nextH (now : List Int) : List Int := [wd now 0, wd now 1, IntKind.u64.wrap (wd now 2 + 1), wd now 3, wd now 4, wd now 5, wd now 6, sumL [wd now 0, wd now 1, IntKind.u64.wrap (wd now 2 + 1), wd now 3, wd now 4, wd now 5, wd now 6]]
theorem nextH_at (now : List Int) : wd (nextH now) 0 = wd now 0 ∧ wd (nextH now) 1 = wd now 1 ∧ wd (nextH now) 2 = IntKind.u64.wrap (wd now 2 + 1) ∧ wd (nextH now) 3 = wd now 3 ∧ wd (nextH now) 4 = wd now 4 ∧ wd (nextH now) 5 = wd now 5 ∧ wd (nextH now) 6 = wd now 6 ∧ wd (nextH now) 7 = sumL [wd now 0, wd now 1, IntKind.u64.wrap (wd now 2 + 1), wd now 3, wd now 4, wd now 5, wd now 6] := by
  unfold nextH
  generalize sumL [wd now 0, wd now 1, IntKind.u64.wrap (wd now 2 + 1), wd now 3, wd now 4, wd now 5, wd now 6] = s
  generalize IntKind.u64.wrap (wd now 2 + 1) = t
  exact ⟨rfl, rfl, rfl, rfl, rfl, rfl, rfl, rfl⟩
theorem nextH_big (now : List Int) (k : Nat) : wd (nextH now) (k + 8) = 0 := by
  unfold nextH
  generalize sumL [wd now 0, wd now 1, IntKind.u64.wrap (wd now 2 + 1), wd now 3, wd now 4, wd now 5, wd now 6] = s
  simp [wd]
/-- .. put over the words, up to the i-th -/
def headTo (now : List Int) : Nat → List Int
  | 0 => now
  | i + 1 => (headTo now i).set i (wd (nextH now) i)
theorem headTo_len (now : List Int) (i : Nat) : (headTo now i).length = now.length := by
  induction i with
  | zero => rfl
  | succ i ih => simp [headTo, ih]
theorem headTo_wd {now : List Int} (hl : 8 ≤ now.length) : ∀ (i q : Nat), i ≤ 8 → wd (headTo now i) q = if q < i then wd (nextH now) q else wd now q := by
  intro i
  induction i with
  | zero => intro q _; simp [headTo]
  | succ i ih =>
    intro q hi
    rw [headTo, wd_set (by rw [headTo_len]; omega), ih q (by omega)]
    by_cases hq : q = i
    · subst hq; rw [if_pos rfl, if_pos (by omega)]
    · rw [if_neg hq]
      by_cases hlt : q < i
      · rw [if_pos hlt, if_pos (by omega)]
      · rw [if_neg hlt, if_neg (by omega)]
theorem headTo_next {now : List Int} (hl : 8 ≤ now.length) : headTo now 8 = nextS now := by
  refine wd_ext (by rw [headTo_len, nextS_len]) (fun q => ?_)
  have hc : (countS now).length = now.length := by simp [countS]
  have ht : (countS now).take 7 = [wd now 0, wd now 1, IntKind.u64.wrap (wd now 2 + 1), wd now 3, wd now 4, wd now 5, wd now 6] := by
    match now, hl with
    | a :: b :: c :: d :: e :: f :: g :: r, _ => rfl
  rw [headTo_wd hl 8 q (Nat.le_refl _)]
  unfold nextS
  rw [wd_set (by omega), ht]
  unfold countS
  rw [wd_set (by omega)]
  by_cases hq : q < 8
  · rw [if_pos hq]
    obtain ⟨e0, e1, e2, e3, e4, e5, e6, e7⟩ := nextH_at now
    match q, hq with
    | 0, _ => rw [e0, if_neg (by decide), if_neg (by decide)]
    | 1, _ => rw [e1, if_neg (by decide), if_neg (by decide)]
    | 2, _ => rw [e2, if_neg (by decide), if_pos rfl]
    | 3, _ => rw [e3, if_neg (by decide), if_neg (by decide)]
    | 4, _ => rw [e4, if_neg (by decide), if_neg (by decide)]
    | 5, _ => rw [e5, if_neg (by decide), if_neg (by decide)]
    | 6, _ => rw [e6, if_neg (by decide), if_neg (by decide)]
    | 7, _ => rw [e7, if_pos rfl]
  · rw [if_neg hq, if_neg (by omega), if_neg (by omega)]
theorem index_head0 (x0 x1 x2 x3 x4 x5 x6 x7 : Int) (w : World) : (Instr.index 126 (.agg #[.int .u64 x0, .int .u64 x1, .int .u64 x2, .int .u64 x3, .int .u64 x4, .int .u64 x5, .int .u64 x6, .int .u64 x7]) (.int .i64 0)).run Tryz.prog w = .ok (.int .u64 x0) w := by kernel_rfl
theorem index_head1 (x0 x1 x2 x3 x4 x5 x6 x7 : Int) (w : World) : (Instr.index 126 (.agg #[.int .u64 x0, .int .u64 x1, .int .u64 x2, .int .u64 x3, .int .u64 x4, .int .u64 x5, .int .u64 x6, .int .u64 x7]) (.int .i64 1)).run Tryz.prog w = .ok (.int .u64 x1) w := by kernel_rfl
theorem index_head2 (x0 x1 x2 x3 x4 x5 x6 x7 : Int) (w : World) : (Instr.index 126 (.agg #[.int .u64 x0, .int .u64 x1, .int .u64 x2, .int .u64 x3, .int .u64 x4, .int .u64 x5, .int .u64 x6, .int .u64 x7]) (.int .i64 2)).run Tryz.prog w = .ok (.int .u64 x2) w := by kernel_rfl
theorem index_head3 (x0 x1 x2 x3 x4 x5 x6 x7 : Int) (w : World) : (Instr.index 126 (.agg #[.int .u64 x0, .int .u64 x1, .int .u64 x2, .int .u64 x3, .int .u64 x4, .int .u64 x5, .int .u64 x6, .int .u64 x7]) (.int .i64 3)).run Tryz.prog w = .ok (.int .u64 x3) w := by kernel_rfl
theorem index_head4 (x0 x1 x2 x3 x4 x5 x6 x7 : Int) (w : World) : (Instr.index 126 (.agg #[.int .u64 x0, .int .u64 x1, .int .u64 x2, .int .u64 x3, .int .u64 x4, .int .u64 x5, .int .u64 x6, .int .u64 x7]) (.int .i64 4)).run Tryz.prog w = .ok (.int .u64 x4) w := by kernel_rfl
theorem index_head5 (x0 x1 x2 x3 x4 x5 x6 x7 : Int) (w : World) : (Instr.index 126 (.agg #[.int .u64 x0, .int .u64 x1, .int .u64 x2, .int .u64 x3, .int .u64 x4, .int .u64 x5, .int .u64 x6, .int .u64 x7]) (.int .i64 5)).run Tryz.prog w = .ok (.int .u64 x5) w := by kernel_rfl
theorem index_head6 (x0 x1 x2 x3 x4 x5 x6 x7 : Int) (w : World) : (Instr.index 126 (.agg #[.int .u64 x0, .int .u64 x1, .int .u64 x2, .int .u64 x3, .int .u64 x4, .int .u64 x5, .int .u64 x6, .int .u64 x7]) (.int .i64 6)).run Tryz.prog w = .ok (.int .u64 x6) w := by kernel_rfl
theorem index_head7 (x0 x1 x2 x3 x4 x5 x6 x7 : Int) (w : World) : (Instr.index 126 (.agg #[.int .u64 x0, .int .u64 x1, .int .u64 x2, .int .u64 x3, .int .u64 x4, .int .u64 x5, .int .u64 x6, .int .u64 x7]) (.int .i64 7)).run Tryz.prog w = .ok (.int .u64 x7) w := by kernel_rfl
theorem index_head (l : List Int) (i : Nat) (hi : i < 8) (w : World) : (Instr.index 126 (headA l) (.int .i64 (i : Int))).run Tryz.prog w = .ok (.int .u64 (wd l i)) w := by
  match i, hi with
  | 0, _ => exact index_head0 _ _ _ _ _ _ _ _ w
  | 1, _ => exact index_head1 _ _ _ _ _ _ _ _ w
  | 2, _ => exact index_head2 _ _ _ _ _ _ _ _ w
  | 3, _ => exact index_head3 _ _ _ _ _ _ _ _ w
  | 4, _ => exact index_head4 _ _ _ _ _ _ _ _ w
  | 5, _ => exact index_head5 _ _ _ _ _ _ _ _ w
  | 6, _ => exact index_head6 _ _ _ _ _ _ _ _ w
  | 7, _ => exact index_head7 _ _ _ _ _ _ _ _ w
theorem next_head (now : List Int) (w : World) : Calls Tryz.prog 145 #[headA now] w fun e w' => e = .returned (headA (nextH now)) ∧ Fr New w w' := by
  obtain ⟨e0, e1, e2, e3, e4, e5, e6, e7⟩ := nextH_at now
  have := next_any (wd now 0) (wd now 1) (wd now 2) (wd now 3) (wd now 4) (wd now 5) (wd now 6) (wd now 7) w
  unfold headA
  rw [e0, e1, e2, e3, e4, e5, e6, e7]
  exact this
/-- the records of a Commit -/
def recsOf (ws nx : List Int) : List (Int × Int) := (difP ws nx).map (fun q : Nat => ((q : Int), wd nx q))
theorem nextH_U {now : List Int} (hu : ∀ z ∈ now, U z) (i : Nat) : U (wd (nextH now) i) := by
  have hw := wd_U hu
  have h1 : U (IntKind.u64.wrap (wd now 2 + 1)) := by rw [IntKind.wrap_u64]; unfold U; omega
  obtain ⟨e0, e1, e2, e3, e4, e5, e6, e7⟩ := nextH_at now
  match i with
  | 0 => rw [e0]; exact hw 0
  | 1 => rw [e1]; exact hw 1
  | 2 => rw [e2]; exact h1
  | 3 => rw [e3]; exact hw 3
  | 4 => rw [e4]; exact hw 4
  | 5 => rw [e5]; exact hw 5
  | 6 => rw [e6]; exact hw 6
  | 7 => rw [e7]; exact sumL_U _
  | k + 8 => rw [nextH_big]; exact ⟨by decide, by decide⟩
theorem recs_take {ws nx : List Int} {i : Nat} (hi : i < (difP ws nx).length) : (recsOf ws nx).take (i + 1) = (recsOf ws nx).take i ++ [(((difP ws nx)[i] : Int), wd nx (difP ws nx)[i])] := by
  have hl : i < (recsOf ws nx).length := by simpa [recsOf] using hi
  rw [List.take_succ_eq_append_getElem hl]
  simp [recsOf]
theorem rsCells_snoc (rs : List (Int × Int)) (x y : Int) : rsCells (rs ++ [(x, y)]) = rsCells rs ++ [.int .i64 x, .int .u64 y] := by simp [rsCells]

set_option maxHeartbeats 2000000 in
set_option maxRecDepth 100000 in
theorem toCommit_any (cb tb g mb : Nat) (ws now : List Int) (vs : Value) (w : World) (ht : ToldIs w tb g ws vs) (hc : ChgIs w cb tb mb ws now) (h8 : 8 ≤ ws.length) :
    Calls Tryz.prog 103 #[.pointer (some ⟨cb, 0, none⟩)] w fun e w' => ∃ v, e = .returned v ∧ OwnRs w.heap.size w' v (recsOf ws (nextS now)) ∧ Fr New w w' := by
  have HCP : Hid (Calls Tryz.prog 144 #[.pointer (some ⟨cb, 0, none⟩)] w fun e w' => ∃ cb' mb', e = .returned (.pointer (some ⟨cb', 0, none⟩)) ∧ ChgIs w' cb' tb mb' ws now ∧ w.heap.size ≤ cb' ∧ w.heap.size ≤ mb' ∧ Fr New w w') := ccopy_any cb tb mb ws now w hc
  have HHO : Hid (∀ w1, Fr New w w1 → Calls Tryz.prog 111 #[.iface 101 (.pointer (some ⟨cb, 0, none⟩))] w1 fun e w' => e = .returned (headA now) ∧ Fr New w1 w') := fun w1 hf => headOf_row _ _ _ _ _ now w1 (by rw [hc.len]; exact h8) (chg_row (ht.fr hf id id) (hc.fr hf id id))
  have HNX : Hid (∀ w1, Calls Tryz.prog 145 #[headA now] w1 fun e w' => e = .returned (headA (nextH now)) ∧ Fr New w1 w') := fun w1 => next_head now w1
  have HT : Hid (∀ w1, Fr New w w1 → ToldIs w1 tb g ws vs) := fun w1 hf => ht.fr hf id id
  have HIX : Hid (∀ i, i < 8 → ∀ w, (Instr.index 126 (headA (nextH now)) (.int .i64 ((i : Nat) : Int))).run Tryz.prog w = .ok (.int .u64 (wd (nextH now) i)) w) := fun i hi w => index_head (nextH now) i hi w
  have HU : Hid (∀ i, U (wd (nextH now) i)) := nextH_U hc.un
  have HL : Hid (now.length = ws.length ∧ 8 ≤ ws.length ∧ ws.length ≤ 1048576) := ⟨hc.len, h8, ht.len⟩
  have HNS : Hid (headTo now 8 = nextS now) := headTo_next (by rw [hc.len]; exact h8)
  obtain ⟨i0, hi0, hz0, hz1, hz2⟩ := info_parts Tryz.info199
  obtain ⟨hv, hhv⟩ : ∃ hv, hv = headA now := ⟨_, rfl⟩
  rw [← hhv] at HHO HNX
  obtain ⟨nv, hnv⟩ : ∃ nv, nv = headA (nextH now) := ⟨_, rfl⟩
  rw [← hnv] at HNX HIX
  obtain ⟨nx, hnx⟩ : ∃ nx, nx = nextS now := ⟨_, rfl⟩
  rw [← hnx] at HNS ⊢
  clear ht hc h8 hhv hnv hnx
  go_enter Tryz.func103, Tryz.ntmps103
  go_wp2_with (first
    | (go_at_call 144; refine HCP.out.mono ?_; rintro e w1 ⟨cb', mb', rfl, hC1, hcb, hmb, hf1⟩)
    | (go_at_call 111; refine (HHO.out _ hf1).mono ?_; rintro e w2 ⟨rfl, hf2⟩)
    | (go_at_call 145; refine (HNX.out _).mono ?_; rintro e w3 ⟨rfl, hf3⟩)
    | fail)
  have hC3 : ChgIs w3 cb' tb mb' ws (headTo now 0) := hC1.fr (hf2.same hf3) id id
  have hF3 : Fr New w w3 := (hf1.same hf2).same hf3
  clear hC1 hf1 hf2 hf3
  go_loopg [15] 8 (fun gh t wr => ∃ i : Nat, i ≤ 8 ∧ gh = 8 - i ∧ t = .int .i64 i ∧ ChgIs wr cb' tb mb' ws (headTo now i) ∧ Fr New w wr)
  case atStart => exact ⟨0, by omega, rfl, rfl, hC3, hF3⟩
  case round =>
    clear hC3 hF3
    obtain ⟨i, hi8, rfl, rfl, hC, hF⟩ := hrel
    by_cases hi : i < 8
    · have hix := HIX.out i hi
      have HPT : Hid (Calls Tryz.prog 59 #[.pointer (some ⟨cb', 0, none⟩), .int .i64 ((i : Nat) : Int), .int .u64 (wd (nextH now) i)] wr fun e w' => e = .returned (.tuple #[]) ∧ ChgIs w' cb' tb mb' ws ((headTo now i).set i (wd (nextH now) i)) ∧ Fr (fun k => k = mb') wr w' ∧ w'.heap.size = wr.heap.size) := cput_any cb' tb g mb' ws _ vs wr i _ (by have := HL.out; omega) (HU.out i) (HT.out wr hF) hC
      obtain ⟨z, hz⟩ : ∃ z, z = wd (nextH now) i := ⟨_, rfl⟩
      have HZ : Hid (headTo now (i + 1) = (headTo now i).set i z) := by show _ = _; rw [hz]; rfl
      rw [← hz] at hix HPT
      clear hz
      go_wp2_with (first
        | (go_at_call 59; refine HPT.out.mono ?_; rintro e w4 ⟨rfl, hC4, hf4, hs4⟩)
        | fail)
      go_roundg (8 - (i + 1))
      case measure => omega
      case rel => exact ⟨i + 1, by omega, rfl, by go_num, by rw [HZ.out]; exact hC4, hF.trans hf4 (fun j hj he => by omega)⟩
    · obtain rfl : i = 8 := by omega
      rw [HNS.out] at hC
      have HPL : Hid (Calls Tryz.prog 102 #[.pointer (some ⟨cb', 0, none⟩)] wr fun e w' => ∃ v, e = .returned v ∧ w'.ownsRow wr.heap.size 3 1 v (difP ws nx).length ((difP ws nx).map (fun q : Nat => Value.int .i64 (q : Int))) ∧ Fr New wr w') := places_any cb' tb mb' ws nx wr hC HL.out.2.2
      have hdl := difP_len ws nx
      have HLL := HL.out.2.2
      obtain ⟨wy, rfl⟩ : ∃ wy, wy = wr := ⟨wr, rfl⟩
      clear hi hi8 HNS HIX HU HNX HHO HCP
      go_wp2_with (first
        | (go_at_call 102; refine HPL.out.mono ?_; rintro e w5 ⟨vp, rfl, hop, hf5⟩; obtain ⟨ap, cp, rfl⟩ := own_slice hop)
        | fail)
      have hC5 := hC.fr hf5 id id
      have hF5 := hF.same hf5
      clear hC hF hf5 HPL
      go_loopg [6, 27] (difP ws nx).length (fun gh v t wr => ∃ i : Nat, i ≤ (difP ws nx).length ∧ gh = (difP ws nx).length - i ∧ t = .int .i64 i ∧ ChgIs wr cb' tb mb' ws nx ∧ Fr New w wr ∧ wr.ownsRow w.heap.size 199 2 v i (rsCells ((recsOf ws nx).take i)) ∧ wr.ownsRow wy.heap.size 3 1 (.slice ap (difP ws nx).length cp) (difP ws nx).length ((difP ws nx).map (fun q : Nat => Value.int .i64 (q : Int))))
      case atStart => exact ⟨0, by omega, rfl, rfl, hC5, hF5, by rw [List.take_zero]; exact World.ownsRow_nil _ _ _ _, hop⟩
      case round =>
        clear hC5 hF5 hop
        obtain ⟨i, hid, rfl, rfl, hC, hF, hO, hP⟩ := hrel
        by_cases hi : i < (difP ws nx).length
        · have hd0 : decide ((i : Int) < ((difP ws nx).length : Int)) = true := by simp; omega
          obtain ⟨gp, cp', hvv, _, hgp⟩ := hP.form (by omega)
          cases hvv
          have e0 : wr.cell? ⟨gp, i, none⟩ = some (.int .i64 (((difP ws nx)[i] : Nat) : Int)) := by
            have := hP.cellAt i (by omega)
            rw [this]
            simp [hi]
          obtain ⟨hq1, hq2⟩ := mem_difP.1 (List.getElem_mem hi)
          have HTK := recs_take hi
          have HRD : Hid (Calls Tryz.prog 70 #[.pointer (some ⟨cb', 0, none⟩), .int .i64 (((difP ws nx)[i] : Nat) : Int)] wr fun e w' => e = .returned (.int .u64 (wd nx (difP ws nx)[i])) ∧ w' = wr) := cread_any cb' tb g mb' ws nx vs wr _ hq1 (HT.out wr hF) hC
          obtain ⟨q, hq⟩ : ∃ q : Nat, q = (difP ws nx)[i] := ⟨_, rfl⟩
          rw [← hq] at e0 HTK HRD hq1
          obtain ⟨z, hz⟩ : ∃ z, z = wd nx q := ⟨_, rfl⟩
          rw [← hz] at HTK HRD
          have HTT : Hid ((recsOf ws nx).take (i + 1) = (recsOf ws nx).take i ++ [((q : Int), z)]) := HTK
          obtain ⟨a6, c6, rfl⟩ := own_slice hO
          clear hq hz hq2 HTK
          have HKP : Hid (∀ w2, Fr (fun k => (Value.slice a6 i c6).ownBlock = some k) wr w2 → ChgIs w2 cb' tb mb' ws nx ∧ w2.ownsRow wy.heap.size 3 1 (.slice (some ⟨gp, 0, none⟩) (difP ws nx).length cp) (difP ws nx).length ((difP ws nx).map (fun q : Nat => Value.int .i64 (q : Int)))) := fun w2 hf => by
            have hne : ∀ k o, (∀ c, o ≠ .cells c 199 (0, 0)) → wr.heap[k]? = some o → ¬ (Value.slice a6 i c6).ownBlock = some k := fun k o ho hk hv => by
              obtain ⟨_, c, hc⟩ := own_block hO hv
              rw [hk] at hc
              exact ho c (by simpa using hc)
            refine ⟨hC.fr hf (hne _ _ (fun c e => by simp at e) hC.cg) ?_, hf.owns hP (fun k hk => ?_)⟩
            · obtain ⟨D, ⟨es, clock, hb, _⟩, _⟩ := hC.mp
              exact hne _ _ (fun c e => by cases e) hb
            · obtain ⟨_, c, hc⟩ := own_block hP hk
              exact hne _ _ (fun c e => by simp at e) hc
          go_wp2_with (first
            | (go_at_call 70; refine calls_same HRD.out ?_)
            | (at_builtin; refine wpList_append_own _ rfl (.tmp 31) (.tmp 37) 155 rfl w.heap.size 199 i0 _ 2 16 Tryz.underlying155 hi0 hz0 hz1 hz2 rfl (by decide) _ _ _ rfl (hO.alloc _) ⟨wr.heap.size, 0, none⟩ 1 1 [.int .i64 (q : Int), .int .u64 z] rfl rfl (World.news_of_block (Go.Deep.blk_alloc_new wr _)) (rec_one q z) (by unfold maxLen; omega) (by omega) (by have := hF.size; simp; omega) ?_; intro v2 w2 ho2 hg2 _)
            | fail)
          have hk2 := HKP.out w2 (((Fr.refl _ _).alloc _).grown hg2 (fun k _ h => h))
          have hF2 : Fr New w w2 := (hF.alloc _).grown hg2 (fun k hk hv => by have := (hO.lt k hv).1; omega)
          have hO2 : w2.ownsRow w.heap.size 199 2 v2 (i + 1) (rsCells ((recsOf ws nx).take (i + 1))) := by
            rw [HTT.out, rsCells_snoc]
            exact ho2
          clear ho2 hg2
          go_roundg ((difP ws nx).length - (i + 1))
          case measure => omega
          case rel => exact ⟨i + 1, by omega, rfl, by go_num, hk2.1, hF2, hO2, hk2.2⟩
        · obtain rfl : i = (difP ws nx).length := by omega
          have hd0 : decide (((difP ws nx).length : Int) < ((difP ws nx).length : Int)) = false := by simp
          rw [List.take_of_length_le (by simp [recsOf])] at hO
          obtain ⟨a6, c6, rfl⟩ := own_slice hO
          go_wp2
          go_ret
          refine ⟨_, rfl, ?_, hF⟩
          unfold OwnRs
          rw [show (recsOf ws nx).length = (difP ws nx).length by simp [recsOf]]
          exact hO
end Go.Proofs.YtbagcjlimdilpaaGreat
/- The walk of the program's Commit. -/
namespace Go.Proofs.YtbagcjlimdilpaaGreat
open Go.RowKit Go.Maps

theorem drop_to (cb tb mb : Nat) (ws now ws' : List Int) (w : World) (hc : ChgIs w cb tb mb ws now) (hU : ∀ z ∈ ws', U z) :
    Calls Tryz.prog 52 #[.pointer (some ⟨cb, 0, none⟩)] w fun e w' => e = .returned (.tuple #[]) ∧ ChgIs w' cb tb mb ws' ws' ∧ Fr (fun k => k = mb) w w' ∧ w'.heap.size = w.heap.size := by
  have hmp := hc.map
  obtain ⟨D, ⟨es, clock, hb, hF, _⟩, hd⟩ := hc.mp
  have hcl := fun ty => clear_map (w := w) ty hb
  have hne : cb ≠ mb := by rintro rfl; rw [hc.cg] at hb; cases hb
  go_enter Tryz.func52, Tryz.ntmps52
  go_wp2
  go_end0
  have hfr : Fr (fun k => k = mb) w (Go.ChangeMaps.setBlock w mb (.map #[] clock)) := ⟨rfl, rfl, rfl, by simp [Go.ChangeMaps.setBlock], fun k hk hn => by simp [Go.ChangeMaps.setBlock, Ne.symm hn]⟩
  exact ⟨rfl, ⟨hfr.heap hc.cg hne, ⟨.map [], ⟨#[], clock, by simp [Go.ChangeMaps.setBlock, lt_of_block hb], ⟨by simp, Go.MapKept.stamped_empty clock, by simp⟩, by simp, by simp⟩, diff_none ws'⟩, rfl, hU⟩, hfr, by simp [Go.ChangeMaps.setBlock]⟩
theorem difP_none {ws now : List Int} (hl : now.length = ws.length) : difP ws now = [] ↔ now = ws := by
  constructor
  · intro h
    refine wd_ext hl (fun q => ?_)
    by_cases hq : q < ws.length
    · by_cases he : wd now q = wd ws q
      · exact he
      · have : q ∈ difP ws now := mem_difP.2 ⟨hq, he⟩
        rw [h] at this; cases this
    · simp only [wd, List.getD]
      rw [List.getElem?_eq_none (by omega), List.getElem?_eq_none (by omega)]
  · rintro rfl
    rw [List.eq_nil_iff_forall_not_mem]
    intro q hq
    exact (mem_difP.1 hq).2 rfl
theorem recs_len (ws nx : List Int) : (recsOf ws nx).length = (difP ws nx).length := by simp [recsOf]
theorem recs_in {ws nx : List Int} : ∀ r ∈ recsOf ws nx, 0 ≤ r.1 ∧ r.1 < (ws.length : Int) := fun r hr => by
  simp only [recsOf, List.mem_map] at hr
  obtain ⟨q, hq, rfl⟩ := hr
  have := (mem_difP.1 hq).1
  exact ⟨by simp only; omega, by simp only; omega⟩
theorem set_U {ws : List Int} {q : Nat} {v : Int} (h : ∀ z ∈ ws, U z) (hv : U v) : ∀ z ∈ ws.set q v, U z := fun z hz => by
  rcases List.mem_or_eq_of_mem_set hz with h' | rfl
  · exact h z h'
  · exact hv
theorem putsW_U {rs : List (Int × Int)} : ∀ {ws : List Int}, (∀ z ∈ ws, U z) → (∀ r ∈ rs, U r.2) → ∀ z ∈ putsW ws rs, U z := by
  induction rs with
  | nil => intro ws h _; exact h
  | cons r rs ih =>
    intro ws h hr
    exact ih (set_U h (hr r (by simp))) (fun r' h' => hr r' (by simp [h']))
theorem nextS_U {now : List Int} (h : ∀ z ∈ now, U z) : ∀ z ∈ nextS now, U z := set_U (set_U h (by rw [IntKind.wrap_u64]; unfold U; omega)) (sumL_U _)
/-- the words behind a Commit, and the stores that it made -/
def pcommitW (ws now : List Int) : List Int := carryW (enterW ws (recsOf ws (nextS now))) (recsOf ws (nextS now))
def pcommitSt (ws now : List Int) : List St := enterSt (recsOf ws (nextS now)) ++ carrySt (recsOf ws (nextS now))
theorem flatR_U {rs : List (Int × Int)} (h : ∀ r ∈ rs, U r.1 ∧ U r.2) : ∀ z ∈ flatR rs, U z := fun z hz => by
  simp only [flatR, List.mem_flatMap, List.mem_cons, List.not_mem_nil, or_false] at hz
  obtain ⟨r, hr, rfl | rfl⟩ := hz
  · exact (h r hr).1
  · exact (h r hr).2
theorem pcommitW_U {ws now : List Int} (hw : ∀ z ∈ ws, U z) (hn : ∀ z ∈ now, U z) (hl : ws.length ≤ 1048576) (h48 : (recsOf ws (nextS now)).length ≤ 48) : ∀ z ∈ pcommitW ws now, U z := by
  have hr : ∀ r ∈ recsOf ws (nextS now), U r.1 ∧ U r.2 := fun r hr => by
    have h1 := recs_in r hr
    simp only [recsOf, List.mem_map] at hr
    obtain ⟨q, hq, rfl⟩ := hr
    exact ⟨by simp only at h1; unfold U; simp only; omega, wd_U (nextS_U hn) q⟩
  refine set_U (putsW_U (set_U (set_U (putsW_U hw ?_) (sumL_U _)) (by unfold U; omega)) (fun r h => (hr r h).2)) (by unfold U; omega)
  intro r h
  simp only [logPs, List.mem_map] at h
  obtain ⟨j, _, rfl⟩ := h
  exact wd_U (flatR_U hr) j
theorem pcommitW_len (ws now : List Int) : (pcommitW ws now).length = ws.length := by simp [pcommitW, carryW, putsW_len, enterW_len]
/-- what Commit makes -/
def CommitTo (hb tb cb mb g : Nat) (vs : Value) (ws now : List Int) (st : List St) (w : World) (c : Int) (w' : World) : Prop :=
  (now = ws ∧ c = 0 ∧ PH hb tb cb mb g vs ws now st w' ∧ Fr New w w') ∨
  (now ≠ ws ∧ 48 < (recsOf ws (nextS now)).length ∧ c = 4 ∧ PH hb tb cb mb g vs ws now st w' ∧ Fr New w w') ∨
  (now ≠ ws ∧ (recsOf ws (nextS now)).length ≤ 48 ∧ c = 0 ∧ ∃ vs', PH hb tb cb mb g vs' (pcommitW ws now) (pcommitW ws now) (st ++ pcommitSt ws now) w' ∧ Fr (TurnedP tb mb g vs) w w' ∧ Moved w vs vs')

set_option maxHeartbeats 2000000 in
set_option maxRecDepth 100000 in
theorem jcommit_any (hb tb cb mb g : Nat) (vs : Value) (ws now : List Int) (st : List St) (w : World) (h : PH hb tb cb mb g vs ws now st w) (h2 : wd now 2 = wd ws 2) (hl : st.length ≤ 1099511000000) :
    Calls Tryz.prog 53 #[.pointer (some ⟨tb, 0, none⟩), .pointer (some ⟨cb, 0, none⟩)] w fun e w' => ∃ c, e = .returned (.int .i64 c) ∧ CommitTo hb tb cb mb g vs ws now st w c w' := by
  have hlens := h.lens
  have HPL : Hid (Calls Tryz.prog 102 #[.pointer (some ⟨cb, 0, none⟩)] w fun e w' => ∃ v, e = .returned v ∧ w'.ownsRow w.heap.size 3 1 v (difP ws now).length ((difP ws now).map (fun q : Nat => Value.int .i64 (q : Int))) ∧ Fr New w w') := places_any cb tb mb ws now w h.cg (by omega)
  have HTC : Hid (∀ w1, Fr New w w1 → Calls Tryz.prog 103 #[.pointer (some ⟨cb, 0, none⟩)] w1 fun e w' => ∃ v, e = .returned v ∧ OwnRs w1.heap.size w' v (recsOf ws (nextS now)) ∧ Fr New w1 w') := fun w1 hf => toCommit_any cb tb g mb ws now vs w1 (h.new hf).tg.t (h.new hf).cg (by omega)
  have HNW : Hid (∀ w1, Fr New w w1 → PH hb tb cb mb g vs ws now st w1) := fun w1 hf => h.new hf
  by_cases he : now = ws
  · have hd : (difP ws now).length = 0 := by rw [(difP_none h.len).2 he]; rfl
    rw [hd] at HPL
    clear hd hlens HTC h2
    go_enter Tryz.func53, Tryz.ntmps53
    go_wp2_with (first
      | (go_at_call 102; refine HPL.out.mono ?_; rintro e w1 ⟨v, rfl, hop, hf1⟩; obtain ⟨a1, c1, rfl⟩ := own_slice hop)
      | fail)
    go_ret
    exact ⟨0, rfl, .inl ⟨he, rfl, HNW.out _ hf1, hf1⟩⟩
  · have hd0 : (difP ws now).length ≠ 0 := fun e => he ((difP_none h.len).1 (List.length_eq_zero_iff.1 e))
    have hdl := difP_len ws now
    have hrl : (recsOf ws (nextS now)).length ≤ ws.length := by rw [recs_len]; exact difP_len _ _
    have hr1 : 1 ≤ (recsOf ws (nextS now)).length := by
      rw [recs_len]
      have hm : 2 ∈ difP ws (nextS now) := mem_difP.2 ⟨by omega, by
        unfold nextS countS
        rw [wd_set (by simp; rw [h.len]; omega), if_neg (by decide), wd_set (by rw [h.len]; omega), if_pos rfl, ← h2]
        have := wd_U h.unow 2
        rw [IntKind.wrap_u64]
        unfold U at this
        omega⟩
      exact List.length_pos_of_mem hm
    obtain ⟨n, hn⟩ : ∃ n, n = (difP ws now).length := ⟨_, rfl⟩
    rw [← hn] at HPL hd0 hdl
    have hdn : ((n : Int) == 0) = false := by simp; omega
    have HRI : Hid (∀ r ∈ recsOf ws (nextS now), 0 ≤ r.1 ∧ r.1 < (ws.length : Int)) := recs_in
    by_cases h48 : 48 < (recsOf ws (nextS now)).length
    · have HFN : Hid (∀ w1, Fr New w w1 → CommitTo hb tb cb mb g vs ws now st w 4 w1) := fun w1 hf => .inr (.inl ⟨he, h48, rfl, HNW.out w1 hf, hf⟩)
      obtain ⟨m, hm⟩ : ∃ m, m = (recsOf ws (nextS now)).length := ⟨_, rfl⟩
      have HTM : Hid (∀ w1, Fr New w w1 → Calls Tryz.prog 103 #[.pointer (some ⟨cb, 0, none⟩)] w1 fun e w' => ∃ a c, e = .returned (.slice a m c) ∧ Fr New w1 w') := fun w1 hf => (HTC.out w1 hf).mono (by
        rintro e w' ⟨v, rfl, ho, hf'⟩
        obtain ⟨a, c, rfl⟩ := own_slice ho
        exact ⟨a, c, by rw [hm], hf'⟩)
      rw [← hm] at h48 hrl
      clear hm HTC hr1 hn he h h2 HRI
      go_enter Tryz.func53, Tryz.ntmps53
      go_wp2_with (first
        | (go_at_call 102; refine HPL.out.mono ?_; rintro e w1 ⟨v, rfl, hop, hf1⟩; obtain ⟨a1, c1, rfl⟩ := own_slice hop)
        | (go_at_call 103; refine (HTM.out w1 hf1).mono ?_; rintro e w2 ⟨a2, c2, rfl, hf2⟩)
        | fail)
      go_ret
      exact ⟨4, rfl, HFN.out _ (hf1.same hf2)⟩
    · have HEN : Hid (∀ w1 v, Fr New w w1 → OwnRs w.heap.size w1 v (recsOf ws (nextS now)) → Calls Tryz.prog 104 #[.pointer (some ⟨tb, 0, none⟩), v] w1 fun e w' => e = .returned (.tuple #[]) ∧ ∃ vs', TG tb g vs' (enterW ws (recsOf ws (nextS now))) (st ++ enterSt (recsOf ws (nextS now))) w' ∧ Fr (TurnedT tb g vs) w1 w' ∧ Moved w1 vs vs') := fun w1 v hf ho => enter_told tb g vs ws st _ v _ w1 (h.new hf).tg ho (fun r hr => by have := HRI.out r hr; omega) hr1 (by omega) (by omega) (by omega)
      have HCO : Hid (∀ w1 v vs1, TG tb g vs1 (enterW ws (recsOf ws (nextS now))) (st ++ enterSt (recsOf ws (nextS now))) w1 → OwnRs w.heap.size w1 v (recsOf ws (nextS now)) → Calls Tryz.prog 97 #[.pointer (some ⟨tb, 0, none⟩), v] w1 fun e w' => e = .returned (.tuple #[]) ∧ ∃ vs', TG tb g vs' (pcommitW ws now) (st ++ pcommitSt ws now) w' ∧ Fr (TurnedT tb g vs1) w1 w' ∧ Moved w1 vs1 vs') := fun w1 v vs1 ht ho => by
        have := carry_told tb g vs1 _ _ _ v _ w1 ht ho (fun r hr => by rw [enterW_len]; exact HRI.out r hr) (by rw [enterW_len]; omega) (by simp [enterSt, putsSt, logPs]; omega)
        rw [List.append_assoc] at this
        exact this
      have HUW : Hid (∀ z ∈ pcommitW ws now, U z) := pcommitW_U h.uw h.unow (by omega) (by omega)
      have HKR : Hid (∀ w1 w2 v, Fr New w w1 → Fr (TurnedT tb g vs) w1 w2 → OwnRs w.heap.size w1 v (recsOf ws (nextS now)) → OwnRs w.heap.size w2 v (recsOf ws (nextS now))) := fun w1 w2 v hf hf' ho => recs_kept (h.new hf).tg hf' ho
      have HCG : Hid (∀ w', Fr (TurnedT tb g vs) w w' → ChgIs w' cb tb mb ws now ∧ w'.heap[hb]? = w.heap[hb]?) := fun w' hf => by
        have hno : ∀ k o, (∀ c, o ≠ .cells c 108 (0, 0)) → (∀ c, o ≠ .cells c 50 (0, 0)) → (∀ c, o ≠ .cells c 122 (0, 0)) → w.heap[k]? = some o → ¬ TurnedT tb g vs k := fun k o o1 o2 o3 hk ht => by
          rcases ht with e | e | e
          · subst e; rw [h.tg.t.td] at hk; exact o1 _ (by simpa using hk.symm)
          · subst e; rw [h.tg.t.wb] at hk; exact o2 _ (by simpa using hk.symm)
          · obtain ⟨_, c, hc⟩ := own_block h.tg.o e
            rw [hc] at hk; exact o3 c (by simpa using hk.symm)
        refine ⟨h.cg.fr hf (hno _ _ (fun c e => by simp at e) (fun c e => by simp at e) (fun c e => by simp at e) h.cg.cg) ?_, hf.block hb (lt_of_block h.hp) (hno _ _ (fun c e => by simp at e) (fun c e => by simp at e) (fun c e => by simp at e) h.hp)⟩
        obtain ⟨D, ⟨es, clock, hb', _⟩, _⟩ := h.cg.mp
        exact hno _ _ (fun c e => by cases e) (fun c e => by cases e) (fun c e => by cases e) hb'
      have HDR : Hid (∀ w1, ChgIs w1 cb tb mb ws now → Calls Tryz.prog 52 #[.pointer (some ⟨cb, 0, none⟩)] w1 fun e w' => e = .returned (.tuple #[]) ∧ ChgIs w' cb tb mb (pcommitW ws now) (pcommitW ws now) ∧ Fr (fun k => k = mb) w1 w' ∧ w'.heap.size = w1.heap.size) := fun w1 hc => drop_to cb tb mb ws now _ w1 hc HUW.out
      have HFN : Hid (∀ w1 w2 vs2, Fr (TurnedT tb g vs) w w1 → Moved w vs vs2 → TG tb g vs2 (pcommitW ws now) (st ++ pcommitSt ws now) w1 → ChgIs w2 cb tb mb (pcommitW ws now) (pcommitW ws now) → Fr (fun k => k = mb) w1 w2 → CommitTo hb tb cb mb g vs ws now st w 0 w2) := fun w1 w2 vs2 f1 m1 t1 c2 f2 => by
        have hmn : ∀ {k : Nat} {cs : Array Value} {t : TypeId} {f : Nat × Nat}, w1.heap[k]? = some (.cells cs t f) → k ≠ mb := fun hk e => by
          subst e
          obtain ⟨D, ⟨es, clock, hb', _⟩, _⟩ := (HCG.out w1 f1).1.mp
          rw [hk] at hb'; cases hb'
        have hp1 : w1.heap[hb]? = some _ := (HCG.out w1 f1).2.trans h.hp
        refine .inr (.inr ⟨he, by omega, rfl, vs2, ⟨f2.heap hp1 (hmn hp1), t1.fr f2 (hmn t1.t.td) (hmn t1.t.wb) (fun k hk => ?_), c2, HUW.out, by rw [pcommitW_len]; exact h.n0⟩, ?_, m1⟩)
        · obtain ⟨_, c, hc⟩ := own_block t1.o hk
          exact hmn hc
        · refine (f1.mono (fun j _ ht => ?_)).trans f2 (fun j _ e => .inr (.inl e))
          rcases ht with e | e | e
          · exact .inl e
          · exact .inr (.inr (.inl e))
          · exact .inr (.inr (.inr e))
      have HTC2 : Hid (∀ w1, Fr New w w1 → Calls Tryz.prog 103 #[.pointer (some ⟨cb, 0, none⟩)] w1 fun e w' => ∃ v, e = .returned v ∧ OwnRs w.heap.size w' v (recsOf ws (nextS now)) ∧ Fr New w1 w') := fun w1 hf => (HTC.out w1 hf).mono (by
        rintro e w' ⟨v, rfl, ho, hf'⟩
        exact ⟨v, rfl, ⟨ho.1, ho.2.imp id (fun ⟨g, cap, cur, e, hbg, r⟩ => ⟨g, cap, cur, e, Nat.le_trans hf.size hbg, r⟩)⟩, hf'⟩)
      obtain ⟨rs, hrs⟩ : ∃ rs, rs = recsOf ws (nextS now) := ⟨_, rfl⟩
      rw [← hrs] at HEN HCO HKR HTC2 h48 hrl
      clear hrs HTC hr1 hn he h h2 HRI HNW HUW
      go_enter Tryz.func53, Tryz.ntmps53
      go_wp2_with (first
        | (go_at_call 102; refine HPL.out.mono ?_; rintro e w1 ⟨v, rfl, hop, hf1⟩; obtain ⟨a1, c1, rfl⟩ := own_slice hop)
        | (go_at_call 103; refine (HTC2.out w1 hf1).mono ?_; rintro e w2 ⟨v2, rfl, ho2, hf2⟩; have hf12 := hf1.same hf2; have HE2 := HEN.out w2 v2 hf12 ho2; have HK2 := HKR.out w2; obtain ⟨a2, c2, rfl⟩ := own_slice ho2)
        | (go_at_call 104; refine HE2.mono ?_; rintro e w3 ⟨rfl, vs3, hT3, hf3, hm3⟩; have ho3 := HK2 w3 _ hf12 hf3 ho2; have HC3 := HCO.out w3 _ vs3 hT3 ho3)
        | (go_at_call 97; refine HC3.mono ?_; rintro e w4 ⟨rfl, vs4, hT4, hf4, hm4⟩; have fA : Fr (TurnedT tb g vs) w w3 := (hf12.mono (fun _ _ h => h.elim)).trans hf3 (fun _ _ h => h); have mA : Moved w vs vs3 := (Moved.refl w vs).trans hm3 hf12.size; have fB := turned_trans fA mA hf4; have mB := mA.trans hm4 fA.size; have HD4 := HDR.out w4 (HCG.out w4 fB).1)
        | (go_at_call 52; refine HD4.mono ?_; rintro e w5 ⟨rfl, hC5, hf5, _⟩)
        | fail)
      go_ret
      exact ⟨0, rfl, HFN.out w4 w5 vs4 fB mB hT4 hC5 hf5⟩
end Go.Proofs.YtbagcjlimdilpaaGreat
/- Mathematics of a heap's Commit: its words behind it. -/
namespace Go.Proofs.YtbagcjlimdilpaaGreat

/-- a heap's words, as they are kept and as they are now -/
structure HW (ws now : List Int) : Prop where
  gw : Good ws
  gn : Good now
  sum : wd ws 7 = sumL (ws.take 7)
  len : now.length = ws.length
  same : ∀ q, q < 3 ∨ 7 ≤ q → q < 106 → wd now q = wd ws q
/-- words that say the same of objects and roots -/
structure Like (a b : List Int) : Prop where
  ob : objs a = objs b
  words : ∀ o ∈ objs b, objW a o = objW b o
  roots : ∀ r, r < 4 → wd a (3 + r) = wd b (3 + r)
theorem like_of {a b : List Int} (hl : a.length = b.length) (hr : ∀ r, r < 4 → wd a (3 + r) = wd b (3 + r)) (hw : ∀ q, 106 ≤ q → wd a q = wd b q) : Like a b :=
  ⟨(objs_congr hl (fun c => hw _ (by omega))).1, fun o _ => objW_congr (fun i _ => hw _ (by unfold pl; omega)), hr⟩

theorem wd_out {a : List Int} {q : Nat} (h : a.length ≤ q) : wd a q = 0 := by unfold wd; simp [List.getD, h]
/-- words that are put: the last one stands -/
theorem putsW_no {rs : List (Int × Int)} {q : Nat} : ∀ {a : List Int}, (∀ r ∈ rs, r.1.toNat ≠ q) → wd (putsW a rs) q = wd a q := by
  induction rs with
  | nil => intro a _; rfl
  | cons r rs ih =>
    intro a h
    rw [show putsW a (r :: rs) = putsW (a.set r.1.toNat r.2) rs from rfl, ih (fun x hx => h x (List.mem_cons_of_mem _ hx))]
    by_cases hl : r.1.toNat < a.length
    · rw [wd_set hl, if_neg (fun e => h r (by simp) e.symm)]
    · rw [List.set_eq_of_length_le (by omega)]
theorem putsW_yes {rs : List (Int × Int)} {q : Nat} {v : Int} : ∀ {a : List Int}, q < a.length → (∃ r ∈ rs, r.1.toNat = q) → (∀ r ∈ rs, r.1.toNat = q → r.2 = v) → wd (putsW a rs) q = v := by
  induction rs with
  | nil => intro a _ h; obtain ⟨r, hr, _⟩ := h; cases hr
  | cons r rs ih =>
    intro a hq h hv
    rw [show putsW a (r :: rs) = putsW (a.set r.1.toNat r.2) rs from rfl]
    by_cases hx : ∃ r ∈ rs, r.1.toNat = q
    · exact ih (by simpa using hq) hx (fun x hx => hv x (List.mem_cons_of_mem _ hx))
    · rw [putsW_no (fun x hx' e => hx ⟨x, hx', e⟩)]
      obtain ⟨x, hx1, hx2⟩ := h
      rcases List.mem_cons.1 hx1 with rfl | hx1
      · rw [wd_set (by omega), if_pos hx2.symm]; exact hv x (by simp) hx2
      · exact absurd ⟨x, hx1, hx2⟩ hx
theorem recs_mem {ws nx : List Int} {r : Int × Int} : r ∈ recsOf ws nx ↔ ∃ q, q < ws.length ∧ wd nx q ≠ wd ws q ∧ r = ((q : Int), wd nx q) := by
  simp only [recsOf, List.mem_map, mem_difP]
  constructor
  · rintro ⟨q, ⟨h1, h2⟩, rfl⟩; exact ⟨q, h1, h2, rfl⟩
  · rintro ⟨q, h1, h2, rfl⟩; exact ⟨q, ⟨h1, h2⟩, rfl⟩
/-- records put over words that are the old or the new ones: the new ones -/
theorem putsW_recs {ws nx a : List Int} (hl : a.length = ws.length) (hn : nx.length = ws.length) {q : Nat} (ha : wd a q = wd ws q ∨ wd a q = wd nx q) : wd (putsW a (recsOf ws nx)) q = wd nx q := by
  by_cases hq : q < ws.length
  · by_cases he : wd nx q = wd ws q
    · rw [putsW_no (fun r hr e => by
        obtain ⟨q', h1, h2, rfl⟩ := recs_mem.1 hr
        simp at e
        subst e
        exact h2 he)]
      rcases ha with ha | ha
      · rw [ha, he]
      · exact ha
    · refine putsW_yes (by omega) ⟨_, recs_mem.2 ⟨q, hq, he, rfl⟩, by simp⟩ (fun r hr e => ?_)
      obtain ⟨q', h1, h2, rfl⟩ := recs_mem.1 hr
      simp at e
      subst e
      rfl
  · rw [wd_out (by rw [putsW_len]; omega), wd_out (by omega)]
theorem logPs_mem {ls : List Int} {i : Nat} {r : Int × Int} : r ∈ logPs ls i ↔ ∃ j, j < i ∧ r = (((10 + j : Nat) : Int), wd ls j) := by
  simp only [logPs, List.mem_map, List.mem_range]
  constructor
  · rintro ⟨j, h, rfl⟩; exact ⟨j, h, rfl⟩
  · rintro ⟨j, h, rfl⟩; exact ⟨j, h, rfl⟩
/-- what is entered lies in the log -/
theorem enter_out {ws : List Int} {rs : List (Int × Int)} (hL : 114 ≤ ws.length) (h48 : rs.length ≤ 48) {q : Nat} (hq : q < 8 ∨ 106 ≤ q) : wd (enterW ws rs) q = wd ws q := by
  unfold enterW
  rw [wd_set (by simp [putsW_len]; omega), if_neg (by omega), wd_set (by simp [putsW_len]; omega), if_neg (by omega)]
  refine putsW_no (fun r hr e => ?_)
  obtain ⟨j, hj, rfl⟩ := logPs_mem.1 hr
  simp at e
  omega
/-- outside the log a Commit leaves the next words -/
theorem pcommit_out {ws now : List Int} (hL : 114 ≤ ws.length) (hn : now.length = ws.length) (h48 : (recsOf ws (nextS now)).length ≤ 48) {q : Nat} (hq : q < 8 ∨ 106 ≤ q) : wd (pcommitW ws now) q = wd (nextS now) q := by
  unfold pcommitW carryW
  rw [wd_set (by rw [putsW_len, enterW_len]; omega), if_neg (by omega)]
  exact putsW_recs (enterW_len _ _) (by rw [nextS_len]; exact hn) (.inl (enter_out hL h48 hq))
theorem pcommit_log {ws now : List Int} (hL : 114 ≤ ws.length) : wd (pcommitW ws now) 8 = 0 := by
  unfold pcommitW carryW
  rw [wd_set (by rw [putsW_len, enterW_len]; omega), if_pos rfl]
theorem nextS_wd {now : List Int} (hL : 114 ≤ now.length) (q : Nat) : wd (nextS now) q = if q = 7 then sumL ((countS now).take 7) else if q = 2 then IntKind.u64.wrap (wd now 2 + 1) else wd now q := by
  unfold nextS
  rw [wd_set (by simp [countS]; omega)]
  by_cases h7 : q = 7
  · rw [if_pos h7, if_pos h7]
  · rw [if_neg h7, if_neg h7]
    unfold countS
    rw [wd_set (by omega)]
theorem take_ext {a b : List Int} (n : Nat) (ha : n ≤ a.length) (hb : n ≤ b.length) (h : ∀ q, q < n → wd a q = wd b q) : a.take n = b.take n := by
  refine List.ext_getElem (by simp; omega) (fun i h1 h2 => ?_)
  have hi : i < n := by simp at h1; omega
  have := h i hi
  simp only [wd, List.getD, List.getElem?_eq_getElem (show i < a.length by omega), List.getElem?_eq_getElem (show i < b.length by omega)] at this
  simpa using this
/-- A COMMIT KEEPS what is there now -/
theorem commit_good {ws now : List Int} (h : HW ws now) (h48 : (recsOf ws (nextS now)).length ≤ 48) : HW (pcommitW ws now) (pcommitW ws now) ∧ Like (pcommitW ws now) now := by
  have hL := h.gw.len
  have hout : ∀ q, q < 8 ∨ 106 ≤ q → wd (pcommitW ws now) q = wd (nextS now) q := fun q hq => pcommit_out (by omega) h.len h48 hq
  have hnx := fun q => nextS_wd (now := now) (by have := h.len; omega) q
  have hlen : (pcommitW ws now).length = now.length := (pcommitW_len ws now).trans h.len.symm
  have hlow : ∀ q, q < 8 ∨ 106 ≤ q → q ≠ 7 → q ≠ 2 → wd (pcommitW ws now) q = wd now q := fun q hq h7 h2 => by rw [hout q hq, hnx, if_neg h7, if_neg h2]
  obtain ⟨g, _, _⟩ := h.gn.congr hlen (hlow 0 (by omega) (by omega) (by omega)) (hlow 1 (by omega) (by omega) (by omega)) (pcommit_log (by omega)) (fun r hr => hlow _ (by omega) (by omega) (by omega)) (fun q hq => hlow q (by omega) (by omega) (by omega))
  refine ⟨⟨g, g, ?_, rfl, fun _ _ _ => rfl⟩, like_of hlen (fun r hr => hlow _ (by omega) (by omega) (by omega)) (fun q hq => hlow q (by omega) (by omega) (by omega))⟩
  rw [hout 7 (by omega), hnx, if_pos rfl]
  congr 1
  refine take_ext 7 (by simp [countS]; have := h.len; omega) (by rw [hlen]; have := h.len; omega) (fun q hq => ?_)
  rw [hout q (by omega), hnx, if_neg (by omega)]
  unfold countS
  rw [wd_set (by have := h.len; omega)]
theorem HW.two {ws now : List Int} (h : HW ws now) : wd now 2 = wd ws 2 := h.same 2 (by omega) (by omega)
/-- what is changed is such again -/
theorem HW.to {ws now r : List Int} (h : HW ws now) (g : Good r) (hl : r.length = now.length) (hs : ∀ q, q < 3 ∨ 7 ≤ q → q < 106 → wd r q = wd now q) : HW ws r := ⟨h.gw, g, h.sum, hl.trans h.len, fun q h1 h2 => (hs q h1 h2).trans (h.same q h1 h2)⟩
theorem HW.back {ws now : List Int} (h : HW ws now) : HW ws ws := ⟨h.gw, h.gw, h.sum, rfl, fun _ _ _ => rfl⟩

end Go.Proofs.YtbagcjlimdilpaaGreat
/- Walks of the program's Heap.Commit, Recover and Open. -/
namespace Go.Proofs.YtbagcjlimdilpaaGreat
open Go.RowKit Go.Maps

theorem Fr.undrew {T : Nat → Prop} {w w' : World} (h : Fr T w.drew w') : Fr T w w' := ⟨h.os, h.tape, h.output, h.size, h.block⟩
theorem CommitTo.undrew {hb tb cb mb g : Nat} {vs : Value} {ws now : List Int} {st : List St} {w : World} {c : Int} {w' : World} (h : CommitTo hb tb cb mb g vs ws now st w.drew c w') : CommitTo hb tb cb mb g vs ws now st w c w' := by
  rcases h with ⟨h1, h2, h3, h4⟩ | ⟨h1, h2, h3, h4, h5⟩ | ⟨h1, h2, h3, vs', h4, h5, h6⟩
  · exact .inl ⟨h1, h2, h3, h4.undrew⟩
  · exact .inr (.inl ⟨h1, h2, h3, h4, h5.undrew⟩)
  · exact .inr (.inr ⟨h1, h2, h3, vs', h4, h5.undrew, h6⟩)
set_option maxRecDepth 100000 in
theorem hcommit_any (hb tb cb mb g : Nat) (vs : Value) (ws now : List Int) (st : List St) (w : World) (h : PH hb tb cb mb g vs ws now st w) (h2 : wd now 2 = wd ws 2) (hl : st.length ≤ 1099511000000) :
    Calls Tryz.prog 24 #[.pointer (some ⟨hb, 0, none⟩)] w fun e w' => ∃ c, e = .returned (.int .i64 c) ∧ CommitTo hb tb cb mb g vs ws now st w c w' := by
  have hc0 := h.p0
  have hc1 := h.p1
  have hbw : hb < w.heap.size := lt_of_block h.hp
  have HJ : Hid (Calls Tryz.prog 53 #[.pointer (some ⟨tb, 0, none⟩), .pointer (some ⟨cb, 0, none⟩)] w fun e w' => ∃ c, e = .returned (.int .i64 c) ∧ CommitTo hb tb cb mb g vs ws now st w c w') := jcommit_any hb tb cb mb g vs ws now st w h h2 hl
  have HD : Hid (Calls Tryz.prog 53 #[.pointer (some ⟨tb, 0, none⟩), .pointer (some ⟨cb, 0, none⟩)] w.drew fun e w' => ∃ c, e = .returned (.int .i64 c) ∧ CommitTo hb tb cb mb g vs ws now st w c w') := (jcommit_any hb tb cb mb g vs ws now st w.drew (h.new ((Fr.refl _ _).drew)) h2 hl).mono (by
    rintro e w' ⟨c, rfl, hc⟩
    exact ⟨c, rfl, hc.undrew⟩)
  clear h h2 hl
  go_enter Tryz.func24, Tryz.ntmps24
  go_upto_region 1 with fail
  go_region_with (first
    | (go_at_call 53; refine HJ.out.mono ?_; rintro e w2 ⟨c, rfl, hC⟩)
    | (go_at_call 53; refine HD.out.mono ?_; rintro e w2 ⟨c, rfl, hC⟩))
  all_goals (try go_wp2_with fail)
  all_goals
    go_ret
    first
      | exact ⟨c, rfl, hC⟩
      | exact ⟨c, rfl, hC.drew⟩

/-- the records of the log -/
def logRs (ws : List Int) (k : Nat) : List (Int × Int) := (List.range k).map (fun i => (wd ws (10 + 2 * i), wd ws (11 + 2 * i)))
theorem logRs_done (ws : List Int) (k : Nat) : putsW ws (logRs ws k) = doneS ws k := by
  induction k with
  | zero => rfl
  | succ k ih =>
    have : logRs ws (k + 1) = logRs ws k ++ [(wd ws (10 + 2 * k), wd ws (11 + 2 * k))] := by simp [logRs, List.range_succ]
    rw [this, putsW_snoc, ih]
    rfl
theorem logRs_len (ws : List Int) (k : Nat) : (logRs ws k).length = k := by simp [logRs]
theorem logRs_puts (ws : List Int) (k : Nat) : putsSt (logRs ws k) = putsS ws k := by simp [logRs, putsSt, putsS]
theorem openW_U {ws : List Int} (hU : ∀ z ∈ ws, U z) : ∀ z ∈ openW ws, U z := by
  unfold openW
  split
  · exact hU
  · exact set_U (doneS_U hU _) (by unfold U; omega)
theorem openW_len (ws : List Int) : (openW ws).length = ws.length := by
  unfold openW
  split
  · rfl
  · simp [doneS_len]
set_option maxHeartbeats 1000000 in
set_option maxRecDepth 100000 in
theorem recover_told (tb g : Nat) (vs : Value) (ws : List Int) (st : List St) (w : World) (h : TG tb g vs ws st w) (hU : ∀ z ∈ ws, U z) (hL : 114 ≤ ws.length) (hl : st.length ≤ 1099511000000) :
    Calls Tryz.prog 48 #[.pointer (some ⟨tb, 0, none⟩)] w fun e w' => e = .returned (.bool (asksS ws).2) ∧ ((asksS ws).2 = true → ∃ vs', TG tb g vs' (openW ws) (st ++ openSt ws) w' ∧ Moved w vs vs') ∧ Fr (TurnedT tb g vs) w w' := by
  have HA : Hid (Calls Tryz.prog 96 #[.iface 97 (.pointer (some ⟨tb, 0, none⟩))] w fun e w' => ∃ v, e = .returned (.tuple #[v, .bool (asksS ws).2]) ∧ ((asksS ws).2 = true → OwnR w.heap.size w' v ws (asksS ws).1) ∧ ((asksS ws).2 = false → v = .slice none 0 0) ∧ Fr New w w') := asked_row _ _ _ _ _ ws w hL h.t.len hU h.t.row
  have HNT : Hid (∀ w', Fr New w w' → TG tb g vs ws st w' ∧ Fr (TurnedT tb g vs) w w') := fun w' hf => ⟨h.new hf, hf.mono (fun _ _ h => h.elim)⟩
  rcases hok : (asksS ws).2 with _ | _
  · rw [hok] at HA
    have HA2 : Hid (Calls Tryz.prog 96 #[.iface 97 (.pointer (some ⟨tb, 0, none⟩))] w fun e w' => e = .returned (.tuple #[.slice none 0 0, .bool false]) ∧ Fr New w w') := HA.out.mono (by
      rintro e w' ⟨v, rfl, _, hv, hf⟩
      rw [hv rfl]
      exact ⟨rfl, hf⟩)
    clear HA hok
    go_enter Tryz.func48, Tryz.ntmps48
    go_wp2_with (go_at_call 96; refine HA2.out.mono ?_; rintro e w1 ⟨rfl, hf1⟩)
    go_ret
    exact ⟨rfl, (fun h => by cases h), (HNT.out w1 hf1).2⟩
  · rw [hok] at HA
    obtain ⟨k, hk⟩ : ∃ k, k = (asksS ws).1 := ⟨_, rfl⟩
    have hk48 : k ≤ 48 := by rw [hk]; exact asks_le ws
    have HA2 : Hid (Calls Tryz.prog 96 #[.iface 97 (.pointer (some ⟨tb, 0, none⟩))] w fun e w' => ∃ a c, e = .returned (.tuple #[.slice a k c, .bool true]) ∧ OwnRs w.heap.size w' (.slice a k c) (logRs ws k) ∧ Fr New w w') := HA.out.mono (by
      rintro e w' ⟨v, rfl, ho, _, hf⟩
      have ho' := ho rfl
      obtain ⟨a, c, rfl⟩ := own_slice ho'
      rw [← hk] at ho' ⊢
      refine ⟨a, c, rfl, ?_, hf⟩
      unfold OwnRs
      rw [logRs_len]
      have : rsCells (logRs ws k) = recCells ws k := (rsCells_rec ws k).symm
      rw [this]
      exact ho')
    by_cases hk0 : k = 0
    · have HOW : Hid (openW ws = ws ∧ st ++ openSt ws = st) := by unfold openW openSt; rw [← hk, if_pos hk0, if_pos hk0]; exact ⟨rfl, by simp⟩
      subst hk0
      clear HA hok hk
      go_enter Tryz.func48, Tryz.ntmps48
      go_wp2_with (go_at_call 96; refine HA2.out.mono ?_; rintro e w1 ⟨a, c, rfl, ho, hf1⟩)
      go_ret
      refine ⟨rfl, fun _ => ⟨vs, ?_, Moved.refl _ _⟩, (HNT.out w1 hf1).2⟩
      rw [HOW.out.1, HOW.out.2]
      exact (HNT.out w1 hf1).1
    · have HOW : Hid (openW ws = carryW ws (logRs ws k) ∧ st ++ openSt ws = st ++ carrySt (logRs ws k)) := by
        unfold openW openSt carryW carrySt
        rw [← hk, if_neg hk0, if_neg hk0, logRs_done, logRs_puts]
        exact ⟨rfl, by simp⟩
      have HIN : Hid (∀ r ∈ logRs ws k, 0 ≤ r.1 ∧ r.1 < (ws.length : Int)) := fun r hr => by
        simp only [logRs, List.mem_map, List.mem_range] at hr
        obtain ⟨i, hi, rfl⟩ := hr
        have h1 := (okAt_iff.1 (asks_ok (ws := ws) (i := i) (by rw [← hk]; exact hi))).1
        have h2 := wd_U hU (10 + 2 * i)
        exact ⟨h2.1, h1⟩
      have HCO : Hid (∀ w1 v, Fr New w w1 → OwnRs w.heap.size w1 v (logRs ws k) → Calls Tryz.prog 97 #[.pointer (some ⟨tb, 0, none⟩), v] w1 fun e w' => e = .returned (.tuple #[]) ∧ ∃ vs', TG tb g vs' (openW ws) (st ++ openSt ws) w' ∧ Fr (TurnedT tb g vs) w1 w' ∧ Moved w1 vs vs') := fun w1 v hf ho => by
        rw [HOW.out.1, HOW.out.2]
        exact carry_told tb g vs ws st _ v _ w1 (h.new hf) ho HIN.out (by omega) (by rw [logRs_len]; omega)
      have hd0 : decide ((0 : Int) < (k : Int)) = true := by simp; omega
      have hkp : 0 < k := by omega
      clear HA hok hk h hU
      go_enter Tryz.func48, Tryz.ntmps48
      go_wp2_with (first
        | (go_at_call 96; refine HA2.out.mono ?_; rintro e w1 ⟨a, c, rfl, ho, hf1⟩; have HC1 := HCO.out w1 _ hf1 ho)
        | (go_at_call 97; refine HC1.mono ?_; rintro e w2 ⟨rfl, vs2, hT2, hf2, hm2⟩)
        | fail)
      go_ret
      exact ⟨rfl, fun _ => ⟨vs2, hT2, (Moved.refl w vs).trans hm2 hf1.size⟩, ((HNT.out w1 hf1).2).trans hf2 (fun _ _ h => h)⟩
/-- what Open hands over -/
def OpenTo (ws : List Int) (w : World) (v : Value) (c : Int) (w' : World) : Prop :=
  (OpenErr ws c ∧ v = .pointer none) ∨
  (OpenOk ws ∧ c = 0 ∧ ∃ hb tb cb mb g vs, v = .pointer (some ⟨hb, 0, none⟩) ∧ PH hb tb cb mb g vs (openW ws) (openW ws) (openSt ws) w' ∧ w.heap.size ≤ hb ∧ w.heap.size ≤ tb ∧ w.heap.size ≤ cb ∧ w.heap.size ≤ mb ∧ w.heap.size ≤ g ∧ ∀ k, vs.ownBlock = some k → w.heap.size ≤ k)
set_option maxHeartbeats 2000000 in
set_option maxRecDepth 100000 in
theorem popen_any (a : Option Addr) (cap : Nat) (ws : List Int) (w : World) (hm : ws.length ≤ 1048576) (hU : ∀ z ∈ ws, U z) (hr : RowU w a ws) :
    Calls Tryz.prog 20 #[.slice a ws.length cap] w fun e w' => ∃ v c, e = .returned (.tuple #[v, .int .i64 c]) ∧ OpenTo ws w v c w' ∧ Fr New w w' := by
  by_cases hn : nblk ws.length = 0
  · have HS : Hid (Calls Tryz.prog 46 #[.int .i64 ws.length] w fun e w' => e = .returned (.bool false) ∧ w' = w) := shaped_no _ w hm hn
    have HT : Hid (OpenErr ws 2) := .inl ⟨hn, rfl⟩
    clear hn hr hU
    go_enter Tryz.func20, Tryz.ntmps20
    go_wp2_with (go_at_call 46; refine calls_same HS.out ?_)
    go_ret2
    exact ⟨_, 2, rfl, .inl ⟨HT.out, rfl⟩, Fr.refl _ _⟩
  · have HS : Hid (Calls Tryz.prog 46 #[.int .i64 ws.length] w fun e w' => e = .returned (.bool true) ∧ w' = w) := shaped_yes _ w hn
    have hL : 114 ≤ ws.length := by have := nblk_some hn; omega
    have HNT : Hid (Calls Tryz.prog 47 #[.slice a ws.length cap] w fun e w' => ∃ tb g, e = .returned (.pointer (some ⟨tb, 0, none⟩)) ∧ TG tb g (.slice none 0 0) ws [] w' ∧ w.heap.size ≤ tb ∧ w.heap.size ≤ g ∧ Fr New w w') := newTold_any a cap ws w hm (by omega) hr
    have HRC : Hid (∀ tb g w1, TG tb g (.slice none 0 0) ws [] w1 → Calls Tryz.prog 48 #[.pointer (some ⟨tb, 0, none⟩)] w1 fun e w' => e = .returned (.bool (asksS ws).2) ∧ ((asksS ws).2 = true → ∃ vs', TG tb g vs' (openW ws) ([] ++ openSt ws) w' ∧ Moved w1 (.slice none 0 0) vs') ∧ Fr (TurnedT tb g (.slice none 0 0)) w1 w') := fun tb g w1 h => recover_told tb g _ ws [] w1 h hU hL (by simp)
    have HFW : Hid (∀ tb g w1 w2, w.heap.size ≤ tb → w.heap.size ≤ g → Fr New w w1 → Fr (TurnedT tb g (.slice none 0 0)) w1 w2 → Fr New w w2) := fun tb g w1 w2 h1 h2 f1 f2 => f1.trans f2 (fun j hj ht => by
      rcases ht with e | e | e
      · omega
      · omega
      · cases e)
    rcases hok : (asksS ws).2 with _ | _
    · have HT : Hid (OpenErr ws 4) := .inr ⟨hn, .inl ⟨hok, rfl⟩⟩
      rw [hok] at HRC
      obtain ⟨L, hLL⟩ : ∃ L, L = ws.length := ⟨_, rfl⟩
      rw [← hLL] at HS HNT ⊢
      clear hn hr hU hok hLL
      go_enter Tryz.func20, Tryz.ntmps20
      go_wp2_with (first
        | (go_at_call 46; refine calls_same HS.out ?_)
        | (go_at_call 47; refine HNT.out.mono ?_; rintro e w1 ⟨tb, g, rfl, hT1, hb1, hg1, hf1⟩)
        | (go_at_call 48; refine (HRC.out tb g w1 hT1).mono ?_; rintro e w2 ⟨rfl, _, hf2⟩)
        | fail)
      go_ret2
      exact ⟨_, 4, rfl, .inl ⟨HT.out, rfl⟩, HFW.out _ _ _ _ hb1 hg1 hf1 hf2⟩
    · have hnO : nblk (openW ws).length ≠ 0 := by rw [openW_len]; exact hn
      have HSC : Hid (∀ tb g vs w2, TG tb g vs (openW ws) (openSt ws) w2 → Calls Tryz.prog 49 #[.iface 97 (.pointer (some ⟨tb, 0, none⟩))] w2 fun e w' => ∃ cd p, e = .returned (.tuple #[.int .i64 cd, .int .i64 p]) ∧ CheckIs (openW ws) cd p ∧ Fr New w2 w') := fun tb g vs w2 h => soundCheck_row _ _ _ _ _ (openW ws) w2 hnO h.t.row
      have HNC : Hid (∀ tb w2, Calls Tryz.prog 50 #[.iface 97 (.pointer (some ⟨tb, 0, none⟩))] w2 fun e w' => ∃ cb mb, e = .returned (.pointer (some ⟨cb, 0, none⟩)) ∧ ChgIs w' cb tb mb (openW ws) (openW ws) ∧ w2.heap.size ≤ cb ∧ w2.heap.size ≤ mb ∧ Fr New w2 w') := fun tb w2 => newChanged_any tb (openW ws) w2 (openW_U hU)
      have HER : Hid (∀ c p, CheckIs (openW ws) c p → c ≠ 0 → c ≠ 8 → OpenErr ws c) := fun c p h1 h2 h3 => .inr ⟨hn, .inr ⟨hok, h2, h3, p, h1⟩⟩
      have HOK : Hid (∀ c p, CheckIs (openW ws) c p → c = 0 ∨ c = 8 → OpenOk ws) := fun c p h1 h2 => ⟨hn, hok, c, p, h1, h2⟩
      have HUW : Hid ((∀ z ∈ openW ws, U z) ∧ nblk (openW ws).length ≠ 0) := ⟨openW_U hU, hnO⟩
      have HRC2 : Hid (∀ tb g w1, TG tb g (.slice none 0 0) ws [] w1 → Calls Tryz.prog 48 #[.pointer (some ⟨tb, 0, none⟩)] w1 fun e w' => e = .returned (.bool true) ∧ ∃ vs', TG tb g vs' (openW ws) (openSt ws) w' ∧ Moved w1 (.slice none 0 0) vs' ∧ Fr (TurnedT tb g (.slice none 0 0)) w1 w') := fun tb g w1 h => (HRC.out tb g w1 h).mono (by
        rintro e w' ⟨rfl, h2, h3⟩
        rw [hok]
        obtain ⟨vs', h4, h5⟩ := h2 hok
        exact ⟨rfl, vs', by simpa using h4, h5, h3⟩)
      have HFN : Hid (∀ tb g vs2 w1 w2 w3 w4 cb mb cd p, w.heap.size ≤ tb → w.heap.size ≤ g → Fr New w w1 → Fr New w w2 → TG tb g vs2 (openW ws) (openSt ws) w2 → Moved w1 (.slice none 0 0) vs2 → Fr New w2 w3 → CheckIs (openW ws) cd p → cd = 0 ∨ cd = 8 → ChgIs w4 cb tb mb (openW ws) (openW ws) → w3.heap.size ≤ cb → w3.heap.size ≤ mb → Fr New w3 w4 → OpenTo ws w (.pointer (some ⟨w4.heap.size, 0, none⟩)) 0 (w4.alloc (.cells #[.pointer (some ⟨tb, 0, none⟩), .pointer (some ⟨cb, 0, none⟩)] 104)) ∧ Fr New w (w4.alloc (.cells #[.pointer (some ⟨tb, 0, none⟩), .pointer (some ⟨cb, 0, none⟩)] 104))) := fun tb g vs2 w1 w2 w3 w4 cb mb cd p q1 q2 f1 f2 t2 m2 f3 hc hcd c4 q3 q4 f4 => by
        have fA : Fr New w w4 := (f2.same f3).same f4
        have s3 := (f2.same f3).size
        refine ⟨.inr ⟨HOK.out cd p hc hcd, rfl, w4.heap.size, tb, cb, mb, g, vs2, rfl, ⟨Go.Deep.blk_alloc_new w4 _, t2.new ((f3.same f4).alloc _), c4.fr ((Fr.refl New w4).alloc _) id id, HUW.out.1, HUW.out.2⟩, fA.size, q1, by omega, by omega, q2, fun k hk => ?_⟩, fA.alloc _⟩
        rcases m2 with m2 | m2
        · rw [m2] at hk; cases hk
        · have := m2 k hk; have := f1.size; omega
      obtain ⟨L, hLL⟩ : ∃ L, L = ws.length := ⟨_, rfl⟩
      rw [← hLL] at HS HNT ⊢
      clear hn hr hU hok hLL HRC hnO
      go_enter Tryz.func20, Tryz.ntmps20
      go_wp2_with (first
        | (go_at_call 46; refine calls_same HS.out ?_)
        | (go_at_call 47; refine HNT.out.mono ?_; rintro e w1 ⟨tb, g, rfl, hT1, hb1, hg1, hf1⟩)
        | (go_at_call 48; refine (HRC2.out tb g w1 hT1).mono ?_; rintro e w2 ⟨rfl, vs2, hT2, hm2, hf2⟩; have hfa := HFW.out _ _ _ _ hb1 hg1 hf1 hf2)
        | (go_at_call 49; refine (HSC.out tb g vs2 w2 hT2).mono ?_; rintro e w3 ⟨cd, p, rfl, hci, hf3⟩)
        | (go_at_call 50; refine (HNC.out tb w3).mono ?_; rintro e w4 ⟨cb, mb, rfl, hC4, hcb, hmb, hf4⟩)
        | fail)
      · go_ret2
        obtain ⟨o1, o2⟩ := HFN.out tb g vs2 w1 w2 w3 w4 cb mb cd p hb1 hg1 hf1 hfa hT2 hm2 hf3 hci (.inl (by assumption)) hC4 hcb hmb hf4
        exact ⟨_, 0, rfl, o1, o2⟩
      · go_ret2
        have hcd : cd ≠ 0 ∧ cd ≠ 8 := by
          have hx : (cd != 0) = true ∧ (cd != 8) = true := by assumption
          exact ⟨by simpa using hx.1, by simpa using hx.2⟩
        exact ⟨_, cd, rfl, .inl ⟨HER.out cd p hci hcd.1 hcd.2, rfl⟩, hfa.same hf3⟩
      · go_ret2
        have hcd : cd = 0 ∨ cd = 8 := by
          have hx : (cd != 0) = false ∨ (cd != 8) = false := by assumption
          exact hx.imp (by simp) (by simp)
        obtain ⟨o1, o2⟩ := HFN.out tb g vs2 w1 w2 w3 w4 cb mb cd p hb1 hg1 hf1 hfa hT2 hm2 hf3 hci hcd hC4 hcb hmb hf4
        exact ⟨_, 0, rfl, o1, o2⟩
end Go.Proofs.YtbagcjlimdilpaaGreat
