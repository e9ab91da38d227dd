/- The walk of the program's toCommit: the records of a Commit. -/
import Derived.Test.YtbagcjlimdilpaaGreatKtJ8
import Derived.Test.YtbagcjlimdilpaaGreatKtJ10
namespace Go.Proofs.YtbagcjlimdilpaaGreat
open Go.RowKit Go.Maps

/-- the head behind one commit more -/
def nextH (now : List Int) : List Int := [wd now 0, wd now 1, IntKind.u64.wrap (wd now 2 + 1), wd now 3, wd now 4, wd now 5, wd now 6, sumL [wd now 0, wd now 1, IntKind.u64.wrap (wd now 2 + 1), wd now 3, wd now 4, wd now 5, wd now 6]]
theorem nextH_at (now : List Int) : wd (nextH now) 0 = wd now 0 ∧ wd (nextH now) 1 = wd now 1 ∧ wd (nextH now) 2 = IntKind.u64.wrap (wd now 2 + 1) ∧ wd (nextH now) 3 = wd now 3 ∧ wd (nextH now) 4 = wd now 4 ∧ wd (nextH now) 5 = wd now 5 ∧ wd (nextH now) 6 = wd now 6 ∧ wd (nextH now) 7 = sumL [wd now 0, wd now 1, IntKind.u64.wrap (wd now 2 + 1), wd now 3, wd now 4, wd now 5, wd now 6] := by
  unfold nextH
  generalize sumL [wd now 0, wd now 1, IntKind.u64.wrap (wd now 2 + 1), wd now 3, wd now 4, wd now 5, wd now 6] = s
  generalize IntKind.u64.wrap (wd now 2 + 1) = t
  exact ⟨rfl, rfl, rfl, rfl, rfl, rfl, rfl, rfl⟩
theorem nextH_big (now : List Int) (k : Nat) : wd (nextH now) (k + 8) = 0 := by
  unfold nextH
  generalize sumL [wd now 0, wd now 1, IntKind.u64.wrap (wd now 2 + 1), wd now 3, wd now 4, wd now 5, wd now 6] = s
  simp [wd]
/-- .. put over the words, up to the i-th -/
def headTo (now : List Int) : Nat → List Int
  | 0 => now
  | i + 1 => (headTo now i).set i (wd (nextH now) i)
theorem headTo_len (now : List Int) (i : Nat) : (headTo now i).length = now.length := by
  induction i with
  | zero => rfl
  | succ i ih => simp [headTo, ih]
theorem headTo_wd {now : List Int} (hl : 8 ≤ now.length) : ∀ (i q : Nat), i ≤ 8 → wd (headTo now i) q = if q < i then wd (nextH now) q else wd now q := by
  intro i
  induction i with
  | zero => intro q _; simp [headTo]
  | succ i ih =>
    intro q hi
    rw [headTo, wd_set (by rw [headTo_len]; omega), ih q (by omega)]
    by_cases hq : q = i
    · subst hq; rw [if_pos rfl, if_pos (by omega)]
    · rw [if_neg hq]
      by_cases hlt : q < i
      · rw [if_pos hlt, if_pos (by omega)]
      · rw [if_neg hlt, if_neg (by omega)]
theorem headTo_next {now : List Int} (hl : 8 ≤ now.length) : headTo now 8 = nextS now := by
  refine wd_ext (by rw [headTo_len, nextS_len]) (fun q => ?_)
  have hc : (countS now).length = now.length := by simp [countS]
  have ht : (countS now).take 7 = [wd now 0, wd now 1, IntKind.u64.wrap (wd now 2 + 1), wd now 3, wd now 4, wd now 5, wd now 6] := by
    match now, hl with
    | a :: b :: c :: d :: e :: f :: g :: r, _ => rfl
  rw [headTo_wd hl 8 q (Nat.le_refl _)]
  unfold nextS
  rw [wd_set (by omega), ht]
  unfold countS
  rw [wd_set (by omega)]
  by_cases hq : q < 8
  · rw [if_pos hq]
    obtain ⟨e0, e1, e2, e3, e4, e5, e6, e7⟩ := nextH_at now
    match q, hq with
    | 0, _ => rw [e0, if_neg (by decide), if_neg (by decide)]
    | 1, _ => rw [e1, if_neg (by decide), if_neg (by decide)]
    | 2, _ => rw [e2, if_neg (by decide), if_pos rfl]
    | 3, _ => rw [e3, if_neg (by decide), if_neg (by decide)]
    | 4, _ => rw [e4, if_neg (by decide), if_neg (by decide)]
    | 5, _ => rw [e5, if_neg (by decide), if_neg (by decide)]
    | 6, _ => rw [e6, if_neg (by decide), if_neg (by decide)]
    | 7, _ => rw [e7, if_pos rfl]
  · rw [if_neg hq, if_neg (by omega), if_neg (by omega)]
theorem index_head0 (x0 x1 x2 x3 x4 x5 x6 x7 : Int) (w : World) : (Instr.index 126 (.agg #[.int .u64 x0, .int .u64 x1, .int .u64 x2, .int .u64 x3, .int .u64 x4, .int .u64 x5, .int .u64 x6, .int .u64 x7]) (.int .i64 0)).run Tryz.prog w = .ok (.int .u64 x0) w := by kernel_rfl
theorem index_head1 (x0 x1 x2 x3 x4 x5 x6 x7 : Int) (w : World) : (Instr.index 126 (.agg #[.int .u64 x0, .int .u64 x1, .int .u64 x2, .int .u64 x3, .int .u64 x4, .int .u64 x5, .int .u64 x6, .int .u64 x7]) (.int .i64 1)).run Tryz.prog w = .ok (.int .u64 x1) w := by kernel_rfl
theorem index_head2 (x0 x1 x2 x3 x4 x5 x6 x7 : Int) (w : World) : (Instr.index 126 (.agg #[.int .u64 x0, .int .u64 x1, .int .u64 x2, .int .u64 x3, .int .u64 x4, .int .u64 x5, .int .u64 x6, .int .u64 x7]) (.int .i64 2)).run Tryz.prog w = .ok (.int .u64 x2) w := by kernel_rfl
theorem index_head3 (x0 x1 x2 x3 x4 x5 x6 x7 : Int) (w : World) : (Instr.index 126 (.agg #[.int .u64 x0, .int .u64 x1, .int .u64 x2, .int .u64 x3, .int .u64 x4, .int .u64 x5, .int .u64 x6, .int .u64 x7]) (.int .i64 3)).run Tryz.prog w = .ok (.int .u64 x3) w := by kernel_rfl
theorem index_head4 (x0 x1 x2 x3 x4 x5 x6 x7 : Int) (w : World) : (Instr.index 126 (.agg #[.int .u64 x0, .int .u64 x1, .int .u64 x2, .int .u64 x3, .int .u64 x4, .int .u64 x5, .int .u64 x6, .int .u64 x7]) (.int .i64 4)).run Tryz.prog w = .ok (.int .u64 x4) w := by kernel_rfl
theorem index_head5 (x0 x1 x2 x3 x4 x5 x6 x7 : Int) (w : World) : (Instr.index 126 (.agg #[.int .u64 x0, .int .u64 x1, .int .u64 x2, .int .u64 x3, .int .u64 x4, .int .u64 x5, .int .u64 x6, .int .u64 x7]) (.int .i64 5)).run Tryz.prog w = .ok (.int .u64 x5) w := by kernel_rfl
theorem index_head6 (x0 x1 x2 x3 x4 x5 x6 x7 : Int) (w : World) : (Instr.index 126 (.agg #[.int .u64 x0, .int .u64 x1, .int .u64 x2, .int .u64 x3, .int .u64 x4, .int .u64 x5, .int .u64 x6, .int .u64 x7]) (.int .i64 6)).run Tryz.prog w = .ok (.int .u64 x6) w := by kernel_rfl
theorem index_head7 (x0 x1 x2 x3 x4 x5 x6 x7 : Int) (w : World) : (Instr.index 126 (.agg #[.int .u64 x0, .int .u64 x1, .int .u64 x2, .int .u64 x3, .int .u64 x4, .int .u64 x5, .int .u64 x6, .int .u64 x7]) (.int .i64 7)).run Tryz.prog w = .ok (.int .u64 x7) w := by kernel_rfl
theorem index_head (l : List Int) (i : Nat) (hi : i < 8) (w : World) : (Instr.index 126 (headA l) (.int .i64 (i : Int))).run Tryz.prog w = .ok (.int .u64 (wd l i)) w := by
  match i, hi with
  | 0, _ => exact index_head0 _ _ _ _ _ _ _ _ w
  | 1, _ => exact index_head1 _ _ _ _ _ _ _ _ w
  | 2, _ => exact index_head2 _ _ _ _ _ _ _ _ w
  | 3, _ => exact index_head3 _ _ _ _ _ _ _ _ w
  | 4, _ => exact index_head4 _ _ _ _ _ _ _ _ w
  | 5, _ => exact index_head5 _ _ _ _ _ _ _ _ w
  | 6, _ => exact index_head6 _ _ _ _ _ _ _ _ w
  | 7, _ => exact index_head7 _ _ _ _ _ _ _ _ w
theorem next_head (now : List Int) (w : World) : Calls Tryz.prog 145 #[headA now] w fun e w' => e = .returned (headA (nextH now)) ∧ Fr New w w' := by
  obtain ⟨e0, e1, e2, e3, e4, e5, e6, e7⟩ := nextH_at now
  have := next_any (wd now 0) (wd now 1) (wd now 2) (wd now 3) (wd now 4) (wd now 5) (wd now 6) (wd now 7) w
  unfold headA
  rw [e0, e1, e2, e3, e4, e5, e6, e7]
  exact this
/-- the records of a Commit -/
def recsOf (ws nx : List Int) : List (Int × Int) := (difP ws nx).map (fun q : Nat => ((q : Int), wd nx q))
theorem nextH_U {now : List Int} (hu : ∀ z ∈ now, U z) (i : Nat) : U (wd (nextH now) i) := by
  have hw := wd_U hu
  have h1 : U (IntKind.u64.wrap (wd now 2 + 1)) := by rw [IntKind.wrap_u64]; unfold U; omega
  obtain ⟨e0, e1, e2, e3, e4, e5, e6, e7⟩ := nextH_at now
  match i with
  | 0 => rw [e0]; exact hw 0
  | 1 => rw [e1]; exact hw 1
  | 2 => rw [e2]; exact h1
  | 3 => rw [e3]; exact hw 3
  | 4 => rw [e4]; exact hw 4
  | 5 => rw [e5]; exact hw 5
  | 6 => rw [e6]; exact hw 6
  | 7 => rw [e7]; exact sumL_U _
  | k + 8 => rw [nextH_big]; exact ⟨by decide, by decide⟩
theorem recs_take {ws nx : List Int} {i : Nat} (hi : i < (difP ws nx).length) : (recsOf ws nx).take (i + 1) = (recsOf ws nx).take i ++ [(((difP ws nx)[i] : Int), wd nx (difP ws nx)[i])] := by
  have hl : i < (recsOf ws nx).length := by simpa [recsOf] using hi
  rw [List.take_succ_eq_append_getElem hl]
  simp [recsOf]
theorem rsCells_snoc (rs : List (Int × Int)) (x y : Int) : rsCells (rs ++ [(x, y)]) = rsCells rs ++ [.int .i64 x, .int .u64 y] := by simp [rsCells]

set_option maxHeartbeats 2000000 in
set_option maxRecDepth 100000 in
theorem toCommit_any (cb tb g mb : Nat) (ws now : List Int) (vs : Value) (w : World) (ht : ToldIs w tb g ws vs) (hc : ChgIs w cb tb mb ws now) (h8 : 8 ≤ ws.length) :
    Calls Tryz.prog 103 #[.pointer (some ⟨cb, 0, none⟩)] w fun e w' => ∃ v, e = .returned v ∧ OwnRs w.heap.size w' v (recsOf ws (nextS now)) ∧ Fr New w w' := by
  have HCP : Hid (Calls Tryz.prog 144 #[.pointer (some ⟨cb, 0, none⟩)] w fun e w' => ∃ cb' mb', e = .returned (.pointer (some ⟨cb', 0, none⟩)) ∧ ChgIs w' cb' tb mb' ws now ∧ w.heap.size ≤ cb' ∧ w.heap.size ≤ mb' ∧ Fr New w w') := ccopy_any cb tb mb ws now w hc
  have HHO : Hid (∀ w1, Fr New w w1 → Calls Tryz.prog 111 #[.iface 101 (.pointer (some ⟨cb, 0, none⟩))] w1 fun e w' => e = .returned (headA now) ∧ Fr New w1 w') := fun w1 hf => headOf_row _ _ _ _ _ now w1 (by rw [hc.len]; exact h8) (chg_row (ht.fr hf id id) (hc.fr hf id id))
  have HNX : Hid (∀ w1, Calls Tryz.prog 145 #[headA now] w1 fun e w' => e = .returned (headA (nextH now)) ∧ Fr New w1 w') := fun w1 => next_head now w1
  have HT : Hid (∀ w1, Fr New w w1 → ToldIs w1 tb g ws vs) := fun w1 hf => ht.fr hf id id
  have HIX : Hid (∀ i, i < 8 → ∀ w, (Instr.index 126 (headA (nextH now)) (.int .i64 ((i : Nat) : Int))).run Tryz.prog w = .ok (.int .u64 (wd (nextH now) i)) w) := fun i hi w => index_head (nextH now) i hi w
  have HU : Hid (∀ i, U (wd (nextH now) i)) := nextH_U hc.un
  have HL : Hid (now.length = ws.length ∧ 8 ≤ ws.length ∧ ws.length ≤ 1048576) := ⟨hc.len, h8, ht.len⟩
  have HNS : Hid (headTo now 8 = nextS now) := headTo_next (by rw [hc.len]; exact h8)
  obtain ⟨i0, hi0, hz0, hz1, hz2⟩ := info_parts Tryz.info199
  obtain ⟨hv, hhv⟩ : ∃ hv, hv = headA now := ⟨_, rfl⟩
  rw [← hhv] at HHO HNX
  obtain ⟨nv, hnv⟩ : ∃ nv, nv = headA (nextH now) := ⟨_, rfl⟩
  rw [← hnv] at HNX HIX
  obtain ⟨nx, hnx⟩ : ∃ nx, nx = nextS now := ⟨_, rfl⟩
  rw [← hnx] at HNS ⊢
  clear ht hc h8 hhv hnv hnx
  go_enter Tryz.func103, Tryz.ntmps103
  go_wp2_with (first
    | (go_at_call 144; refine HCP.out.mono ?_; rintro e w1 ⟨cb', mb', rfl, hC1, hcb, hmb, hf1⟩)
    | (go_at_call 111; refine (HHO.out _ hf1).mono ?_; rintro e w2 ⟨rfl, hf2⟩)
    | (go_at_call 145; refine (HNX.out _).mono ?_; rintro e w3 ⟨rfl, hf3⟩)
    | fail)
  have hC3 : ChgIs w3 cb' tb mb' ws (headTo now 0) := hC1.fr (hf2.same hf3) id id
  have hF3 : Fr New w w3 := (hf1.same hf2).same hf3
  clear hC1 hf1 hf2 hf3
  go_loopg [15] 8 (fun gh t wr => ∃ i : Nat, i ≤ 8 ∧ gh = 8 - i ∧ t = .int .i64 i ∧ ChgIs wr cb' tb mb' ws (headTo now i) ∧ Fr New w wr)
  case atStart => exact ⟨0, by omega, rfl, rfl, hC3, hF3⟩
  case round =>
    clear hC3 hF3
    obtain ⟨i, hi8, rfl, rfl, hC, hF⟩ := hrel
    by_cases hi : i < 8
    · have hix := HIX.out i hi
      have HPT : Hid (Calls Tryz.prog 59 #[.pointer (some ⟨cb', 0, none⟩), .int .i64 ((i : Nat) : Int), .int .u64 (wd (nextH now) i)] wr fun e w' => e = .returned (.tuple #[]) ∧ ChgIs w' cb' tb mb' ws ((headTo now i).set i (wd (nextH now) i)) ∧ Fr (fun k => k = mb') wr w' ∧ w'.heap.size = wr.heap.size) := cput_any cb' tb g mb' ws _ vs wr i _ (by have := HL.out; omega) (HU.out i) (HT.out wr hF) hC
      obtain ⟨z, hz⟩ : ∃ z, z = wd (nextH now) i := ⟨_, rfl⟩
      have HZ : Hid (headTo now (i + 1) = (headTo now i).set i z) := by show _ = _; rw [hz]; rfl
      rw [← hz] at hix HPT
      clear hz
      go_wp2_with (first
        | (go_at_call 59; refine HPT.out.mono ?_; rintro e w4 ⟨rfl, hC4, hf4, hs4⟩)
        | fail)
      go_roundg (8 - (i + 1))
      case measure => omega
      case rel => exact ⟨i + 1, by omega, rfl, by go_num, by rw [HZ.out]; exact hC4, hF.trans hf4 (fun j hj he => by omega)⟩
    · obtain rfl : i = 8 := by omega
      rw [HNS.out] at hC
      have HPL : Hid (Calls Tryz.prog 102 #[.pointer (some ⟨cb', 0, none⟩)] wr fun e w' => ∃ v, e = .returned v ∧ w'.ownsRow wr.heap.size 3 1 v (difP ws nx).length ((difP ws nx).map (fun q : Nat => Value.int .i64 (q : Int))) ∧ Fr New wr w') := places_any cb' tb mb' ws nx wr hC HL.out.2.2
      have hdl := difP_len ws nx
      have HLL := HL.out.2.2
      obtain ⟨wy, rfl⟩ : ∃ wy, wy = wr := ⟨wr, rfl⟩
      clear hi hi8 HNS HIX HU HNX HHO HCP
      go_wp2_with (first
        | (go_at_call 102; refine HPL.out.mono ?_; rintro e w5 ⟨vp, rfl, hop, hf5⟩; obtain ⟨ap, cp, rfl⟩ := own_slice hop)
        | fail)
      have hC5 := hC.fr hf5 id id
      have hF5 := hF.same hf5
      clear hC hF hf5 HPL
      go_loopg [6, 27] (difP ws nx).length (fun gh v t wr => ∃ i : Nat, i ≤ (difP ws nx).length ∧ gh = (difP ws nx).length - i ∧ t = .int .i64 i ∧ ChgIs wr cb' tb mb' ws nx ∧ Fr New w wr ∧ wr.ownsRow w.heap.size 199 2 v i (rsCells ((recsOf ws nx).take i)) ∧ wr.ownsRow wy.heap.size 3 1 (.slice ap (difP ws nx).length cp) (difP ws nx).length ((difP ws nx).map (fun q : Nat => Value.int .i64 (q : Int))))
      case atStart => exact ⟨0, by omega, rfl, rfl, hC5, hF5, by rw [List.take_zero]; exact World.ownsRow_nil _ _ _ _, hop⟩
      case round =>
        clear hC5 hF5 hop
        obtain ⟨i, hid, rfl, rfl, hC, hF, hO, hP⟩ := hrel
        by_cases hi : i < (difP ws nx).length
        · have hd0 : decide ((i : Int) < ((difP ws nx).length : Int)) = true := by simp; omega
          obtain ⟨gp, cp', hvv, _, hgp⟩ := hP.form (by omega)
          cases hvv
          have e0 : wr.cell? ⟨gp, i, none⟩ = some (.int .i64 (((difP ws nx)[i] : Nat) : Int)) := by
            have := hP.cellAt i (by omega)
            rw [this]
            simp [hi]
          obtain ⟨hq1, hq2⟩ := mem_difP.1 (List.getElem_mem hi)
          have HTK := recs_take hi
          have HRD : Hid (Calls Tryz.prog 70 #[.pointer (some ⟨cb', 0, none⟩), .int .i64 (((difP ws nx)[i] : Nat) : Int)] wr fun e w' => e = .returned (.int .u64 (wd nx (difP ws nx)[i])) ∧ w' = wr) := cread_any cb' tb g mb' ws nx vs wr _ hq1 (HT.out wr hF) hC
          obtain ⟨q, hq⟩ : ∃ q : Nat, q = (difP ws nx)[i] := ⟨_, rfl⟩
          rw [← hq] at e0 HTK HRD hq1
          obtain ⟨z, hz⟩ : ∃ z, z = wd nx q := ⟨_, rfl⟩
          rw [← hz] at HTK HRD
          have HTT : Hid ((recsOf ws nx).take (i + 1) = (recsOf ws nx).take i ++ [((q : Int), z)]) := HTK
          obtain ⟨a6, c6, rfl⟩ := own_slice hO
          clear hq hz hq2 HTK
          have HKP : Hid (∀ w2, Fr (fun k => (Value.slice a6 i c6).ownBlock = some k) wr w2 → ChgIs w2 cb' tb mb' ws nx ∧ w2.ownsRow wy.heap.size 3 1 (.slice (some ⟨gp, 0, none⟩) (difP ws nx).length cp) (difP ws nx).length ((difP ws nx).map (fun q : Nat => Value.int .i64 (q : Int)))) := fun w2 hf => by
            have hne : ∀ k o, (∀ c, o ≠ .cells c 199 (0, 0)) → wr.heap[k]? = some o → ¬ (Value.slice a6 i c6).ownBlock = some k := fun k o ho hk hv => by
              obtain ⟨_, c, hc⟩ := own_block hO hv
              rw [hk] at hc
              exact ho c (by simpa using hc)
            refine ⟨hC.fr hf (hne _ _ (fun c e => by simp at e) hC.cg) ?_, hf.owns hP (fun k hk => ?_)⟩
            · obtain ⟨D, ⟨es, clock, hb, _⟩, _⟩ := hC.mp
              exact hne _ _ (fun c e => by cases e) hb
            · obtain ⟨_, c, hc⟩ := own_block hP hk
              exact hne _ _ (fun c e => by simp at e) hc
          go_wp2_with (first
            | (go_at_call 70; refine calls_same HRD.out ?_)
            | (at_builtin; refine wpList_append_own _ rfl (.tmp 31) (.tmp 37) 155 rfl w.heap.size 199 i0 _ 2 16 Tryz.underlying155 hi0 hz0 hz1 hz2 rfl (by decide) _ _ _ rfl (hO.alloc _) ⟨wr.heap.size, 0, none⟩ 1 1 [.int .i64 (q : Int), .int .u64 z] rfl rfl (World.news_of_block (Go.Deep.blk_alloc_new wr _)) (rec_one q z) (by unfold maxLen; omega) (by omega) (by have := hF.size; simp; omega) ?_; intro v2 w2 ho2 hg2 _)
            | fail)
          have hk2 := HKP.out w2 (((Fr.refl _ _).alloc _).grown hg2 (fun k _ h => h))
          have hF2 : Fr New w w2 := (hF.alloc _).grown hg2 (fun k hk hv => by have := (hO.lt k hv).1; omega)
          have hO2 : w2.ownsRow w.heap.size 199 2 v2 (i + 1) (rsCells ((recsOf ws nx).take (i + 1))) := by
            rw [HTT.out, rsCells_snoc]
            exact ho2
          clear ho2 hg2
          go_roundg ((difP ws nx).length - (i + 1))
          case measure => omega
          case rel => exact ⟨i + 1, by omega, rfl, by go_num, hk2.1, hF2, hO2, hk2.2⟩
        · obtain rfl : i = (difP ws nx).length := by omega
          have hd0 : decide (((difP ws nx).length : Int) < ((difP ws nx).length : Int)) = false := by simp
          rw [List.take_of_length_le (by simp [recsOf])] at hO
          obtain ⟨a6, c6, rfl⟩ := own_slice hO
          go_wp2
          go_ret
          refine ⟨_, rfl, ?_, hF⟩
          unfold OwnRs
          rw [show (recsOf ws nx).length = (difP ws nx).length by simp [recsOf]]
          exact hO
end Go.Proofs.YtbagcjlimdilpaaGreat
