/- The law's 'plain' for spoilt images, beside heaps. -/
import Derived.Test.YtbagcjlimdilpaaGreatHhJ8
import Derived.Test.YtbagcjlimdilpaaGreatHhZeroL
import Derived.Test.YtbagcjlimdilpaaGreatHhPgJ
namespace Go.Proofs.YtbagcjlimdilpaaGreat
open Go.RowKit

set_option maxHeartbeats 8000000 in
set_option maxRecDepth 1000000 in
theorem plain_spoil_wordsX {K : Nat → Prop} {X : Rest} (B b c : Nat) (A D C V : Int) (Wa : Option Addr) (Wc : Nat) (zw : List Int) {vws : Value} {nw : Nat} {xs : List Value} {vb : Value} {es : List Entry} (w : World) (hA0 : -9223372036854775808 ≤ A) (hA1 : A ≤ 9223372036854775807) (hn : 0 < nw) (P : PartsX K X B b c vws nw xs vb es w) (I : ImgsX K w xs)
    (hw0 : 0 < zw.length) (hw1 : zw.length ≤ 1048576) (hrw : RowU w Wa zw) (hUw : ∀ z ∈ zw, U z) :
    Calls Tryz.prog 73 #[.pointer (some ⟨b, 0, none⟩), opV 3 A D C V Wa zw.length Wc] w fun e w' => e = .returned (.bool true) ∧ Stay B w w' ∧ Inv2X K X B b c w' := by
  have hn12 := P.few
  have hp0 := pickI_nonneg A nw (by omega)
  have hp1 := pickI_lt A nw (by omega)
  have HPK : Hid (∀ w, Calls Tryz.prog 74 #[.int .i64 A, .int .i64 nw] w fun e w' => e = .returned (.int .i64 (pickI A nw)) ∧ w' = w) := fun w => lpick_any A nw w hA0 hA1 (by omega) (by omega)
  obtain ⟨j, hj⟩ := Int.eq_ofNat_of_zero_le hp0
  rw [hj] at hp1 HPK
  have hjn : j < nw := by omega
  have P0 := P
  obtain ⟨gw, cw, av, cv, zs, rfl, hcj, hrz, hcz, hz1, hzU⟩ := P.pick I hn j hjn
  obtain ⟨hcb, hzb⟩ := block_cells P.bk
  have hbW := P.lt
  have hcb0 : w.cell? ⟨b, 0, none⟩ = some (.slice (some ⟨gw, 0, none⟩) nw cw) := (hcb 0).trans rfl
  have HLN : Hid (∀ w', Fr New w w' → Calls Tryz.prog 120 #[.slice av zs.length cv] w' fun e w'' => e = .returned (.slice (some ⟨w'.heap.size, 0, none⟩) (zs.length + 8) (zs.length + 8)) ∧ Row w'' w'.heap.size (withEight zs) ∧ Fr New w' w'') := fun w' hf => lent_any av cv zs w' (by omega) (rowU_fr hf hrz (fun _ _ h => h))
  obtain ⟨sw, ow, rfl, _, _⟩ := rowU_plain hrw hw0
  have HIM : Hid (∀ w', Fr New w w' → Calls Tryz.prog 89 #[.pointer (some ⟨b, 0, none⟩), .slice (some ⟨sw, ow, none⟩) zw.length Wc] w' fun e w'' => e = .returned (.tuple #[]) ∧ Inv2X K X B b c w'' ∧ Fr (TurnedI b (.slice (some ⟨gw, 0, none⟩) nw cw)) w' w'') := fun w' hf => image2_partsX (P.fr hf) (I.new hf) ⟨sw, ow, none⟩ zw zw.length Wc rfl (by omega) hUw (rowU_fr hf hrw (fun _ _ h => h))
  have hnz : ((nw : Int) == 0) = false := by simp; omega
  have hj0 : (0 : Int) ≤ (j : Int) := by omega
  have hj1 : (j : Int) < (nw : Int) := by omega
  have hgw : gw < w.heap.size := World.block_lt_of_cell? w _ hcj
  have hd0 : decide ((0 : Int) < (zw.length : Int)) = true := by simp; omega
  obtain ⟨n, hnl⟩ : ∃ n, n = zs.length := ⟨_, rfl⟩
  rw [← hnl] at hcj HLN hcz hz1
  clear hcb hzb hrz hzU hp0 hj hnl I hrw hUw P
  go_enter Tryz.func73, Tryz.ntmps73
  go_upto_region 17 with fail
  go_quiet (first | (go_at_call 74; exact Calls.quiet_of_same (HPK.out _)) | fail)
  go_wp2_with (first
    | (go_at_call 120; refine (HLN.out _ (((Fr.refl New w).alloc _).drewN _)).mono ?_; rintro e w1 ⟨rfl, hr1, hf1⟩; have hf1' : Fr New w w1 := ((Fr.refl New w).alloc _).drewN _ |>.same hf1; obtain ⟨hcx, hzx⟩ := block_cells (hf1.heap (k := w.heap.size) (Go.Deep.blk_alloc_new w _) id))
    | (go_at_call 89; refine (HIM.out w1 hf1').mono ?_; rintro e w7 ⟨rfl, I7, h7⟩)
    | fail)
  go_ret
  exact ⟨rfl, P0.stay (((Fr.refl _ _).same hf1').trans h7 (fun j _ ht => by rcases ht with h | h; exact Or.inl h; exact Or.inr (Or.inl h)) : Fr (T0 b _ vb) w w7), I7⟩


theorem wpList_append_none {ops : Array Oper} {rest : List Oper} {o : Oper} {a : Act} {w : World} {Q : Exit → Act → World → Prop} (hgd : o.guard = none) (s x : Operand)
    (hop : o.op = .call { callee := .builtin .append, args := #[s, x], argTypes := #[43, 43] }) (g c : Nat) (av : Option Addr) (hs : a.eval s = .slice (some ⟨g, 0, none⟩) 0 0) (hx : a.eval x = .slice av 0 c)
    (h : wpList Tryz.prog ops Q rest (a.put o.dst (.slice (some ⟨g, 0, none⟩) 0 0)) w) : wpList Tryz.prog ops Q (o :: rest) a w := by
  refine wpList_plain hgd fun K hK => ?_
  obtain ⟨i0, hi, hz0, hz1, hz2⟩ := info_parts Tryz.info50
  have hr : (Builtin.append_ #[43, 43] o.type #[.slice (some ⟨g, 0, none⟩) 0 0, .slice av 0 c]).run Tryz.prog w = .ok (.slice (some ⟨g, 0, none⟩) 0 0) w := by
    cases av with
    | none => simp [Builtin.append_, run_underlying Tryz.underlying43, sizeOf, typeInfo, hi, Builtin.lenOf, Builtin.firstCells, storeCells]
    | some ad =>
      have hfc := run_firstCells_some (P := Tryz.prog) w i0.size 0 ad 0 c [] (by simp) (fun j v hv => by simp at hv)
      simp [Builtin.append_, run_underlying Tryz.underlying43, sizeOf, typeInfo, hi, Builtin.lenOf, hfc, storeCells]
  unfold Oper.wp execOp
  simp only [hop, resolve, invoke, builtin, Sem.run_bind, Sem.run_pure, Result.andThen_ok, List.map_toArray, List.map_cons, List.map_nil, hs, hx, hr]
  exact hK _ _ h

set_option maxHeartbeats 16000000 in
set_option maxRecDepth 1000000 in
theorem plain_spoilX {K : Nat → Prop} {X : Rest} (B b c : Nat) (A D C V : Int) (Wa : Option Addr) (Wc : Nat) {vws : Value} {nw : Nat} {xs : List Value} {vb : Value} {es : List Entry} (w : World) (hA0 : -9223372036854775808 ≤ A) (hA1 : A ≤ 9223372036854775807) (hC0 : -9223372036854775808 ≤ C) (hC1 : C ≤ 9223372036854775807) (hVU : U V) (hn : 0 < nw) (P : PartsX K X B b c vws nw xs vb es w) (I : ImgsX K w xs) :
    Calls Tryz.prog 73 #[.pointer (some ⟨b, 0, none⟩), opV 3 A D C V Wa 0 Wc] w fun e w' => e = .returned (.bool true) ∧ Stay B w w' ∧ Inv2X K X B b c w' := by
  have hn12 := P.few
  have hp0 := pickI_nonneg A nw (by omega)
  have hp1 := pickI_lt A nw (by omega)
  have HPK : Hid (∀ w, Calls Tryz.prog 74 #[.int .i64 A, .int .i64 nw] w fun e w' => e = .returned (.int .i64 (pickI A nw)) ∧ w' = w) := fun w => lpick_any A nw w hA0 hA1 (by omega) (by omega)
  obtain ⟨j, hj⟩ := Int.eq_ofNat_of_zero_le hp0
  rw [hj] at hp1 HPK
  have hjn : j < nw := by omega
  have P0 := P
  obtain ⟨gw, cw, av, cv, zs, rfl, hcj, hrz, hcz, hz1, hzU⟩ := P.pick I hn j hjn
  obtain ⟨hcb, hzb⟩ := block_cells P.bk
  have hbW := P.lt
  have hcb0 : w.cell? ⟨b, 0, none⟩ = some (.slice (some ⟨gw, 0, none⟩) nw cw) := (hcb 0).trans rfl
  have HRZ : Hid (∀ w', Fr New w w' → RowU w' av zs) := fun w' hf => rowU_fr hf hrz (fun _ _ h => h)
  have HLN : Hid (∀ w', Fr New w w' → Calls Tryz.prog 120 #[.slice av zs.length cv] w' fun e w'' => e = .returned (.slice (some ⟨w'.heap.size, 0, none⟩) (zs.length + 8) (zs.length + 8)) ∧ Row w'' w'.heap.size (withEight zs) ∧ Fr New w' w'') := fun w' hf => lent_any av cv zs w' (by omega) (HRZ.out w' hf)
  have HIM : Hid (∀ w', Fr New w w' → ∀ (ad : Addr) (zo : List Int) (len cp : Nat), zo.length = len → len ≤ 2097152 → (∀ z ∈ zo, U z) → RowU w' (some ad) zo → Calls Tryz.prog 89 #[.pointer (some ⟨b, 0, none⟩), .slice (some ad) len cp] w' fun e w'' => e = .returned (.tuple #[]) ∧ Inv2X K X B b c w'' ∧ Fr (TurnedI b (.slice (some ⟨gw, 0, none⟩) nw cw)) w' w'') := fun w' hf ad zo len cp h1 h2 h3 h4 => image2_partsX (P.fr hf) (I.new hf) ad zo len cp h1 h2 h3 h4
  have hnz : ((nw : Int) == 0) = false := by simp; omega
  have hj0 : (0 : Int) ≤ (j : Int) := by omega
  have hj1 : (j : Int) < (nw : Int) := by omega
  have hgw : gw < w.heap.size := World.block_lt_of_cell? w _ hcj
  have hV : U V := hVU
  obtain ⟨i0, hi0, hz0, hz1', hz2⟩ := info_parts Tryz.info50
  have HUZ : Hid (∀ z ∈ zs, U z) := hzU
  have HFIN : Hid (∀ w1 w7, Fr New w w1 → Fr (TurnedI b (.slice (some ⟨gw, 0, none⟩) nw cw)) w1 w7 → Stay B w w7) := fun w1 w7 h1 h7 => P0.stay (((Fr.refl _ _).same h1).trans h7 (fun j _ ht => by rcases ht with h | h; exact Or.inl h; exact Or.inr (Or.inl h)) : Fr (T0 b (.slice (some ⟨gw, 0, none⟩) nw cw) vb) w w7)
  obtain ⟨n, hnl⟩ : ∃ n, n = zs.length := ⟨_, rfl⟩
  have HNL : Hid (n = zs.length) := hnl
  rw [← hnl] at hcj HLN hcz hz1
  clear hcb hzb hrz hzU hp0 hj hnl I P hVU
  by_cases hne : 0 < n
  · obtain ⟨sb, so, hav, _, _⟩ := rowU_plain (HRZ.out w (Fr.refl _ _)) (by rw [← HNL.out]; exact hne)
    subst hav
    have HRN : Hid (∀ w1, Fr New w w1 → ∀ o : Obj, ∀ j u, (zs.map (Value.int .u64))[j]? = some u → (w1.alloc o).cell? ((⟨sb, so, none⟩ : Addr).add j) = some u) := fun w1 hf o => copy_news (HRZ.out w1 hf) o
    have HCM : Hid (∀ (w1 w2 : World) (g c : Nat), w2.ownsRow w1.heap.size 50 1 (.slice (some ⟨g, 0, none⟩) (0 + n) c) (0 + n) ([] ++ zs.map (Value.int .u64)) → (w1.alloc (.cells #[] 50)).grownBy w2 (Value.slice (some ⟨w1.heap.size, 0, none⟩) 0 0).ownBlock → Mem2 w1 g c n zs w2) := fun w1 w2 g c h1 h2 => by rw [HNL.out]; rw [HNL.out] at h1; exact copy_mem h1 h2
    have hn0 : ¬ n = 0 := by omega
    rcases (show (0 < C) ∨ (C < 0) ∨ (C = 0) by omega) with hC | hC | hC
    · by_cases hD : 0 ≤ D ∧ D < (n : Int)
      · obtain ⟨d, rfl⟩ := Int.eq_ofNat_of_zero_le hD.1
        have hdn : d < n := by omega
        have hdd : decide ((0 : Int) ≤ (d : Int)) = true := by simp
        have hde : decide ((d : Int) < (n : Int)) = true := by simp; omega
        obtain ⟨k, hk⟩ := Int.eq_ofNat_of_zero_le (pickI_nonneg C ((n + 1 : Nat) : Int) (by omega))
        have hkn : k ≤ n := by have := pickI_lt C ((n + 1 : Nat) : Int) (by omega); omega
        have HPC : Hid (∀ w, Calls Tryz.prog 74 #[.int .i64 C, .int .i64 ((n + 1 : Nat) : Int)] w fun e w' => e = .returned (.int .i64 (k : Int)) ∧ w' = w) := fun w => by rw [← hk]; exact lpick_any C ((n + 1 : Nat) : Int) w hC0 hC1 (by omega) (by omega)
        clear hk
        go_enter Tryz.func73, Tryz.ntmps73
        go_upto_region 17 with fail
        go_quiet (first | (go_at_call 74; exact Calls.quiet_of_same (HPK.out _)) | fail)
        go_wp2_with (first
          | (go_at_call 120; refine (HLN.out _ (((Fr.refl New w).alloc _).drewN _)).mono ?_; rintro e w1 ⟨rfl, hr1, hf1⟩; have hf1' : Fr New w w1 := ((Fr.refl New w).alloc _).drewN _ |>.same hf1; have hbx := hf1.heap (k := w.heap.size) (Go.Deep.blk_alloc_new w _) id; obtain ⟨hcx, hzx⟩ := block_cells hbx; have hws1 : w.heap.size < w1.heap.size := lt_of_block hbx)
          | (at_builtin; refine wpList_append_lies _ rfl (.tmp 129) (.tmp 130) 43 rfl w1.heap.size 50 i0 (.int .u64 0) 1 8 Tryz.underlying43 hi0 hz0 hz1' hz2 rfl (by decide) _ _ _ rfl (emptyU w1) ⟨sb, so, none⟩ n cv (zs.map (Value.int .u64)) rfl (by simp [HNL.out]) (HRN.out w1 hf1' _) (ints_oneU zs) (by omega) (by unfold maxLen; omega) (by omega) (by simp) _ rfl ?_; intro g cg w2 hown2 hg2 _ _; have M2 : Mem2 w1 g cg n zs w2 := HCM.out w1 w2 g cg hown2 hg2; clear hown2 hg2; obtain ⟨hcy, hzy⟩ := block_cells (M2.fr.heap hbx id); have hgw1 := M2.base; have hgc := M2.cap; have hcd := M2.cell d hdn; have hfd := M2.free d; have M3 := M2.put d V; have hgne : w.heap.size ≠ g := (by omega))
          | (go_at_call 74; refine calls_same (HPC.out _) ?_)
          | (go_at_call 89; refine (HIM.out (w2.setCell ⟨g, d, none⟩ (.int .u64 V)) (hf1'.same M3.fr) ⟨g, 0, none⟩ ((zs.set d V).take (n - k)) (n - k) cg (by rw [List.length_take, show (zs.set d V).length = n by simp [← HNL.out]]; omega) (by omega) (fun z hz => (set_UX HUZ.out hV) z (List.mem_of_mem_take hz)) (rowU_take M3.rowU _)).mono ?_; rintro e w7 ⟨rfl, I7, h7⟩)
          | fail)
        go_ret
        exact ⟨rfl, HFIN.out _ w7 (hf1'.same M3.fr) h7, I7⟩
      · rcases (show (D < 0) ∨ ((0 ≤ D) ∧ (n : Int) ≤ D) by omega) with hD1 | ⟨hD1, hD2⟩
        · have hdd : decide ((0 : Int) ≤ D) = false := by simpa using hD1
          obtain ⟨k, hk⟩ := Int.eq_ofNat_of_zero_le (pickI_nonneg C ((n + 1 : Nat) : Int) (by omega))
          have hkn : k ≤ n := by have := pickI_lt C ((n + 1 : Nat) : Int) (by omega); omega
          have HPC : Hid (∀ w, Calls Tryz.prog 74 #[.int .i64 C, .int .i64 ((n + 1 : Nat) : Int)] w fun e w' => e = .returned (.int .i64 (k : Int)) ∧ w' = w) := fun w => by rw [← hk]; exact lpick_any C ((n + 1 : Nat) : Int) w hC0 hC1 (by omega) (by omega)
          clear hk
          go_enter Tryz.func73, Tryz.ntmps73
          go_upto_region 17 with fail
          go_quiet (first | (go_at_call 74; exact Calls.quiet_of_same (HPK.out _)) | fail)
          go_wp2_with (first
            | (go_at_call 120; refine (HLN.out _ (((Fr.refl New w).alloc _).drewN _)).mono ?_; rintro e w1 ⟨rfl, hr1, hf1⟩; have hf1' : Fr New w w1 := ((Fr.refl New w).alloc _).drewN _ |>.same hf1; have hbx := hf1.heap (k := w.heap.size) (Go.Deep.blk_alloc_new w _) id; obtain ⟨hcx, hzx⟩ := block_cells hbx; have hws1 : w.heap.size < w1.heap.size := lt_of_block hbx)
            | (at_builtin; refine wpList_append_lies _ rfl (.tmp 129) (.tmp 130) 43 rfl w1.heap.size 50 i0 (.int .u64 0) 1 8 Tryz.underlying43 hi0 hz0 hz1' hz2 rfl (by decide) _ _ _ rfl (emptyU w1) ⟨sb, so, none⟩ n cv (zs.map (Value.int .u64)) rfl (by simp [HNL.out]) (HRN.out w1 hf1' _) (ints_oneU zs) (by omega) (by unfold maxLen; omega) (by omega) (by simp) _ rfl ?_; intro g cg w2 hown2 hg2 _ _; have M2 : Mem2 w1 g cg n zs w2 := HCM.out w1 w2 g cg hown2 hg2; clear hown2 hg2; obtain ⟨hcy, hzy⟩ := block_cells (M2.fr.heap hbx id); have hgw1 := M2.base; have hgc := M2.cap; have hgne : w.heap.size ≠ g := (by omega))
            | (go_at_call 74; refine calls_same (HPC.out _) ?_)
            | (go_at_call 89; refine (HIM.out w2 (hf1'.same M2.fr) ⟨g, 0, none⟩ (zs.take (n - k)) (n - k) cg (by rw [List.length_take, show zs.length = n from HNL.out.symm]; omega) (by omega) (fun z hz => (HUZ.out) z (List.mem_of_mem_take hz)) (rowU_take M2.rowU _)).mono ?_; rintro e w7 ⟨rfl, I7, h7⟩)
            | fail)
          go_ret
          exact ⟨rfl, HFIN.out _ w7 (hf1'.same M2.fr) h7, I7⟩
        · have hdd : decide ((0 : Int) ≤ D) = true := by simpa using hD1
          have hde : decide (D < (n : Int)) = false := by simpa using hD2
          obtain ⟨k, hk⟩ := Int.eq_ofNat_of_zero_le (pickI_nonneg C ((n + 1 : Nat) : Int) (by omega))
          have hkn : k ≤ n := by have := pickI_lt C ((n + 1 : Nat) : Int) (by omega); omega
          have HPC : Hid (∀ w, Calls Tryz.prog 74 #[.int .i64 C, .int .i64 ((n + 1 : Nat) : Int)] w fun e w' => e = .returned (.int .i64 (k : Int)) ∧ w' = w) := fun w => by rw [← hk]; exact lpick_any C ((n + 1 : Nat) : Int) w hC0 hC1 (by omega) (by omega)
          clear hk
          go_enter Tryz.func73, Tryz.ntmps73
          go_upto_region 17 with fail
          go_quiet (first | (go_at_call 74; exact Calls.quiet_of_same (HPK.out _)) | fail)
          go_wp2_with (first
            | (go_at_call 120; refine (HLN.out _ (((Fr.refl New w).alloc _).drewN _)).mono ?_; rintro e w1 ⟨rfl, hr1, hf1⟩; have hf1' : Fr New w w1 := ((Fr.refl New w).alloc _).drewN _ |>.same hf1; have hbx := hf1.heap (k := w.heap.size) (Go.Deep.blk_alloc_new w _) id; obtain ⟨hcx, hzx⟩ := block_cells hbx; have hws1 : w.heap.size < w1.heap.size := lt_of_block hbx)
            | (at_builtin; refine wpList_append_lies _ rfl (.tmp 129) (.tmp 130) 43 rfl w1.heap.size 50 i0 (.int .u64 0) 1 8 Tryz.underlying43 hi0 hz0 hz1' hz2 rfl (by decide) _ _ _ rfl (emptyU w1) ⟨sb, so, none⟩ n cv (zs.map (Value.int .u64)) rfl (by simp [HNL.out]) (HRN.out w1 hf1' _) (ints_oneU zs) (by omega) (by unfold maxLen; omega) (by omega) (by simp) _ rfl ?_; intro g cg w2 hown2 hg2 _ _; have M2 : Mem2 w1 g cg n zs w2 := HCM.out w1 w2 g cg hown2 hg2; clear hown2 hg2; obtain ⟨hcy, hzy⟩ := block_cells (M2.fr.heap hbx id); have hgw1 := M2.base; have hgc := M2.cap; have hgne : w.heap.size ≠ g := (by omega))
            | (go_at_call 74; refine calls_same (HPC.out _) ?_)
            | (go_at_call 89; refine (HIM.out w2 (hf1'.same M2.fr) ⟨g, 0, none⟩ (zs.take (n - k)) (n - k) cg (by rw [List.length_take, show zs.length = n from HNL.out.symm]; omega) (by omega) (fun z hz => (HUZ.out) z (List.mem_of_mem_take hz)) (rowU_take M2.rowU _)).mono ?_; rintro e w7 ⟨rfl, I7, h7⟩)
            | fail)
          go_ret
          exact ⟨rfl, HFIN.out _ w7 (hf1'.same M2.fr) h7, I7⟩
    · by_cases hD : 0 ≤ D ∧ D < (n : Int)
      · obtain ⟨d, rfl⟩ := Int.eq_ofNat_of_zero_le hD.1
        have hdn : d < n := by omega
        have hdd : decide ((0 : Int) ≤ (d : Int)) = true := by simp
        have hde : decide ((d : Int) < (n : Int)) = true := by simp; omega
        obtain ⟨k, hk⟩ := Int.eq_ofNat_of_zero_le (pickI_nonneg C 64 (by omega))
        have hk64 : k < 64 := by have := pickI_lt C 64 (by omega); omega
        have HPC : Hid (∀ w, Calls Tryz.prog 74 #[.int .i64 C, .int .i64 64] w fun e w' => e = .returned (.int .i64 (k : Int)) ∧ w' = w) := fun w => by rw [← hk]; exact lpick_any C 64 w hC0 hC1 (by omega) (by omega)
        clear hk
        have hC0' : ¬ (0 : Int) < C := by omega
        go_enter Tryz.func73, Tryz.ntmps73
        go_upto_region 17 with fail
        go_quiet (first | (go_at_call 74; exact Calls.quiet_of_same (HPK.out _)) | fail)
        go_wp2_with (first
          | (go_at_call 120; refine (HLN.out _ (((Fr.refl New w).alloc _).drewN _)).mono ?_; rintro e w1 ⟨rfl, hr1, hf1⟩; have hf1' : Fr New w w1 := ((Fr.refl New w).alloc _).drewN _ |>.same hf1; have hbx := hf1.heap (k := w.heap.size) (Go.Deep.blk_alloc_new w _) id; obtain ⟨hcx, hzx⟩ := block_cells hbx; have hws1 : w.heap.size < w1.heap.size := lt_of_block hbx)
          | (at_builtin; refine wpList_append_lies _ rfl (.tmp 129) (.tmp 130) 43 rfl w1.heap.size 50 i0 (.int .u64 0) 1 8 Tryz.underlying43 hi0 hz0 hz1' hz2 rfl (by decide) _ _ _ rfl (emptyU w1) ⟨sb, so, none⟩ n cv (zs.map (Value.int .u64)) rfl (by simp [HNL.out]) (HRN.out w1 hf1' _) (ints_oneU zs) (by omega) (by unfold maxLen; omega) (by omega) (by simp) _ rfl ?_; intro g cg w2 hown2 hg2 _ _; have M2 : Mem2 w1 g cg n zs w2 := HCM.out w1 w2 g cg hown2 hg2; clear hown2 hg2; obtain ⟨hcy, hzy⟩ := block_cells (M2.fr.heap hbx id); have hgw1 := M2.base; have hgc := M2.cap; have hcd := M2.cell d hdn; have hfd := M2.free d; have M3 := M2.put d V; have hgne : w.heap.size ≠ g := (by omega))
          | (go_at_call 74; refine calls_same (HPC.out _) ?_)
          | (refine wpList_append_zeros rfl (.tmp 164) (.tmp 167) rfl g n cg k (zs.set d V) (by rfl) (by rfl) (own_zero M3.own) hk64 (by omega) ?_; intro ad cq w6 hr6 hf6; have hf6' : Fr New w w6 := (hf1'.same M3.fr).trans hf6 (fun j hj ht => by omega); obtain ⟨hcw, hzw⟩ := block_cells (hf6.heap (M3.fr.heap hbx id) (fun he => hgne he)))
          | (go_at_call 89; refine (HIM.out w6 hf6' ad ((zs.set d V) ++ List.replicate k 0) (n + k) cq (by rw [List.length_append, List.length_replicate, show (zs.set d V).length = n by simp [← HNL.out]]) (by omega) (fun z hz => by rcases List.mem_append.1 hz with h | h; exact (set_UX HUZ.out hV) z h; rw [(List.mem_replicate.1 h).2]; exact U_zeroX) hr6).mono ?_; rintro e w7 ⟨rfl, I7, h7⟩)
          | fail)
        go_ret
        exact ⟨rfl, HFIN.out _ w7 hf6' h7, I7⟩
      · rcases (show (D < 0) ∨ ((0 ≤ D) ∧ (n : Int) ≤ D) by omega) with hD1 | ⟨hD1, hD2⟩
        · have hdd : decide ((0 : Int) ≤ D) = false := by simpa using hD1
          obtain ⟨k, hk⟩ := Int.eq_ofNat_of_zero_le (pickI_nonneg C 64 (by omega))
          have hk64 : k < 64 := by have := pickI_lt C 64 (by omega); omega
          have HPC : Hid (∀ w, Calls Tryz.prog 74 #[.int .i64 C, .int .i64 64] w fun e w' => e = .returned (.int .i64 (k : Int)) ∧ w' = w) := fun w => by rw [← hk]; exact lpick_any C 64 w hC0 hC1 (by omega) (by omega)
          clear hk
          have hC0' : ¬ (0 : Int) < C := by omega
          go_enter Tryz.func73, Tryz.ntmps73
          go_upto_region 17 with fail
          go_quiet (first | (go_at_call 74; exact Calls.quiet_of_same (HPK.out _)) | fail)
          go_wp2_with (first
            | (go_at_call 120; refine (HLN.out _ (((Fr.refl New w).alloc _).drewN _)).mono ?_; rintro e w1 ⟨rfl, hr1, hf1⟩; have hf1' : Fr New w w1 := ((Fr.refl New w).alloc _).drewN _ |>.same hf1; have hbx := hf1.heap (k := w.heap.size) (Go.Deep.blk_alloc_new w _) id; obtain ⟨hcx, hzx⟩ := block_cells hbx; have hws1 : w.heap.size < w1.heap.size := lt_of_block hbx)
            | (at_builtin; refine wpList_append_lies _ rfl (.tmp 129) (.tmp 130) 43 rfl w1.heap.size 50 i0 (.int .u64 0) 1 8 Tryz.underlying43 hi0 hz0 hz1' hz2 rfl (by decide) _ _ _ rfl (emptyU w1) ⟨sb, so, none⟩ n cv (zs.map (Value.int .u64)) rfl (by simp [HNL.out]) (HRN.out w1 hf1' _) (ints_oneU zs) (by omega) (by unfold maxLen; omega) (by omega) (by simp) _ rfl ?_; intro g cg w2 hown2 hg2 _ _; have M2 : Mem2 w1 g cg n zs w2 := HCM.out w1 w2 g cg hown2 hg2; clear hown2 hg2; obtain ⟨hcy, hzy⟩ := block_cells (M2.fr.heap hbx id); have hgw1 := M2.base; have hgc := M2.cap; have hgne : w.heap.size ≠ g := (by omega))
            | (go_at_call 74; refine calls_same (HPC.out _) ?_)
            | (refine wpList_append_zeros rfl (.tmp 164) (.tmp 167) rfl g n cg k zs (by rfl) (by rfl) (own_zero M2.own) hk64 (by omega) ?_; intro ad cq w6 hr6 hf6; have hf6' : Fr New w w6 := (hf1'.same M2.fr).trans hf6 (fun j hj ht => by omega); obtain ⟨hcw, hzw⟩ := block_cells (hf6.heap (M2.fr.heap hbx id) (fun he => hgne he)))
            | (go_at_call 89; refine (HIM.out w6 hf6' ad (zs ++ List.replicate k 0) (n + k) cq (by rw [List.length_append, List.length_replicate, show zs.length = n from HNL.out.symm]) (by omega) (fun z hz => by rcases List.mem_append.1 hz with h | h; exact (HUZ.out) z h; rw [(List.mem_replicate.1 h).2]; exact U_zeroX) hr6).mono ?_; rintro e w7 ⟨rfl, I7, h7⟩)
            | fail)
          go_ret
          exact ⟨rfl, HFIN.out _ w7 hf6' h7, I7⟩
        · have hdd : decide ((0 : Int) ≤ D) = true := by simpa using hD1
          have hde : decide (D < (n : Int)) = false := by simpa using hD2
          obtain ⟨k, hk⟩ := Int.eq_ofNat_of_zero_le (pickI_nonneg C 64 (by omega))
          have hk64 : k < 64 := by have := pickI_lt C 64 (by omega); omega
          have HPC : Hid (∀ w, Calls Tryz.prog 74 #[.int .i64 C, .int .i64 64] w fun e w' => e = .returned (.int .i64 (k : Int)) ∧ w' = w) := fun w => by rw [← hk]; exact lpick_any C 64 w hC0 hC1 (by omega) (by omega)
          clear hk
          have hC0' : ¬ (0 : Int) < C := by omega
          go_enter Tryz.func73, Tryz.ntmps73
          go_upto_region 17 with fail
          go_quiet (first | (go_at_call 74; exact Calls.quiet_of_same (HPK.out _)) | fail)
          go_wp2_with (first
            | (go_at_call 120; refine (HLN.out _ (((Fr.refl New w).alloc _).drewN _)).mono ?_; rintro e w1 ⟨rfl, hr1, hf1⟩; have hf1' : Fr New w w1 := ((Fr.refl New w).alloc _).drewN _ |>.same hf1; have hbx := hf1.heap (k := w.heap.size) (Go.Deep.blk_alloc_new w _) id; obtain ⟨hcx, hzx⟩ := block_cells hbx; have hws1 : w.heap.size < w1.heap.size := lt_of_block hbx)
            | (at_builtin; refine wpList_append_lies _ rfl (.tmp 129) (.tmp 130) 43 rfl w1.heap.size 50 i0 (.int .u64 0) 1 8 Tryz.underlying43 hi0 hz0 hz1' hz2 rfl (by decide) _ _ _ rfl (emptyU w1) ⟨sb, so, none⟩ n cv (zs.map (Value.int .u64)) rfl (by simp [HNL.out]) (HRN.out w1 hf1' _) (ints_oneU zs) (by omega) (by unfold maxLen; omega) (by omega) (by simp) _ rfl ?_; intro g cg w2 hown2 hg2 _ _; have M2 : Mem2 w1 g cg n zs w2 := HCM.out w1 w2 g cg hown2 hg2; clear hown2 hg2; obtain ⟨hcy, hzy⟩ := block_cells (M2.fr.heap hbx id); have hgw1 := M2.base; have hgc := M2.cap; have hgne : w.heap.size ≠ g := (by omega))
            | (go_at_call 74; refine calls_same (HPC.out _) ?_)
            | (refine wpList_append_zeros rfl (.tmp 164) (.tmp 167) rfl g n cg k zs (by rfl) (by rfl) (own_zero M2.own) hk64 (by omega) ?_; intro ad cq w6 hr6 hf6; have hf6' : Fr New w w6 := (hf1'.same M2.fr).trans hf6 (fun j hj ht => by omega); obtain ⟨hcw, hzw⟩ := block_cells (hf6.heap (M2.fr.heap hbx id) (fun he => hgne he)))
            | (go_at_call 89; refine (HIM.out w6 hf6' ad (zs ++ List.replicate k 0) (n + k) cq (by rw [List.length_append, List.length_replicate, show zs.length = n from HNL.out.symm]) (by omega) (fun z hz => by rcases List.mem_append.1 hz with h | h; exact (HUZ.out) z h; rw [(List.mem_replicate.1 h).2]; exact U_zeroX) hr6).mono ?_; rintro e w7 ⟨rfl, I7, h7⟩)
            | fail)
          go_ret
          exact ⟨rfl, HFIN.out _ w7 hf6' h7, I7⟩
    · subst hC
      by_cases hD : 0 ≤ D ∧ D < (n : Int)
      · obtain ⟨d, rfl⟩ := Int.eq_ofNat_of_zero_le hD.1
        have hdn : d < n := by omega
        have hdd : decide ((0 : Int) ≤ (d : Int)) = true := by simp
        have hde : decide ((d : Int) < (n : Int)) = true := by simp; omega
        go_enter Tryz.func73, Tryz.ntmps73
        go_upto_region 17 with fail
        go_quiet (first | (go_at_call 74; exact Calls.quiet_of_same (HPK.out _)) | fail)
        go_wp2_with (first
          | (go_at_call 120; refine (HLN.out _ (((Fr.refl New w).alloc _).drewN _)).mono ?_; rintro e w1 ⟨rfl, hr1, hf1⟩; have hf1' : Fr New w w1 := ((Fr.refl New w).alloc _).drewN _ |>.same hf1; have hbx := hf1.heap (k := w.heap.size) (Go.Deep.blk_alloc_new w _) id; obtain ⟨hcx, hzx⟩ := block_cells hbx; have hws1 : w.heap.size < w1.heap.size := lt_of_block hbx)
          | (at_builtin; refine wpList_append_lies _ rfl (.tmp 129) (.tmp 130) 43 rfl w1.heap.size 50 i0 (.int .u64 0) 1 8 Tryz.underlying43 hi0 hz0 hz1' hz2 rfl (by decide) _ _ _ rfl (emptyU w1) ⟨sb, so, none⟩ n cv (zs.map (Value.int .u64)) rfl (by simp [HNL.out]) (HRN.out w1 hf1' _) (ints_oneU zs) (by omega) (by unfold maxLen; omega) (by omega) (by simp) _ rfl ?_; intro g cg w2 hown2 hg2 _ _; have M2 : Mem2 w1 g cg n zs w2 := HCM.out w1 w2 g cg hown2 hg2; clear hown2 hg2; obtain ⟨hcy, hzy⟩ := block_cells (M2.fr.heap hbx id); have hgw1 := M2.base; have hgc := M2.cap; have hcd := M2.cell d hdn; have hfd := M2.free d; have M3 := M2.put d V; have hgne : w.heap.size ≠ g := (by omega))
          | (go_at_call 89; refine (HIM.out (w2.setCell ⟨g, d, none⟩ (.int .u64 V)) (hf1'.same M3.fr) ⟨g, 0, none⟩ (zs.set d V) n cg (by simp [← HNL.out]) (by omega) (set_UX HUZ.out hV) M3.rowU).mono ?_; rintro e w7 ⟨rfl, I7, h7⟩)
          | fail)
        go_ret
        exact ⟨rfl, HFIN.out _ w7 (hf1'.same M3.fr) h7, I7⟩
      · rcases (show (D < 0) ∨ ((0 ≤ D) ∧ (n : Int) ≤ D) by omega) with hD1 | ⟨hD1, hD2⟩
        · have hdd : decide ((0 : Int) ≤ D) = false := by simpa using hD1
          go_enter Tryz.func73, Tryz.ntmps73
          go_upto_region 17 with fail
          go_quiet (first | (go_at_call 74; exact Calls.quiet_of_same (HPK.out _)) | fail)
          go_wp2_with (first
            | (go_at_call 120; refine (HLN.out _ (((Fr.refl New w).alloc _).drewN _)).mono ?_; rintro e w1 ⟨rfl, hr1, hf1⟩; have hf1' : Fr New w w1 := ((Fr.refl New w).alloc _).drewN _ |>.same hf1; have hbx := hf1.heap (k := w.heap.size) (Go.Deep.blk_alloc_new w _) id; obtain ⟨hcx, hzx⟩ := block_cells hbx; have hws1 : w.heap.size < w1.heap.size := lt_of_block hbx)
            | (at_builtin; refine wpList_append_lies _ rfl (.tmp 129) (.tmp 130) 43 rfl w1.heap.size 50 i0 (.int .u64 0) 1 8 Tryz.underlying43 hi0 hz0 hz1' hz2 rfl (by decide) _ _ _ rfl (emptyU w1) ⟨sb, so, none⟩ n cv (zs.map (Value.int .u64)) rfl (by simp [HNL.out]) (HRN.out w1 hf1' _) (ints_oneU zs) (by omega) (by unfold maxLen; omega) (by omega) (by simp) _ rfl ?_; intro g cg w2 hown2 hg2 _ _; have M2 : Mem2 w1 g cg n zs w2 := HCM.out w1 w2 g cg hown2 hg2; clear hown2 hg2; obtain ⟨hcy, hzy⟩ := block_cells (M2.fr.heap hbx id); have hgw1 := M2.base; have hgc := M2.cap; have hgne : w.heap.size ≠ g := (by omega))
            | (go_at_call 89; refine (HIM.out w2 (hf1'.same M2.fr) ⟨g, 0, none⟩ zs n cg (HNL.out.symm) (by omega) (HUZ.out) M2.rowU).mono ?_; rintro e w7 ⟨rfl, I7, h7⟩)
            | fail)
          go_ret
          exact ⟨rfl, HFIN.out _ w7 (hf1'.same M2.fr) h7, I7⟩
        · have hdd : decide ((0 : Int) ≤ D) = true := by simpa using hD1
          have hde : decide (D < (n : Int)) = false := by simpa using hD2
          go_enter Tryz.func73, Tryz.ntmps73
          go_upto_region 17 with fail
          go_quiet (first | (go_at_call 74; exact Calls.quiet_of_same (HPK.out _)) | fail)
          go_wp2_with (first
            | (go_at_call 120; refine (HLN.out _ (((Fr.refl New w).alloc _).drewN _)).mono ?_; rintro e w1 ⟨rfl, hr1, hf1⟩; have hf1' : Fr New w w1 := ((Fr.refl New w).alloc _).drewN _ |>.same hf1; have hbx := hf1.heap (k := w.heap.size) (Go.Deep.blk_alloc_new w _) id; obtain ⟨hcx, hzx⟩ := block_cells hbx; have hws1 : w.heap.size < w1.heap.size := lt_of_block hbx)
            | (at_builtin; refine wpList_append_lies _ rfl (.tmp 129) (.tmp 130) 43 rfl w1.heap.size 50 i0 (.int .u64 0) 1 8 Tryz.underlying43 hi0 hz0 hz1' hz2 rfl (by decide) _ _ _ rfl (emptyU w1) ⟨sb, so, none⟩ n cv (zs.map (Value.int .u64)) rfl (by simp [HNL.out]) (HRN.out w1 hf1' _) (ints_oneU zs) (by omega) (by unfold maxLen; omega) (by omega) (by simp) _ rfl ?_; intro g cg w2 hown2 hg2 _ _; have M2 : Mem2 w1 g cg n zs w2 := HCM.out w1 w2 g cg hown2 hg2; clear hown2 hg2; obtain ⟨hcy, hzy⟩ := block_cells (M2.fr.heap hbx id); have hgw1 := M2.base; have hgc := M2.cap; have hgne : w.heap.size ≠ g := (by omega))
            | (go_at_call 89; refine (HIM.out w2 (hf1'.same M2.fr) ⟨g, 0, none⟩ zs n cg (HNL.out.symm) (by omega) (HUZ.out) M2.rowU).mono ?_; rintro e w7 ⟨rfl, I7, h7⟩)
            | fail)
          go_ret
          exact ⟨rfl, HFIN.out _ w7 (hf1'.same M2.fr) h7, I7⟩
  · obtain rfl : n = 0 := by omega
    clear hne
    have hDX : D < 0 ∨ 0 ≤ D := by omega
    rcases (show (0 < C) ∨ (C < 0) ∨ (C = 0) by omega) with hC | hC | hC
    · rcases hDX with hD1 | hD1
      · have hdd : decide ((0 : Int) ≤ D) = false := by simpa using hD1
        have hk1 : pickI C ((0 + 1 : Nat) : Int) = 0 := by have h1 := pickI_nonneg C ((0 + 1 : Nat) : Int) (by omega); have h2 := pickI_lt C ((0 + 1 : Nat) : Int) (by omega); omega
        have HPC : Hid (∀ w, Calls Tryz.prog 74 #[.int .i64 C, .int .i64 1] w fun e w' => e = .returned (.int .i64 0) ∧ w' = w) := fun w => by have := lpick_any C ((0 + 1 : Nat) : Int) w hC0 hC1 (by omega) (by omega); rw [hk1] at this; exact this
        clear hk1
        go_enter Tryz.func73, Tryz.ntmps73
        go_upto_region 17 with fail
        go_quiet (first | (go_at_call 74; exact Calls.quiet_of_same (HPK.out _)) | fail)
        go_wp2_with (first
          | (go_at_call 120; refine (HLN.out _ (((Fr.refl New w).alloc _).drewN _)).mono ?_; rintro e w1 ⟨rfl, hr1, hf1⟩; have hf1' : Fr New w w1 := ((Fr.refl New w).alloc _).drewN _ |>.same hf1; have hbx := hf1.heap (k := w.heap.size) (Go.Deep.blk_alloc_new w _) id; obtain ⟨hcx, hzx⟩ := block_cells hbx; have hws1 : w.heap.size < w1.heap.size := lt_of_block hbx)
          | (at_builtin; refine wpList_append_none rfl (.tmp 129) (.tmp 130) rfl w1.heap.size cv av (by rfl) (by rfl) ?_)
          | (go_at_call 74; refine calls_same (HPC.out _) ?_)
          | (go_at_call 89; refine (HIM.out _ (hf1'.alloc _) ⟨w1.heap.size, 0, none⟩ [] 0 0 rfl (by omega) (fun z hz => by cases hz) (rowU_nil _ _)).mono ?_; rintro e w7 ⟨rfl, I7, h7⟩)
          | fail)
        go_ret
        exact ⟨rfl, HFIN.out _ w7 (hf1'.alloc _) h7, I7⟩
      · have hdd : decide ((0 : Int) ≤ D) = true := by simpa using hD1
        have hde : decide (D < (0 : Int)) = false := by simpa using hD1
        have hk1 : pickI C ((0 + 1 : Nat) : Int) = 0 := by have h1 := pickI_nonneg C ((0 + 1 : Nat) : Int) (by omega); have h2 := pickI_lt C ((0 + 1 : Nat) : Int) (by omega); omega
        have HPC : Hid (∀ w, Calls Tryz.prog 74 #[.int .i64 C, .int .i64 1] w fun e w' => e = .returned (.int .i64 0) ∧ w' = w) := fun w => by have := lpick_any C ((0 + 1 : Nat) : Int) w hC0 hC1 (by omega) (by omega); rw [hk1] at this; exact this
        clear hk1
        go_enter Tryz.func73, Tryz.ntmps73
        go_upto_region 17 with fail
        go_quiet (first | (go_at_call 74; exact Calls.quiet_of_same (HPK.out _)) | fail)
        go_wp2_with (first
          | (go_at_call 120; refine (HLN.out _ (((Fr.refl New w).alloc _).drewN _)).mono ?_; rintro e w1 ⟨rfl, hr1, hf1⟩; have hf1' : Fr New w w1 := ((Fr.refl New w).alloc _).drewN _ |>.same hf1; have hbx := hf1.heap (k := w.heap.size) (Go.Deep.blk_alloc_new w _) id; obtain ⟨hcx, hzx⟩ := block_cells hbx; have hws1 : w.heap.size < w1.heap.size := lt_of_block hbx)
          | (at_builtin; refine wpList_append_none rfl (.tmp 129) (.tmp 130) rfl w1.heap.size cv av (by rfl) (by rfl) ?_)
          | (go_at_call 74; refine calls_same (HPC.out _) ?_)
          | (go_at_call 89; refine (HIM.out _ (hf1'.alloc _) ⟨w1.heap.size, 0, none⟩ [] 0 0 rfl (by omega) (fun z hz => by cases hz) (rowU_nil _ _)).mono ?_; rintro e w7 ⟨rfl, I7, h7⟩)
          | fail)
        go_ret
        exact ⟨rfl, HFIN.out _ w7 (hf1'.alloc _) h7, I7⟩
    · rcases hDX with hD1 | hD1
      · have hdd : decide ((0 : Int) ≤ D) = false := by simpa using hD1
        obtain ⟨k, hk⟩ := Int.eq_ofNat_of_zero_le (pickI_nonneg C 64 (by omega))
        have hk64 : k < 64 := by have := pickI_lt C 64 (by omega); omega
        have HPC : Hid (∀ w, Calls Tryz.prog 74 #[.int .i64 C, .int .i64 64] w fun e w' => e = .returned (.int .i64 (k : Int)) ∧ w' = w) := fun w => by rw [← hk]; exact lpick_any C 64 w hC0 hC1 (by omega) (by omega)
        clear hk
        have hC0' : ¬ (0 : Int) < C := by omega
        go_enter Tryz.func73, Tryz.ntmps73
        go_upto_region 17 with fail
        go_quiet (first | (go_at_call 74; exact Calls.quiet_of_same (HPK.out _)) | fail)
        go_wp2_with (first
          | (go_at_call 120; refine (HLN.out _ (((Fr.refl New w).alloc _).drewN _)).mono ?_; rintro e w1 ⟨rfl, hr1, hf1⟩; have hf1' : Fr New w w1 := ((Fr.refl New w).alloc _).drewN _ |>.same hf1; have hbx := hf1.heap (k := w.heap.size) (Go.Deep.blk_alloc_new w _) id; obtain ⟨hcx, hzx⟩ := block_cells hbx; have hws1 : w.heap.size < w1.heap.size := lt_of_block hbx)
          | (at_builtin; refine wpList_append_none rfl (.tmp 129) (.tmp 130) rfl w1.heap.size cv av (by rfl) (by rfl) ?_)
          | (go_at_call 74; refine calls_same (HPC.out _) ?_)
          | (refine wpList_append_zeros rfl (.tmp 164) (.tmp 167) rfl w1.heap.size 0 0 k [] (by rfl) (by rfl) (own_zero (emptyU w1)) hk64 (by omega) ?_; intro ad cq w6 hr6 hf6; have hf6' : Fr New w w6 := (hf1'.alloc _).trans hf6 (fun j hj ht => by omega); obtain ⟨hcw, hzw⟩ := block_cells (hf6.heap (((Fr.refl New w1).alloc _).heap hbx id) (fun he => by omega)))
          | (go_at_call 89; refine (HIM.out w6 hf6' ad ([] ++ List.replicate k 0) k cq (by simp) (by omega) (fun z hz => by rcases List.mem_append.1 hz with h | h; cases h; rw [(List.mem_replicate.1 h).2]; exact U_zeroX) hr6).mono ?_; rintro e w7 ⟨rfl, I7, h7⟩)
          | fail)
        go_ret
        exact ⟨rfl, HFIN.out _ w7 hf6' h7, I7⟩
      · have hdd : decide ((0 : Int) ≤ D) = true := by simpa using hD1
        have hde : decide (D < (0 : Int)) = false := by simpa using hD1
        obtain ⟨k, hk⟩ := Int.eq_ofNat_of_zero_le (pickI_nonneg C 64 (by omega))
        have hk64 : k < 64 := by have := pickI_lt C 64 (by omega); omega
        have HPC : Hid (∀ w, Calls Tryz.prog 74 #[.int .i64 C, .int .i64 64] w fun e w' => e = .returned (.int .i64 (k : Int)) ∧ w' = w) := fun w => by rw [← hk]; exact lpick_any C 64 w hC0 hC1 (by omega) (by omega)
        clear hk
        have hC0' : ¬ (0 : Int) < C := by omega
        go_enter Tryz.func73, Tryz.ntmps73
        go_upto_region 17 with fail
        go_quiet (first | (go_at_call 74; exact Calls.quiet_of_same (HPK.out _)) | fail)
        go_wp2_with (first
          | (go_at_call 120; refine (HLN.out _ (((Fr.refl New w).alloc _).drewN _)).mono ?_; rintro e w1 ⟨rfl, hr1, hf1⟩; have hf1' : Fr New w w1 := ((Fr.refl New w).alloc _).drewN _ |>.same hf1; have hbx := hf1.heap (k := w.heap.size) (Go.Deep.blk_alloc_new w _) id; obtain ⟨hcx, hzx⟩ := block_cells hbx; have hws1 : w.heap.size < w1.heap.size := lt_of_block hbx)
          | (at_builtin; refine wpList_append_none rfl (.tmp 129) (.tmp 130) rfl w1.heap.size cv av (by rfl) (by rfl) ?_)
          | (go_at_call 74; refine calls_same (HPC.out _) ?_)
          | (refine wpList_append_zeros rfl (.tmp 164) (.tmp 167) rfl w1.heap.size 0 0 k [] (by rfl) (by rfl) (own_zero (emptyU w1)) hk64 (by omega) ?_; intro ad cq w6 hr6 hf6; have hf6' : Fr New w w6 := (hf1'.alloc _).trans hf6 (fun j hj ht => by omega); obtain ⟨hcw, hzw⟩ := block_cells (hf6.heap (((Fr.refl New w1).alloc _).heap hbx id) (fun he => by omega)))
          | (go_at_call 89; refine (HIM.out w6 hf6' ad ([] ++ List.replicate k 0) k cq (by simp) (by omega) (fun z hz => by rcases List.mem_append.1 hz with h | h; cases h; rw [(List.mem_replicate.1 h).2]; exact U_zeroX) hr6).mono ?_; rintro e w7 ⟨rfl, I7, h7⟩)
          | fail)
        go_ret
        exact ⟨rfl, HFIN.out _ w7 hf6' h7, I7⟩
    · subst hC
      rcases hDX with hD1 | hD1
      · have hdd : decide ((0 : Int) ≤ D) = false := by simpa using hD1
        go_enter Tryz.func73, Tryz.ntmps73
        go_upto_region 17 with fail
        go_quiet (first | (go_at_call 74; exact Calls.quiet_of_same (HPK.out _)) | fail)
        go_wp2_with (first
          | (go_at_call 120; refine (HLN.out _ (((Fr.refl New w).alloc _).drewN _)).mono ?_; rintro e w1 ⟨rfl, hr1, hf1⟩; have hf1' : Fr New w w1 := ((Fr.refl New w).alloc _).drewN _ |>.same hf1; have hbx := hf1.heap (k := w.heap.size) (Go.Deep.blk_alloc_new w _) id; obtain ⟨hcx, hzx⟩ := block_cells hbx; have hws1 : w.heap.size < w1.heap.size := lt_of_block hbx)
          | (at_builtin; refine wpList_append_none rfl (.tmp 129) (.tmp 130) rfl w1.heap.size cv av (by rfl) (by rfl) ?_)
          | (go_at_call 89; refine (HIM.out _ (hf1'.alloc _) ⟨w1.heap.size, 0, none⟩ [] 0 0 rfl (by omega) (fun z hz => by cases hz) (rowU_nil _ _)).mono ?_; rintro e w7 ⟨rfl, I7, h7⟩)
          | fail)
        go_ret
        exact ⟨rfl, HFIN.out _ w7 (hf1'.alloc _) h7, I7⟩
      · have hdd : decide ((0 : Int) ≤ D) = true := by simpa using hD1
        have hde : decide (D < (0 : Int)) = false := by simpa using hD1
        go_enter Tryz.func73, Tryz.ntmps73
        go_upto_region 17 with fail
        go_quiet (first | (go_at_call 74; exact Calls.quiet_of_same (HPK.out _)) | fail)
        go_wp2_with (first
          | (go_at_call 120; refine (HLN.out _ (((Fr.refl New w).alloc _).drewN _)).mono ?_; rintro e w1 ⟨rfl, hr1, hf1⟩; have hf1' : Fr New w w1 := ((Fr.refl New w).alloc _).drewN _ |>.same hf1; have hbx := hf1.heap (k := w.heap.size) (Go.Deep.blk_alloc_new w _) id; obtain ⟨hcx, hzx⟩ := block_cells hbx; have hws1 : w.heap.size < w1.heap.size := lt_of_block hbx)
          | (at_builtin; refine wpList_append_none rfl (.tmp 129) (.tmp 130) rfl w1.heap.size cv av (by rfl) (by rfl) ?_)
          | (go_at_call 89; refine (HIM.out _ (hf1'.alloc _) ⟨w1.heap.size, 0, none⟩ [] 0 0 rfl (by omega) (fun z hz => by cases hz) (rowU_nil _ _)).mono ?_; rintro e w7 ⟨rfl, I7, h7⟩)
          | fail)
        go_ret
        exact ⟨rfl, HFIN.out _ w7 (hf1'.alloc _) h7, I7⟩
end Go.Proofs.YtbagcjlimdilpaaGreat
