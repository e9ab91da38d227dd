/- Walks of the program's Clear over changes, and of Free. -/
import Derived.Test.YtbagcjlimdilpaaGreatHhJ14
import Derived.Test.YtbagcjlimdilpaaGreatHhPhA
import Derived.Deep.RegionHeld3
namespace Go.Proofs.YtbagcjlimdilpaaGreat
open Go.RowKit Go.Maps

set_option maxHeartbeats 1000000 in
set_option maxRecDepth 100000 in
theorem clear_chg (k : Int) (o : Ob) (hb tb cb mb g : Nat) (vs : Value) (ws now : List Int) (st : List St) (W : World) (h : PH hb tb cb mb g vs ws now st W) (hbl : 106 + 8 * (o.block + o.span) ≤ ws.length) :
    Calls Tryz.prog 72 #[.agg #[.int .i64 k, .int .i64 ((o.block + 1 : Nat) : Int), .int .i64 o.span, .int .i64 o.ptrs], .iface 101 (.pointer (some ⟨cb, 0, none⟩))] W fun e w' => e = .returned (.tuple #[]) ∧ ∃ r, PH hb tb cb mb g vs ws r st w' ∧ Zeroed now r (leakZ1 o o.span) ∧ Fr (fun k => k = mb) W w' := by
  obtain ⟨b, sp, pt⟩ := o
  simp only at hbl ⊢
  have hlens := h.lens
  have HP : Hid (∀ i, i < sp → ∀ w, Calls Tryz.prog 118 #[.int .i64 ((b + 1 : Nat) + (i : Int))] w fun e w' => e = .returned (.int .i64 ((106 + 8 * (b + i) : Nat) : Int)) ∧ w' = w) := fun i hi w => by
    have := place_of (b + i) w (by omega)
    rwa [show ((b + i + 1 : Nat) : Int) = ((b + 1 : Nat) : Int) + (i : Int) by omega] at this
  obtain ⟨B, hB⟩ : ∃ B : Nat, B = b + 1 := ⟨_, rfl⟩
  rw [← hB] at HP ⊢
  have hBL : B ≤ 1048576 := by omega
  have hmp := meth_cput ⟨cb, 0, none⟩
  have hap := ahead_cput ⟨cb, 0, none⟩
  have hmf : ∀ (fn : Fn) (first cap : Array Value) (w : World), (Instr.makeFunc fn first cap).run Tryz.prog w = .ok (.func fn first cap) w := fun _ _ _ _ => rfl
  have HNL : Hid (now.length = ws.length) := h.len
  have hgW : mb < W.heap.size := h.cg.lt
  clear hB
  go_enter Tryz.func72, Tryz.ntmps72
  go_wp2
  have hM0 : PH hb tb cb mb g vs ws now st (W.alloc (.cells #[.int .i64 k, .int .i64 B, .int .i64 sp, .int .i64 pt] 115)) := h.new ((Fr.refl _ _).alloc _)
  have hF0 : Fr (fun k => k = mb) W (W.alloc (.cells #[.int .i64 k, .int .i64 B, .int .i64 sp, .int .i64 pt] 115)) := (Fr.refl _ _).alloc _
  have hT0 : (W.alloc (.cells #[.int .i64 k, .int .i64 B, .int .i64 sp, .int .i64 pt] 115)).heap[W.heap.size]? = some (.cells #[.int .i64 k, .int .i64 B, .int .i64 sp, .int .i64 pt] 115 (0, 0)) := Go.Deep.blk_alloc_new W _
  go_loopg [7] sp (fun gh t wr => ∃ (i : Nat) (cur' : List Int), i ≤ sp ∧ gh = sp - i ∧ t = .int .i64 i ∧ PH hb tb cb mb g vs ws cur' st wr ∧ Fr (fun k => k = mb) W wr ∧ wr.heap[W.heap.size]? = some (.cells #[.int .i64 k, .int .i64 B, .int .i64 sp, .int .i64 pt] 115 (0, 0)) ∧ Zeroed now cur' (leakZ1 ⟨b, sp, pt⟩ i))
  case atStart => exact ⟨0, now, by omega, rfl, rfl, hM0, hF0, hT0, zeroed_self now (fun q => leakZ1_zero q)⟩
  case round =>
    clear hM0 hF0 hT0 h
    obtain ⟨i, cur', his, rfl, rfl, hM, hF, hT, hZ⟩ := hrel
    by_cases hi : i < sp
    · have HPI : Hid (∀ w, Calls Tryz.prog 118 #[.int .i64 (B + (i : Int))] w fun e w' => e = .returned (.int .i64 ((106 + 8 * (b + i) : Nat) : Int)) ∧ w' = w) := HP.out i hi
      have hq : 106 + 8 * (b + i) < ws.length := by omega
      have hZn : Zeroed now (cur'.set (106 + 8 * (b + i)) 0) (leakZ1 ⟨b, sp, pt⟩ (i + 1)) := (hZ.set (by rw [HNL.out]; exact hq)).congr (fun q => leakZ1_succ (o := ⟨b, sp, pt⟩) q)
      obtain ⟨pq, hpq⟩ : ∃ pq : Nat, pq = 106 + 8 * (b + i) := ⟨_, rfl⟩
      rw [← hpq] at HPI hq hZn
      obtain ⟨ht, hz⟩ := block_cells hT
      have ht1 : wr.cell? ⟨W.heap.size, 1, none⟩ = some (.int .i64 B) := (ht 1).trans rfl
      have HPU : Hid (∀ W', Fr New wr W' → Calls Tryz.prog 59 #[.pointer (some ⟨cb, 0, none⟩), .int .i64 pq, .int .u64 0] W' fun e w' => e = .returned (.tuple #[]) ∧ ChgIs w' cb tb mb ws (cur'.set pq 0) ∧ Fr (fun k => k = mb) W' w' ∧ w'.heap.size = W'.heap.size) := fun W' hf => cput_any cb tb g mb ws cur' vs W' pq 0 hq (by unfold U; omega) (hM.new hf).tg.t (hM.new hf).cg
      have HPW : Hid (∀ w, Calls Tryz.prog 118 #[.int .i64 (IntKind.i64.wrap (B + (i : Int)))] w fun e w' => e = .returned (.int .i64 (pq : Int)) ∧ w' = w) := by rw [show IntKind.i64.wrap (B + (i : Int)) = B + (i : Int) by rw [IntKind.wrap_i64]; omega]; exact HPI.out
      clear hpq ht hz
      go_upto_region 4 with fail
      go_region_held3 (fun w' => w'.cell? ⟨W.heap.size, 1, none⟩ = some (.int .i64 B)) (first | go_keep | exact hkeep2)
        (first
          | (go_at_call 118; refine calls_same (HPI.out _) ?_)
          | (go_at_call 118; refine calls_same (HPW.out _) ?_)
          | (go_at_call 59; refine (HPU.out _ (by first | exact (Fr.refl New wr).drew | exact Fr.refl New wr)).mono ?_; rintro e w7 ⟨rfl, hm7, hf7, hs7⟩; have hf7' : Fr (fun k => k = mb) wr w7 := ((Fr.refl (fun k => k = mb) wr).drew.trans hf7 (fun _ _ h => h)); have ht7 := hf7'.heap hT (by omega); have hkeep2 : w7.cell? ⟨W.heap.size, 1, none⟩ = some (.int .i64 B) := ((block_cells ht7).1 1).trans rfl))
      all_goals
        go_wp2_with fail
        go_roundg (sp - (i + 1))
        case measure => omega
        case rel => exact ⟨i + 1, _, by omega, rfl, by go_num, hM.turn hf7' hm7, hF.trans hf7' (fun _ _ h => h), ht7, hZn⟩
    · obtain rfl : i = sp := by omega
      go_wp2
      go_end0
      exact ⟨rfl, cur', hM, hZ, hF⟩

theorem held_wrap {n : Int} (hn : 0 ≤ n) (h1 : n ≤ 9223372036854775807) : IntKind.u64.wrap n = n := by rw [IntKind.wrap_u64]; omega
set_option maxHeartbeats 2000000 in
set_option maxRecDepth 100000 in
theorem hfree_any (hb tb cb mb g : Nat) (vs : Value) (ws now : List Int) (st : List St) (n : Int) (w : World) (h0 : -9223372036854775808 ≤ n) (h1 : n ≤ 9223372036854775807) (h : PH hb tb cb mb g vs ws now st w) :
    Calls Tryz.prog 40 #[.pointer (some ⟨hb, 0, none⟩), .int .i64 n] w fun e w' => ∃ r c, e = .returned (.int .i64 c) ∧ FreeIs now n r c ∧ PH hb tb cb mb g vs ws r st w' ∧ Fr (fun k => k = mb) w w' := by
  have HO : Hid (Calls Tryz.prog 55 #[.pointer (some ⟨hb, 0, none⟩)] w fun e w' => ∃ vl, e = .returned vl ∧ OwnT w.heap.size w' vl (objs now) ∧ Fr New w w') := hobjects_any hb tb cb mb g vs ws now st w h
  have HH : Hid (∀ w1 vl, OwnT w.heap.size w1 vl (objs now) → Calls Tryz.prog 56 #[vl, .int .u64 (IntKind.u64.wrap n)] w1 fun e w' => ∃ r, e = .returned r ∧ HeldIs (objs now) n r ∧ Fr New w1 w') := fun w1 vl ho => held_num h0 h1 ho
  have HNW : Hid (∀ w1, Fr New w w1 → PH hb tb cb mb g vs ws now st w1 ∧ Fr (fun k => k = mb) w w1) := fun w1 hf => ⟨h.new hf, hf.mono (fun _ _ h => h.elim)⟩
  have hlens := h.lens
  rcases hx : idx (objs now) n with _ | k
  · have HN : Hid (∀ r, HeldIs (objs now) n r → r = .tuple #[.agg #[.int .i64 0, .int .i64 0, .int .i64 0, .int .i64 0], .bool false]) := fun r hs => by
      rcases hs with ⟨k, _, hk, _⟩ | ⟨_, e⟩
      · rw [hx] at hk; cases hk
      · exact e
    have HT : Hid (FreeIs now n now 9) := .inl ⟨hx, rfl, rfl⟩
    obtain ⟨x, hxx⟩ : ∃ x, x = IntKind.u64.wrap n := ⟨_, rfl⟩
    rw [← hxx] at HH
    have hxs := hxx.symm
    clear hx h hxx h0 h1
    go_enter Tryz.func40, Tryz.ntmps40
    go_wp2_with (first
      | (go_at_call 55; refine HO.out.mono ?_; rintro e w1 ⟨vl, rfl, hol, hf1⟩)
      | (go_at_call 56; refine (HH.out _ _ hol).mono ?_; rintro e w2 ⟨r, rfl, hr, hf2⟩; obtain rfl := HN.out r hr))
    go_ret
    exact ⟨now, 9, rfl, HT.out, HNW.out _ ((hf1.same hf2).alloc _)⟩
  · have hk := idx_lt hx
    have hn1 : 1 ≤ n := by
      rcases (show n < 1 ∨ 1 ≤ n by omega) with hlt | hge
      · rw [idx_low hlt] at hx; cases hx
      · exact hge
    have hwn := held_wrap (n := n) (by omega) h1
    rw [hwn] at HH
    have hin := objs_in (List.getElem_mem hk)
    have HN : Hid (∀ r, HeldIs (objs now) n r → r = .tuple #[.agg #[.int .i64 1, .int .i64 (((objs now)[k].block + 1 : Nat) : Int), .int .i64 (objs now)[k].span, .int .i64 (objs now)[k].ptrs], .bool true]) := fun r hs => by
      rcases hs with ⟨k', _, hk', e⟩ | ⟨hk', _⟩
      · rw [hx] at hk'; cases hk'; exact e
      · rw [hx] at hk'; cases hk'
    have HHD : Hid (∀ w1 vl, Fr New w w1 → LiesT w1 vl (objs now) → Calls Tryz.prog 71 #[vl, .iface 101 (.pointer (some ⟨cb, 0, none⟩)), .int .u64 n] w1 fun e w' => ∃ b, e = .returned (.bool b) ∧ (b = true ↔ HeldBy now (objs now) n) ∧ Fr New w1 w') := fun w1 vl hf hl => holds_row _ _ _ _ _ now vl n w1 (by rw [h.len]; exact h.n0) (h.new hf).row hl
    have HC1 : Hid (∀ w1, Fr New w w1 → w1.cell? ⟨hb, 1, none⟩ = some (.pointer (some ⟨cb, 0, none⟩))) := fun w1 hf => (h.new hf).p1
    have HCL : Hid (∀ w1, Fr New w w1 → Calls Tryz.prog 72 #[.agg #[.int .i64 1, .int .i64 (((objs now)[k].block + 1 : Nat) : Int), .int .i64 (objs now)[k].span, .int .i64 (objs now)[k].ptrs], .iface 101 (.pointer (some ⟨cb, 0, none⟩))] w1 fun e w' => e = .returned (.tuple #[]) ∧ ∃ r, PH hb tb cb mb g vs ws r st w' ∧ Zeroed now r (leakZ1 (objs now)[k] (objs now)[k].span) ∧ Fr (fun k => k = mb) w1 w') := fun w1 hf => clear_chg 1 (objs now)[k] hb tb cb mb g vs ws now st w1 (h.new hf) (by rw [← h.len]; exact hin.1)
    have HFI : Hid (∀ r, ¬ HeldBy now (objs now) n → Zeroed now r (leakZ1 (objs now)[k] (objs now)[k].span) → FreeIs now n r 0) := fun r hh hz => .inr (.inr ⟨k, hk, hx, hh, hz, rfl⟩)
    have HFH : Hid (HeldBy now (objs now) n → FreeIs now n now 10) := fun hh => .inr (.inl ⟨by rw [hx]; simp, hh, rfl, rfl⟩)
    obtain ⟨o, ho⟩ : ∃ o, o = (objs now)[k] := ⟨_, rfl⟩
    rw [← ho] at HN HCL HFI
    obtain ⟨b, sp, pt⟩ := o
    simp only at HN HCL HFI
    obtain ⟨B, hB⟩ : ∃ B : Nat, B = b + 1 := ⟨_, rfl⟩
    rw [← hB] at HN HCL
    clear hx ho h hB h0 h1 hin hlens
    go_enter Tryz.func40, Tryz.ntmps40
    go_upto_region 5 with (first
      | (go_at_call 55; refine HO.out.mono ?_; rintro e w1 ⟨vl, rfl, hol, hf1⟩)
      | (go_at_call 56; refine (HH.out _ _ hol).mono ?_; rintro e w2 ⟨r, rfl, hr, hf2⟩; obtain rfl := HN.out r hr))
    have hfa : Fr New w (w2.alloc (.cells #[.int .i64 1, .int .i64 B, .int .i64 sp, .int .i64 pt] 115)) := (hf1.same hf2).alloc _
    have hth : (w2.alloc (.cells #[.int .i64 1, .int .i64 B, .int .i64 sp, .int .i64 pt] 115)).heap[w2.heap.size]? = some (.cells #[.int .i64 1, .int .i64 B, .int .i64 sp, .int .i64 pt] 115 (0, 0)) := Go.Deep.blk_alloc_new w2 _
    have hlo : LiesT (w2.alloc (.cells #[.int .i64 1, .int .i64 B, .int .i64 sp, .int .i64 pt] 115)) vl (objs now) := (liesT_objs hol).fr (hf2.alloc _) (fun _ _ h => h)
    have hcA := HC1.out _ hfa
    have hbA := World.block_lt_of_cell? _ _ hcA
    obtain ⟨W2, hW2⟩ : ∃ W2, W2 = w2.alloc (.cells #[.int .i64 1, .int .i64 B, .int .i64 sp, .int .i64 pt] 115) := ⟨_, rfl⟩
    rw [← hW2] at hfa hth hlo hcA hbA
    obtain ⟨gt, hgt⟩ : ∃ gt, gt = w2.heap.size := ⟨_, rfl⟩
    rw [← hgt] at hth
    rw [← hW2, ← hgt]
    by_cases hh : HeldBy now (objs now) n
    · have HHX : Hid (Calls Tryz.prog 71 #[vl, .iface 101 (.pointer (some ⟨cb, 0, none⟩)), .int .u64 n] W2 fun e w' => e = .returned (.bool true) ∧ Fr New W2 w') := (HHD.out W2 vl hfa hlo).mono (by
        rintro e w' ⟨bb, rfl, hbb, hf⟩
        rw [hbb.2 hh]
        exact ⟨rfl, hf⟩)
      have HFX := HFH.out hh
      clear hW2 hgt hol hf2 hr hlo hh
      go_wp2_with (go_at_call 71; refine HHX.out.mono ?_; rintro e w3 ⟨rfl, hf3⟩)
      go_ret
      exact ⟨now, 10, rfl, HFX, HNW.out _ (hfa.same hf3)⟩
    · have HHX : Hid (Calls Tryz.prog 71 #[vl, .iface 101 (.pointer (some ⟨cb, 0, none⟩)), .int .u64 n] W2 fun e w' => e = .returned (.bool false) ∧ Fr New W2 w') := (HHD.out W2 vl hfa hlo).mono (by
        rintro e w' ⟨bb, rfl, hbb, hf⟩
        cases bb with
        | true => exact absurd (hbb.1 rfl) hh
        | false => exact ⟨rfl, hf⟩)
      have HFX : Hid (∀ r, Zeroed now r (leakZ1 ⟨b, sp, pt⟩ sp) → FreeIs now n r 0) := fun r hz => HFI.out r hh hz
      clear hW2 hgt hol hf2 hr hlo hh
      go_upto_region 7 with (go_at_call 71; refine HHX.out.mono ?_; rintro e w3 ⟨rfl, hf3⟩)
      have hfb : Fr New w w3 := hfa.same hf3
      have hc3 := HC1.out w3 hfb
      have hb3 : hb < w3.heap.size := World.block_lt_of_cell? w3 _ hc3
      obtain ⟨ht3, hz3⟩ := block_cells (hf3.heap hth id)
      have ht40 := (ht3 0).trans rfl
      have ht41 := (ht3 1).trans rfl
      have ht42 := (ht3 2).trans rfl
      have ht43 := (ht3 3).trans rfl
      clear ht3 hz3 hcA hbA
      go_region_with (go_at_call 72; refine (HCL.out _ (by first | exact hfb | exact hfb.drew)).mono ?_; rintro e w6 ⟨rfl, r, hP6, hZ6, hf6⟩)
      all_goals (try go_wp2_with fail)
      all_goals
        go_ret
        exact ⟨r, 0, rfl, HFX.out r hZ6, hP6, by first | exact (hfb.mono (fun _ _ h => h.elim)).trans hf6 (fun _ _ h => h) | exact (hfb.drew.mono (fun _ _ h => h.elim)).trans hf6 (fun _ _ h => h)⟩
end Go.Proofs.YtbagcjlimdilpaaGreat
