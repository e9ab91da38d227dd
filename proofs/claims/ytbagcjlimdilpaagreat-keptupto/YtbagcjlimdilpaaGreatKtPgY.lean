/- Walks of the program's Read and Write. -/
import Derived.Test.YtbagcjlimdilpaaGreatKtJ7
import Derived.Test.YtbagcjlimdilpaaGreatKtJ8
namespace Go.Proofs.YtbagcjlimdilpaaGreat
open Go.RowKit Go.Maps

theorem has_any (k b p i : Int) (s : Nat) (w : World) (hs : s ≤ 1048576) : Calls Tryz.prog 57 #[.agg #[.int .i64 k, .int .i64 b, .int .i64 s, .int .i64 p], .int .i64 i] w fun e w' => e = .returned (.bool (decide (0 ≤ i) && decide (i < 8 * (s : Int) - 1))) ∧ Fr New w w' := by
  by_cases h0 : 0 ≤ i
  · have hd : decide (0 ≤ i) = true := by simpa using h0
    rw [hd, Bool.true_and]
    go_enter Tryz.func57, Tryz.ntmps57
    go_wp2_with (go_at_call 108; refine calls_same (words_any' s _ hs) ?_)
    go_ret
    exact ⟨rfl, (Fr.refl _ _).alloc _⟩
  · have hd : decide (0 ≤ i) = false := by simpa using h0
    rw [hd, Bool.false_and]
    go_enter Tryz.func57, Tryz.ntmps57
    go_wp2
    go_ret
    exact ⟨rfl, (Fr.refl _ _).alloc _⟩
theorem has_no' (k b p i : Int) (s : Nat) (w : World) (hs : s ≤ 1048576) (h : i < 0 ∨ 8 * (s : Int) - 1 ≤ i) : Calls Tryz.prog 57 #[.agg #[.int .i64 k, .int .i64 b, .int .i64 s, .int .i64 p], .int .i64 i] w fun e w' => e = .returned (.bool false) ∧ Fr New w w' := by
  have := has_any k b p i s w hs
  rwa [show (decide (0 ≤ i) && decide (i < 8 * (s : Int) - 1)) = false by simp; omega] at this
theorem has_yes' (k b p i : Int) (s : Nat) (w : World) (hs : s ≤ 1048576) (h0 : 0 ≤ i) (h1 : i < 8 * (s : Int) - 1) : Calls Tryz.prog 57 #[.agg #[.int .i64 k, .int .i64 b, .int .i64 s, .int .i64 p], .int .i64 i] w fun e w' => e = .returned (.bool true) ∧ Fr New w w' := by
  have := has_any k b p i s w hs
  rwa [show (decide (0 ≤ i) && decide (i < 8 * (s : Int) - 1)) = true by simp; omega] at this
/-- Held, with a handle as a number -/
theorem held_num {now : List Int} {n : Int} (h0 : -9223372036854775808 ≤ n) (h1 : n ≤ 9223372036854775807) {B : Nat} {w : World} {vl : Value} (ho : OwnT B w vl (objs now)) :
    Calls Tryz.prog 56 #[vl, .int .u64 (IntKind.u64.wrap n)] w fun e w' => ∃ r, e = .returned r ∧ HeldIs (objs now) n r ∧ Fr New w w' := by
  refine (held_any vl (objs now) (IntKind.u64.wrap n) w (liesT_objs ho) (objs_asc now)).mono ?_
  rintro e w' ⟨r, rfl, hs, hf⟩
  refine ⟨r, rfl, ?_, hf⟩
  unfold HeldIs at hs ⊢
  rwa [idx_wrap h0 h1] at hs

set_option maxHeartbeats 2000000 in
set_option maxRecDepth 100000 in
theorem hread_any (hb tb cb mb g : Nat) (vs : Value) (ws now : List Int) (st : List St) (n i : Int) (w : World) (h0 : -9223372036854775808 ≤ n) (h1 : n ≤ 9223372036854775807) (h : PH hb tb cb mb g vs ws now st w) :
    Calls Tryz.prog 39 #[.pointer (some ⟨hb, 0, none⟩), .int .i64 n, .int .i64 i] w fun e w' => e = .returned (.tuple #[.int .u64 (readS now n i).1, .int .i64 (readS now n i).2]) ∧ Fr New w w' := by
  have HO : Hid (Calls Tryz.prog 55 #[.pointer (some ⟨hb, 0, none⟩)] w fun e w' => ∃ vl, e = .returned vl ∧ OwnT w.heap.size w' vl (objs now) ∧ Fr New w w') := hobjects_any hb tb cb mb g vs ws now st w h
  have HH : Hid (∀ w1 vl, OwnT w.heap.size w1 vl (objs now) → Calls Tryz.prog 56 #[vl, .int .u64 (IntKind.u64.wrap n)] w1 fun e w' => ∃ r, e = .returned r ∧ HeldIs (objs now) n r ∧ Fr New w1 w') := fun w1 vl ho => held_num h0 h1 ho
  unfold readS
  obtain ⟨x, hx⟩ : ∃ x, x = IntKind.u64.wrap n := ⟨_, rfl⟩
  rw [← hx] at HH
  have hxs := hx.symm
  have hlens := h.lens
  clear hx h0 h1
  rcases hx : idx (objs now) n with _ | k
  · have HN : Hid (∀ r, HeldIs (objs now) n r → r = .tuple #[.agg #[.int .i64 0, .int .i64 0, .int .i64 0, .int .i64 0], .bool false]) := fun r hs => by
      rcases hs with ⟨k, _, hk, _⟩ | ⟨_, e⟩
      · rw [hx] at hk; cases hk
      · exact e
    clear hx h
    go_enter Tryz.func39, Tryz.ntmps39
    go_wp2_with (first
      | (go_at_call 55; refine HO.out.mono ?_; rintro e w1 ⟨vl, rfl, hol, hf1⟩)
      | (go_at_call 56; refine (HH.out _ _ hol).mono ?_; rintro e w2 ⟨r, rfl, hr, hf2⟩; obtain rfl := HN.out r hr))
    go_ret2
    exact ⟨rfl, (hf1.same hf2).alloc _⟩
  · have hk := idx_lt hx
    have hin := objs_in (List.getElem_mem hk)
    have hnb := nblk_le now.length
    have hgd : (objs now).getD k ⟨0, 0, 0⟩ = (objs now)[k] := by simp [List.getD, hk]
    have HN : Hid (∀ r, HeldIs (objs now) n r → r = .tuple #[.agg #[.int .i64 1, .int .i64 (((objs now)[k].block + 1 : Nat) : Int), .int .i64 (objs now)[k].span, .int .i64 (objs now)[k].ptrs], .bool true]) := fun r hs => by
      rcases hs with ⟨k', _, hk', e⟩ | ⟨hk', _⟩
      · rw [hx] at hk'; cases hk'; exact e
      · rw [hx] at hk'; cases hk'
    dsimp only
    rw [hgd]
    rw [h.len] at hin
    obtain ⟨o, ho⟩ : ∃ o, o = (objs now)[k] := ⟨_, rfl⟩
    rw [← ho] at HN hin ⊢
    obtain ⟨b, sp, pt⟩ := o
    simp only at HN hin ⊢
    obtain ⟨g1, g2, g3, g4, g5⟩ := hin
    clear hx hgd ho
    by_cases hi : i < 0 ∨ 8 * (sp : Int) - 1 ≤ i
    · rw [if_pos hi]
      have HS : Hid (∀ B w, Calls Tryz.prog 57 #[.agg #[.int .i64 1, .int .i64 B, .int .i64 sp, .int .i64 pt], .int .i64 i] w fun e w' => e = .returned (.bool false) ∧ Fr New w w') := fun B w => has_no' 1 B pt i sp w (by omega) hi
      clear hi h
      go_enter Tryz.func39, Tryz.ntmps39
      go_wp2_with (first
        | (go_at_call 55; refine HO.out.mono ?_; rintro e w1 ⟨vl, rfl, hol, hf1⟩)
        | (go_at_call 56; refine (HH.out _ _ hol).mono ?_; rintro e w2 ⟨r, rfl, hr, hf2⟩; obtain rfl := HN.out r hr)
        | (go_at_call 57; refine (HS.out _ _).mono ?_; rintro e w3 ⟨rfl, hf3⟩))
      go_ret2
      exact ⟨rfl, ((hf1.same hf2).alloc _).same hf3⟩
    · rw [if_neg hi]
      obtain ⟨j, rfl⟩ := Int.eq_ofNat_of_zero_le (show 0 ≤ i by omega)
      simp only [Int.toNat_natCast]
      have HS : Hid (∀ B w, Calls Tryz.prog 57 #[.agg #[.int .i64 1, .int .i64 B, .int .i64 sp, .int .i64 pt], .int .i64 (j : Int)] w fun e w' => e = .returned (.bool true) ∧ Fr New w w') := fun B w => has_yes' 1 B pt j sp w (by omega) (by omega) (by omega)
      have HPL : Hid (∀ w9, Calls Tryz.prog 60 #[.agg #[.int .i64 1, .int .i64 ((b + 1 : Nat) : Int), .int .i64 sp, .int .i64 pt], .int .i64 j] w9 fun e w' => e = .returned (.int .i64 ((pl ⟨b, sp, pt⟩ j : Nat) : Int)) ∧ Fr New w9 w') := fun w9 => by
        have := twplace_any 1 sp pt b j w9 (by omega) (by omega)
        rwa [show 106 + 8 * b + 1 + j = pl ⟨b, sp, pt⟩ j by unfold pl; simp only] at this
      have hq : pl ⟨b, sp, pt⟩ j < ws.length := by unfold pl; simp only; omega
      have HRD : Hid (∀ w1, Fr New w w1 → Calls Tryz.prog 70 #[.pointer (some ⟨cb, 0, none⟩), .int .i64 ((pl ⟨b, sp, pt⟩ j : Nat) : Int)] w1 fun e w' => e = .returned (.int .u64 (wd now (pl ⟨b, sp, pt⟩ j))) ∧ w' = w1) := fun w1 hf => cread_any cb tb g mb ws now vs w1 _ hq (h.new hf).tg.t (h.new hf).cg
      have HC1 : Hid (∀ w1, Fr New w w1 → w1.cell? ⟨hb, 1, none⟩ = some (.pointer (some ⟨cb, 0, none⟩))) := fun w1 hf => (h.new hf).p1
      obtain ⟨q, hqq⟩ : ∃ q, q = pl ⟨b, sp, pt⟩ j := ⟨_, rfl⟩
      rw [← hqq] at HPL hq HRD ⊢
      obtain ⟨z, hz⟩ : ∃ z, z = wd now q := ⟨_, rfl⟩
      rw [← hz] at HRD ⊢
      obtain ⟨B, hB⟩ : ∃ B : Nat, B = b + 1 := ⟨_, rfl⟩
      rw [← hB] at HPL HN
      clear hqq hz h hi hB hlens g1 g2 g3 g4 g5
      go_enter Tryz.func39, Tryz.ntmps39
      go_upto_region 6 with (first
        | (go_at_call 55; refine HO.out.mono ?_; rintro e w1 ⟨vl, rfl, hol, hf1⟩)
        | (go_at_call 56; refine (HH.out _ _ hol).mono ?_; rintro e w2 ⟨r, rfl, hr, hf2⟩; obtain rfl := HN.out r hr)
        | (go_at_call 57; refine (HS.out _ _).mono ?_; rintro e w3 ⟨rfl, hf3⟩; have hfa : Fr New w w3 := ((hf1.same hf2).alloc _).same hf3; have hc3 := HC1.out w3 hfa; have hb3 : hb < w3.heap.size := World.block_lt_of_cell? w3 _ hc3; obtain ⟨ht3, hz3⟩ := block_cells (hf3.heap (Go.Deep.blk_alloc_new w2 _) id)))
      have ht30 := (ht3 0).trans rfl
      have ht31 := (ht3 1).trans rfl
      have ht32 := (ht3 2).trans rfl
      have ht33 := (ht3 3).trans rfl
      clear ht3 hz3
      go_region_with (first
        | (go_at_call 60; refine (HPL.out _).mono ?_; rintro e w4 ⟨rfl, hf4⟩; have hf4' : Fr New w w4 := (by first | exact hfa.same hf4 | exact hfa.drew.same hf4); have hc4 := HC1.out w4 hf4')
        | (go_at_call 70; refine calls_same (HRD.out _ (by first | exact hf4' | exact hf4'.drew)) ?_))
      all_goals (try go_wp2_with fail)
      all_goals
        go_ret2
        exact ⟨rfl, by first | exact hf4' | exact hf4'.drew⟩
set_option maxHeartbeats 4000000 in
set_option maxRecDepth 100000 in
theorem hwrite_any (hb tb cb mb g : Nat) (vs : Value) (ws now : List Int) (st : List St) (n i v : Int) (w : World) (h0 : -9223372036854775808 ≤ n) (h1 : n ≤ 9223372036854775807) (hv : U v) (h : PH hb tb cb mb g vs ws now st w) :
    Calls Tryz.prog 26 #[.pointer (some ⟨hb, 0, none⟩), .int .i64 n, .int .i64 i, .int .u64 v] w fun e w' => e = .returned (.int .i64 (writeS now n i v).2) ∧ PH hb tb cb mb g vs ws (writeS now n i v).1 st w' ∧ Fr (fun k => k = mb) w w' := by
  have HO : Hid (Calls Tryz.prog 55 #[.pointer (some ⟨hb, 0, none⟩)] w fun e w' => ∃ vl, e = .returned vl ∧ OwnT w.heap.size w' vl (objs now) ∧ Fr New w w') := hobjects_any hb tb cb mb g vs ws now st w h
  have HH : Hid (∀ w1 vl, OwnT w.heap.size w1 vl (objs now) → Calls Tryz.prog 56 #[vl, .int .u64 (IntKind.u64.wrap n)] w1 fun e w' => ∃ r, e = .returned r ∧ HeldIs (objs now) n r ∧ Fr New w1 w') := fun w1 vl ho => held_num h0 h1 ho
  have HNW : Hid (∀ w1, Fr New w w1 → PH hb tb cb mb g vs ws now st w1 ∧ Fr (fun k => k = mb) w w1) := fun w1 hf => ⟨h.new hf, hf.mono (fun _ _ h => h.elim)⟩
  unfold writeS
  obtain ⟨x, hx⟩ : ∃ x, x = IntKind.u64.wrap n := ⟨_, rfl⟩
  rw [← hx] at HH
  have hxs := hx.symm
  have hlens := h.lens
  clear hx h0 h1
  rcases hx : idx (objs now) n with _ | k
  · have HN : Hid (∀ r, HeldIs (objs now) n r → r = .tuple #[.agg #[.int .i64 0, .int .i64 0, .int .i64 0, .int .i64 0], .bool false]) := fun r hs => by
      rcases hs with ⟨k, _, hk, _⟩ | ⟨_, e⟩
      · rw [hx] at hk; cases hk
      · exact e
    clear hx h
    go_enter Tryz.func26, Tryz.ntmps26
    go_wp2_with (first
      | (go_at_call 55; refine HO.out.mono ?_; rintro e w1 ⟨vl, rfl, hol, hf1⟩)
      | (go_at_call 56; refine (HH.out _ _ hol).mono ?_; rintro e w2 ⟨r, rfl, hr, hf2⟩; obtain rfl := HN.out r hr))
    go_ret
    exact ⟨rfl, HNW.out _ ((hf1.same hf2).alloc _)⟩
  · have hk := idx_lt hx
    have hin := objs_in (List.getElem_mem hk)
    have hnb := nblk_le now.length
    have hgd : (objs now).getD k ⟨0, 0, 0⟩ = (objs now)[k] := by simp [List.getD, hk]
    have HN : Hid (∀ r, HeldIs (objs now) n r → r = .tuple #[.agg #[.int .i64 1, .int .i64 (((objs now)[k].block + 1 : Nat) : Int), .int .i64 (objs now)[k].span, .int .i64 (objs now)[k].ptrs], .bool true]) := fun r hs => by
      rcases hs with ⟨k', _, hk', e⟩ | ⟨hk', _⟩
      · rw [hx] at hk'; cases hk'; exact e
      · rw [hx] at hk'; cases hk'
    dsimp only
    rw [hgd]
    rw [h.len] at hin
    obtain ⟨o, ho⟩ : ∃ o, o = (objs now)[k] := ⟨_, rfl⟩
    rw [← ho] at HN hin ⊢
    obtain ⟨b, sp, pt⟩ := o
    simp only at HN hin ⊢
    obtain ⟨g1, g2, g3, g4, g5⟩ := hin
    clear hx hgd ho
    by_cases hi : i < 0 ∨ 8 * (sp : Int) - 1 ≤ i
    · rw [if_pos hi]
      have HS : Hid (∀ B w, Calls Tryz.prog 57 #[.agg #[.int .i64 1, .int .i64 B, .int .i64 sp, .int .i64 pt], .int .i64 i] w fun e w' => e = .returned (.bool false) ∧ Fr New w w') := fun B w => has_no' 1 B pt i sp w (by omega) hi
      clear hi h
      go_enter Tryz.func26, Tryz.ntmps26
      go_wp2_with (first
        | (go_at_call 55; refine HO.out.mono ?_; rintro e w1 ⟨vl, rfl, hol, hf1⟩)
        | (go_at_call 56; refine (HH.out _ _ hol).mono ?_; rintro e w2 ⟨r, rfl, hr, hf2⟩; obtain rfl := HN.out r hr)
        | (go_at_call 57; refine (HS.out _ _).mono ?_; rintro e w3 ⟨rfl, hf3⟩))
      go_ret
      exact ⟨rfl, HNW.out _ (((hf1.same hf2).alloc _).same hf3)⟩
    · rw [if_neg hi]
      obtain ⟨j, rfl⟩ := Int.eq_ofNat_of_zero_le (show 0 ≤ i by omega)
      simp only [Int.toNat_natCast]
      have HS : Hid (∀ B w, Calls Tryz.prog 57 #[.agg #[.int .i64 1, .int .i64 B, .int .i64 sp, .int .i64 pt], .int .i64 (j : Int)] w fun e w' => e = .returned (.bool true) ∧ Fr New w w') := fun B w => has_yes' 1 B pt j sp w (by omega) (by omega) (by omega)
      have HDG : Hid (∀ w1 vl, Fr New w w1 → LiesT w1 vl (objs now) → Calls Tryz.prog 58 #[vl, .int .u64 v] w1 fun e w' => e = .returned (.bool (dang (objs now) v)) ∧ Fr New w1 w') := fun w1 vl _ ho => dangling_any vl (objs now) v w1 ho (objs_asc now)
      have HC1 : Hid (∀ w1, Fr New w w1 → w1.cell? ⟨hb, 1, none⟩ = some (.pointer (some ⟨cb, 0, none⟩))) := fun w1 hf => (h.new hf).p1
      by_cases hp : (j : Int) < pt ∧ v ≠ 0 ∧ idx (objs now) v = none
      · rw [if_pos hp]
        have hd : decide ((j : Int) < (pt : Int)) = true := by simpa using hp.1
        have hjn : j < pt := by omega
        rw [dang_iff.2 hp.2] at HDG
        obtain ⟨B, hB⟩ : ∃ B : Nat, B = b + 1 := ⟨_, rfl⟩
        rw [← hB] at HN
        clear hi h hB hlens g1 g2 g3 g4 g5 hp
        go_enter Tryz.func26, Tryz.ntmps26
        go_wp2_with (first
          | (go_at_call 55; refine HO.out.mono ?_; rintro e w1 ⟨vl, rfl, hol, hf1⟩)
          | (go_at_call 56; refine (HH.out _ _ hol).mono ?_; rintro e w2 ⟨r, rfl, hr, hf2⟩; obtain rfl := HN.out r hr)
          | (go_at_call 57; refine (HS.out _ _).mono ?_; rintro e w3 ⟨rfl, hf3⟩; have hfa : Fr New w w3 := ((hf1.same hf2).alloc _).same hf3; have hlo : LiesT w3 vl (objs now) := (liesT_objs hol).fr ((hf2.alloc _).same hf3) (fun _ _ h => h); obtain ⟨ht3, hz3⟩ := block_cells (hf3.heap (Go.Deep.blk_alloc_new w2 _) id); have ht33 := (ht3 3).trans rfl; clear ht3 hz3)
          | (go_at_call 58; refine (HDG.out _ _ hfa hlo).mono ?_; rintro e w4 ⟨rfl, hf4⟩))
        go_ret
        exact ⟨rfl, HNW.out _ (hfa.same hf4)⟩
      · rw [if_neg hp]
        have HPL : Hid (∀ w9, Calls Tryz.prog 60 #[.agg #[.int .i64 1, .int .i64 ((b + 1 : Nat) : Int), .int .i64 sp, .int .i64 pt], .int .i64 j] w9 fun e w' => e = .returned (.int .i64 ((pl ⟨b, sp, pt⟩ j : Nat) : Int)) ∧ Fr New w9 w') := fun w9 => by
          have := twplace_any 1 sp pt b j w9 (by omega) (by omega)
          rwa [show 106 + 8 * b + 1 + j = pl ⟨b, sp, pt⟩ j by unfold pl; simp only] at this
        have hq : pl ⟨b, sp, pt⟩ j < ws.length := by unfold pl; simp only; omega
        have HPT : Hid (∀ w1, Fr New w w1 → Calls Tryz.prog 59 #[.pointer (some ⟨cb, 0, none⟩), .int .i64 ((pl ⟨b, sp, pt⟩ j : Nat) : Int), .int .u64 v] w1 fun e w' => e = .returned (.tuple #[]) ∧ ChgIs w' cb tb mb ws (now.set (pl ⟨b, sp, pt⟩ j) v) ∧ Fr (fun k => k = mb) w1 w' ∧ w'.heap.size = w1.heap.size) := fun w1 hf => cput_any cb tb g mb ws now vs w1 _ v hq hv (h.new hf).tg.t (h.new hf).cg
        have HFN : Hid (∀ w4 w5, Fr New w w4 → ChgIs w5 cb tb mb ws (now.set (pl ⟨b, sp, pt⟩ j) v) → Fr (fun k => k = mb) w4 w5 → PH hb tb cb mb g vs ws (now.set (pl ⟨b, sp, pt⟩ j) v) st w5 ∧ Fr (fun k => k = mb) w w5) := fun w4 w5 hf hc hf5 => ⟨(h.new hf).turn hf5 hc, (hf.mono (fun _ _ h => h.elim)).trans hf5 (fun _ _ h => h)⟩
        obtain ⟨q, hqq⟩ : ∃ q, q = pl ⟨b, sp, pt⟩ j := ⟨_, rfl⟩
        rw [← hqq] at HPL hq HPT HFN ⊢
        obtain ⟨B, hB⟩ : ∃ B : Nat, B = b + 1 := ⟨_, rfl⟩
        rw [← hB] at HPL HN
        clear hqq h hi hB hlens g1 g2 g3 g4 g5 HNW
        by_cases hjp : (j : Int) < pt
        · have hd : decide ((j : Int) < (pt : Int)) = true := by simpa using hjp
          have hjn : j < pt := by omega
          rw [show dang (objs now) v = false by
            rcases hq : dang (objs now) v with _ | _
            · rfl
            · exact absurd ⟨hjp, dang_iff.1 hq⟩ hp] at HDG
          clear hp hjp
          go_enter Tryz.func26, Tryz.ntmps26
          go_upto_region 9 with (first
            | (go_at_call 55; refine HO.out.mono ?_; rintro e w1 ⟨vl, rfl, hol, hf1⟩)
            | (go_at_call 56; refine (HH.out _ _ hol).mono ?_; rintro e w2 ⟨r, rfl, hr, hf2⟩; obtain rfl := HN.out r hr)
            | (go_at_call 57; refine (HS.out _ _).mono ?_; rintro e w3 ⟨rfl, hf3⟩; have hfa : Fr New w w3 := ((hf1.same hf2).alloc _).same hf3; have hlo : LiesT w3 vl (objs now) := (liesT_objs hol).fr ((hf2.alloc _).same hf3) (fun _ _ h => h); have hth := hf3.heap (Go.Deep.blk_alloc_new w2 _) id; obtain ⟨ht3, hz3⟩ := block_cells hth; have ht33 := (ht3 3).trans rfl; clear ht3 hz3)
            | (go_at_call 58; refine (HDG.out _ _ hfa hlo).mono ?_; rintro e w4 ⟨rfl, hf4⟩))
          have hfb : Fr New w w4 := hfa.same hf4
          have hc3 := HC1.out w4 hfb
          have hb3 : hb < w4.heap.size := World.block_lt_of_cell? w4 _ hc3
          obtain ⟨ht3, hz3⟩ := block_cells (hf4.heap hth id)
          have ht40 := (ht3 0).trans rfl
          have ht41 := (ht3 1).trans rfl
          have ht42 := (ht3 2).trans rfl
          have ht43 := (ht3 3).trans rfl
          clear ht3 hz3 ht33
          go_region_with (first
            | (go_at_call 60; refine (HPL.out _).mono ?_; rintro e w5 ⟨rfl, hf5⟩; have hf5' : Fr New w w5 := (by first | exact hfb.same hf5 | exact hfb.drew.same hf5); have hc5 := HC1.out w5 hf5')
            | (go_at_call 59; refine (HPT.out _ (by first | exact hf5' | exact hf5'.drew)).mono ?_; rintro e w6 ⟨rfl, hc6, hf6, hs6⟩))
          all_goals (try go_wp2_with fail)
          all_goals
            go_ret
            exact ⟨rfl, by first | exact HFN.out _ _ hf5' hc6 hf6 | exact HFN.out _ _ hf5'.drew hc6 hf6⟩
        · have hd : decide ((j : Int) < (pt : Int)) = false := by simpa using hjp
          have hjn : ¬ j < pt := by omega
          clear hp hjp HDG
          go_enter Tryz.func26, Tryz.ntmps26
          go_upto_region 9 with (first
            | (go_at_call 55; refine HO.out.mono ?_; rintro e w1 ⟨vl, rfl, hol, hf1⟩)
            | (go_at_call 56; refine (HH.out _ _ hol).mono ?_; rintro e w2 ⟨r, rfl, hr, hf2⟩; obtain rfl := HN.out r hr)
            | (go_at_call 57; refine (HS.out _ _).mono ?_; rintro e w3 ⟨rfl, hf3⟩; have hfb : Fr New w w3 := ((hf1.same hf2).alloc _).same hf3; have hth := hf3.heap (Go.Deep.blk_alloc_new w2 _) id; obtain ⟨ht3, hz3⟩ := block_cells hth; have ht33 := (ht3 3).trans rfl; clear ht3 hz3))
          have hc3 := HC1.out w3 hfb
          have hb3 : hb < w3.heap.size := World.block_lt_of_cell? w3 _ hc3
          obtain ⟨ht3, hz3⟩ := block_cells hth
          have ht40 := (ht3 0).trans rfl
          have ht41 := (ht3 1).trans rfl
          have ht42 := (ht3 2).trans rfl
          clear ht3 hz3
          go_region_with (first
            | (go_at_call 60; refine (HPL.out _).mono ?_; rintro e w5 ⟨rfl, hf5⟩; have hf5' : Fr New w w5 := (by first | exact hfb.same hf5 | exact hfb.drew.same hf5); have hc5 := HC1.out w5 hf5')
            | (go_at_call 59; refine (HPT.out _ (by first | exact hf5' | exact hf5'.drew)).mono ?_; rintro e w6 ⟨rfl, hc6, hf6, hs6⟩))
          all_goals (try go_wp2_with fail)
          all_goals
            go_ret
            exact ⟨rfl, by first | exact HFN.out _ _ hf5' hc6 hf6 | exact HFN.out _ _ hf5'.drew hc6 hf6⟩
end Go.Proofs.YtbagcjlimdilpaaGreat
