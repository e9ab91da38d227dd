/- Texts that follow one another, joined. -/
import Derived.Test.YtbagcjlimdilpaaGreatHhJ6
import Derived.Deep.RegionHeld3
import Derived.Test.YtbagcjlimdilpaaGreatHhJ0
/- Walks of the document's Read, Root, SetRoot. -/
namespace Go.Proofs.YtbagcjlimdilpaaGreat
open Go.RowKit

/-- what Read tells -/
def readS (now : List Int) (n i : Int) : Int × Int := match idx (objs now) n with
  | none => (0, 9)
  | some k => if i < 0 ∨ 8 * (((objs now).getD k ⟨0, 0, 0⟩).span : Int) - 1 ≤ i then (0, 1) else (wd now (pl ((objs now).getD k ⟨0, 0, 0⟩) i.toNat), 0)
/-- what Root tells -/
def rootS (now : List Int) (i : Int) : Int × Int := if i < 0 ∨ 4 ≤ i then (0, 1) else (wrap64 (wd now (3 + i.toNat)), 0)
/-- what SetRoot makes -/
def setRootS (now : List Int) (i n : Int) : List Int × Int := if i < 0 ∨ 4 ≤ i then (now, 1) else if n ≠ 0 ∧ idx (objs now) n = none then (now, 9) else (now.set (3 + i.toNat) n, 0)

set_option maxRecDepth 100000 in
theorem rroot_any (hb gn cn L : Nat) (vw vs : Value) (now : List Int) (i : Int) (w : World) (h : RH hb gn cn L vw vs now w) :
    Calls Tryz.prog 79 #[.pointer (some ⟨hb, 0, none⟩), .int .i64 i] w fun e w' => e = .returned (.tuple #[.int .i64 (rootS now i).1, .int .i64 (rootS now i).2]) ∧ w' = w := by
  obtain ⟨hcb, hzb⟩ := block_cells h.blk
  have hc1 : w.cell? ⟨hb, 1, none⟩ = some (.slice (some ⟨gn, 0, none⟩) L cn) := (hcb 1).trans rfl
  obtain ⟨hl1, hl2, hl3⟩ := h.lens
  unfold rootS
  by_cases h0 : i < 0
  · rw [if_pos (.inl h0)]
    have hd : decide (i < 0) = true := by simpa using h0
    clear hcb hzb h
    go_enter Tryz.func79, Tryz.ntmps79
    go_wp2
    go_ret2
    exact ⟨rfl, rfl⟩
  · by_cases h4 : 4 ≤ i
    · rw [if_pos (.inr h4)]
      have hd : decide (i < 0) = false := by simpa using h0
      have hd4 : decide (4 ≤ i) = true := by simpa using h4
      clear hcb hzb h
      go_enter Tryz.func79, Tryz.ntmps79
      go_wp2
      go_ret2
      exact ⟨rfl, rfl⟩
    · rw [if_neg (by omega)]
      obtain ⟨k, rfl⟩ := Int.eq_ofNat_of_zero_le (show 0 ≤ i by omega)
      have hk : k < 4 := by omega
      have hc := h.cell (3 + k) (by omega)
      simp only [Int.toNat_natCast]
      obtain ⟨x, hx⟩ : ∃ x, x = wd now (3 + k) := ⟨_, rfl⟩
      rw [← hx] at hc ⊢
      have hd4 : decide (4 ≤ (k : Int)) = false := by simp; omega
      clear hcb hzb h hx
      go_enter Tryz.func79, Tryz.ntmps79
      go_wp2
      go_ret2
      exact ⟨rfl, rfl⟩

set_option maxHeartbeats 2000000 in
set_option maxRecDepth 100000 in
theorem rsetRoot_any (hb gn cn L : Nat) (vw vs : Value) (now : List Int) (i n : Int) (w : World) (h0 : -9223372036854775808 ≤ n) (h1 : n ≤ 9223372036854775807) (h : RH hb gn cn L vw vs now w) :
    Calls Tryz.prog 80 #[.pointer (some ⟨hb, 0, none⟩), .int .i64 i, .int .i64 n] w fun e w' => e = .returned (.int .i64 (setRootS now i n).2) ∧ RH hb gn cn L vw vs (setRootS now i n).1 w' ∧ Fr (fun k => k = gn) w w' := by
  have HH : Hid (Calls Tryz.prog 128 #[.pointer (some ⟨hb, 0, none⟩), .int .i64 n] w fun e w' => e = .returned (handleV (objs now) n) ∧ Fr New w w') := handle_any hb gn cn L vw vs now n w h0 h1 h
  obtain ⟨hl1, hl2, hl3⟩ := h.lens
  have hbw : hb < w.heap.size := lt_of_block h.blk
  unfold setRootS
  by_cases hi0 : i < 0
  · rw [if_pos (.inl hi0)]
    have hd : decide (i < 0) = true := by simpa using hi0
    go_enter Tryz.func80, Tryz.ntmps80
    go_wp2
    go_ret
    exact ⟨rfl, h, Fr.refl _ _⟩
  · have hd : decide (i < 0) = false := by simpa using hi0
    by_cases hi4 : 4 ≤ i
    · rw [if_pos (.inr hi4)]
      have hd4 : decide (4 ≤ i) = true := by simpa using hi4
      go_enter Tryz.func80, Tryz.ntmps80
      go_wp2
      go_ret
      exact ⟨rfl, h, Fr.refl _ _⟩
    · rw [if_neg (by omega)]
      obtain ⟨k, rfl⟩ := Int.eq_ofNat_of_zero_le (show 0 ≤ i by omega)
      have hk : k < 4 := by omega
      have hd4 : decide (4 ≤ (k : Int)) = false := by simp; omega
      simp only [Int.toNat_natCast]
      have HCW : Hid (∀ w1, Fr New w w1 → w1.cell? ⟨hb, 1, none⟩ = some (.slice (some ⟨gn, 0, none⟩) L cn) ∧ w1.cell? ⟨gn, 3 + k, none⟩ = some (.int .u64 (wd now (3 + k))) ∧ w1.frozen? ⟨gn, 3 + k, none⟩ = false ∧ gn < w1.heap.size) := fun w1 hf => by
        have h' := h.fr hf
        obtain ⟨_, _, hcc⟩ := own_block h'.own rfl
        exact ⟨((block_cells h'.blk).1 1).trans rfl, h'.cell (3 + k) (by omega), h'.free _, lt_of_block hcc⟩
      rcases hx : idx (objs now) n with _ | j
      · rw [handleV_none hx] at HH
        by_cases hn : n = 0
        · subst hn
          rw [if_neg (by simp)]
          clear hx
          go_enter Tryz.func80, Tryz.ntmps80
          go_wp2_with (go_at_call 128; refine HH.out.mono ?_; rintro e w1 ⟨rfl, hf1⟩; obtain ⟨c1, c2, c3, c4⟩ := HCW.out w1 hf1; have hb1 : hb < w1.heap.size := World.block_lt_of_cell? w1 _ c1)
          go_ret
          exact ⟨rfl, ((h.fr hf1).put (3 + k) 0).fr ((Fr.refl _ _).alloc _), ((((Fr.refl (fun k => k = gn) w).same hf1).setCell (p := ⟨gn, 3 + k, none⟩) (fun _ => rfl) _).alloc _)⟩
        · rw [if_pos ⟨hn, rfl⟩]
          have hdn : (n != 0) = true := by simpa using hn
          clear hx
          go_enter Tryz.func80, Tryz.ntmps80
          go_wp2_with (go_at_call 128; refine HH.out.mono ?_; rintro e w1 ⟨rfl, hf1⟩)
          go_ret
          exact ⟨rfl, h.fr (hf1.alloc _), ((Fr.refl _ _).same hf1).alloc _⟩
      · have hj := idx_lt hx
        rw [handleV_some hx hj] at HH
        have hn1 : 1 ≤ n := by
          rcases Int.lt_or_le n 1 with h' | h'
          · rw [idx_low h'] at hx; cases hx
          · exact h'
        rw [if_neg (by simp)]
        have hw1 : IntKind.u64.wrap n = n := by rw [IntKind.wrap_u64]; omega
        have hdn : (n != 0) = true := by simp; omega
        clear hx
        go_enter Tryz.func80, Tryz.ntmps80
        go_wp2_with (go_at_call 128; refine HH.out.mono ?_; rintro e w1 ⟨rfl, hf1⟩; obtain ⟨c1, c2, c3, c4⟩ := HCW.out w1 hf1; have hb1 : hb < w1.heap.size := World.block_lt_of_cell? w1 _ c1)
        go_ret
        exact ⟨rfl, ((h.fr hf1).put (3 + k) n).fr ((Fr.refl _ _).alloc _), ((((Fr.refl (fun k => k = gn) w).same hf1).setCell (p := ⟨gn, 3 + k, none⟩) (fun _ => rfl) _).alloc _)⟩

set_option maxHeartbeats 2000000 in
set_option maxRecDepth 100000 in
theorem rread_any (hb gn cn L : Nat) (vw vs : Value) (now : List Int) (n i : Int) (w : World) (h0 : -9223372036854775808 ≤ n) (h1 : n ≤ 9223372036854775807) (h : RH hb gn cn L vw vs now w) :
    Calls Tryz.prog 77 #[.pointer (some ⟨hb, 0, none⟩), .int .i64 n, .int .i64 i] w fun e w' => e = .returned (.tuple #[.int .u64 (readS now n i).1, .int .i64 (readS now n i).2]) ∧ Fr New w w' := by
  have HH : Hid (Calls Tryz.prog 128 #[.pointer (some ⟨hb, 0, none⟩), .int .i64 n] w fun e w' => e = .returned (handleV (objs now) n) ∧ Fr New w w') := handle_any hb gn cn L vw vs now n w h0 h1 h
  obtain ⟨hl1, hl2, hl3⟩ := h.lens
  have hbw : hb < w.heap.size := lt_of_block h.blk
  unfold readS
  rcases hx : idx (objs now) n with _ | k
  · rw [handleV_none hx] at HH
    clear hx h
    go_enter Tryz.func77, Tryz.ntmps77
    go_wp2_with (go_at_call 128; refine HH.out.mono ?_; rintro e w1 ⟨rfl, hf1⟩)
    go_ret2
    exact ⟨rfl, hf1.alloc _⟩
  · have hk := idx_lt hx
    rw [handleV_some hx hk] at HH
    have hin := objs_in (List.getElem_mem hk)
    have hnb := nblk_le now.length
    have hgd : (objs now).getD k ⟨0, 0, 0⟩ = (objs now)[k] := by simp [List.getD, hk]
    dsimp only
    rw [hgd]
    rw [h.len] at hin
    obtain ⟨o, ho⟩ : ∃ o, o = (objs now)[k] := ⟨_, rfl⟩
    rw [← ho] at HH hin ⊢
    obtain ⟨b, sp, pt⟩ := o
    simp only at HH hin ⊢
    obtain ⟨g1, g2, g3, g4, g5⟩ := hin
    clear hx hgd ho
    by_cases hi0 : i < 0
    · rw [if_pos (.inl hi0)]
      have hd : decide (i < 0) = true := by simpa using hi0
      go_enter Tryz.func77, Tryz.ntmps77
      go_wp2_with (go_at_call 128; refine HH.out.mono ?_; rintro e w1 ⟨rfl, hf1⟩)
      go_ret2
      exact ⟨rfl, hf1.alloc _⟩
    · have hd : decide (i < 0) = false := by simpa using hi0
      by_cases hi8 : 8 * (sp : Int) - 1 ≤ i
      · rw [if_pos (.inr hi8)]
        have hd8 : decide (8 * (sp : Int) - 1 ≤ i) = true := by simpa using hi8
        go_enter Tryz.func77, Tryz.ntmps77
        go_wp2_with (go_at_call 128; refine HH.out.mono ?_; rintro e w1 ⟨rfl, hf1⟩)
        go_ret2
        exact ⟨rfl, hf1.alloc _⟩
      · rw [if_neg (by omega)]
        obtain ⟨j, rfl⟩ := Int.eq_ofNat_of_zero_le (show 0 ≤ i by omega)
        simp only [Int.toNat_natCast]
        have hd8 : decide (8 * (sp : Int) - 1 ≤ (j : Int)) = false := by simp; omega
        have HPL : Hid (∀ w9, Calls Tryz.prog 129 #[.agg #[.int .i64 b, .int .i64 sp, .int .i64 pt], .int .i64 j] w9 fun e w' => e = .returned (.int .i64 ((pl ⟨b, sp, pt⟩ j : Nat) : Int)) ∧ Fr New w9 w') := fun w9 => by
          have := place_any ⟨b, sp, pt⟩ j w9 (by simp only; omega) (by omega) (by omega)
          rwa [show (106 + 8 * (b : Int) + 1 + (j : Int)) = ((pl ⟨b, sp, pt⟩ j : Nat) : Int) by unfold pl; simp only; omega] at this
        have hq : pl ⟨b, sp, pt⟩ j < L := by unfold pl; simp only; omega
        have HCW : Hid (∀ w1, Fr New w w1 → w1.cell? ⟨hb, 1, none⟩ = some (.slice (some ⟨gn, 0, none⟩) L cn) ∧ w1.cell? ⟨gn, pl ⟨b, sp, pt⟩ j, none⟩ = some (.int .u64 (wd now (pl ⟨b, sp, pt⟩ j)))) := fun w1 hf => by
          have h' := h.fr hf
          exact ⟨((block_cells h'.blk).1 1).trans rfl, h'.cell _ hq⟩
        obtain ⟨q, hqq⟩ : ∃ q, q = pl ⟨b, sp, pt⟩ j := ⟨_, rfl⟩
        rw [← hqq] at HPL hq HCW ⊢
        obtain ⟨x, hx⟩ : ∃ x, x = wd now q := ⟨_, rfl⟩
        rw [← hx] at HCW ⊢
        have hq0 : (0 : Int) ≤ (q : Int) := by omega
        have hq1 : (q : Int) < (L : Int) := by omega
        clear hqq hx h
        go_enter Tryz.func77, Tryz.ntmps77
        go_upto_region 6 with (go_at_call 128; refine HH.out.mono ?_; rintro e w1 ⟨rfl, hf1⟩)
        obtain ⟨c1, c2⟩ := HCW.out w1 hf1
        have hb1 : hb < w1.heap.size := World.block_lt_of_cell? w1 _ c1
        have hg1 : gn < w1.heap.size := World.block_lt_of_cell? w1 _ c2
        go_region_with (first
          | (go_at_call 129; refine (HPL.out _).mono ?_; rintro e w2 ⟨rfl, hf2⟩; have hf2' : Fr New w w2 := (by first | exact (hf1.alloc _).same hf2 | exact (hf1.alloc _).drew.same hf2); obtain ⟨d1, d2⟩ := HCW.out w2 hf2'))
        all_goals (try go_wp2_with fail)
        all_goals
          go_ret2
          exact ⟨rfl, by first | exact hf2' | exact hf2'.drew⟩
end Go.Proofs.YtbagcjlimdilpaaGreat
/- The walk of the document's Alloc. -/
namespace Go.Proofs.YtbagcjlimdilpaaGreat
open Go.RowKit

/-- s blocks from b on are free -/
def FreeRow (l : List Ob) (n s b : Nat) : Prop := b + s ≤ n ∧ ∀ o ∈ l, o.block + o.span ≤ b ∨ b + s ≤ o.block
/-- the places of s blocks from b on -/
def blockZ (b s q : Nat) : Prop := 106 + 8 * b ≤ q ∧ q < 106 + 8 * b + s
def argOk (s p : Int) : Prop := 1 ≤ s ∧ s ≤ 4 ∧ 0 ≤ p ∧ p ≤ 8 * s - 1
/-- what Alloc makes -/
def AllocIs (now : List Int) (s p : Int) (r : List Int) (h c : Int) : Prop :=
  (¬ argOk s p ∧ r = now ∧ h = 0 ∧ c = 1) ∨
  (argOk s p ∧ (∀ b, ¬ FreeRow (objs now) (nblk now.length) s.toNat b) ∧ r = now ∧ h = 0 ∧ c = 11) ∨
  (argOk s p ∧ ∃ b z, FreeRow (objs now) (nblk now.length) s.toNat b ∧ (∀ b', b' < b → ¬ FreeRow (objs now) (nblk now.length) s.toNat b') ∧ Zeroed now z (blockZ b (8 * s.toNat)) ∧ r = z.set (106 + 8 * b) (1000000 + 100 * s + p) ∧ h = ((b + 1 : Nat) : Int) ∧ c = 0)
theorem alloc_one {now r r' : List Int} {s p h h' c c' : Int} (a : AllocIs now s p r h c) (a' : AllocIs now s p r' h' c') : r = r' ∧ h = h' ∧ c = c' := by
  rcases a with ⟨h1, rfl, rfl, rfl⟩ | ⟨h1, h2, rfl, rfl, rfl⟩ | ⟨h1, b, z, h2, h3, h4, rfl, rfl, rfl⟩
  · rcases a' with ⟨_, rfl, rfl, rfl⟩ | ⟨g1, _⟩ | ⟨g1, _⟩
    · exact ⟨rfl, rfl, rfl⟩
    · exact absurd g1 h1
    · exact absurd g1 h1
  · rcases a' with ⟨g1, _⟩ | ⟨_, _, rfl, rfl, rfl⟩ | ⟨_, b', _, g2, _⟩
    · exact absurd h1 g1
    · exact ⟨rfl, rfl, rfl⟩
    · exact absurd g2 (h2 b')
  · rcases a' with ⟨g1, _⟩ | ⟨_, g2, _⟩ | ⟨_, b', z', g2, g3, g4, rfl, rfl, rfl⟩
    · exact absurd h1 g1
    · exact absurd h2 (g2 b)
    · have e : b = b' := by
        rcases Nat.lt_or_ge b b' with h | h
        · exact absurd h2 (g3 b h)
        · rcases Nat.lt_or_ge b' b with h' | h'
          · exact absurd g2 (h3 b' h')
          · omega
      subst e
      obtain rfl := h4.one g4
      exact ⟨rfl, rfl, rfl⟩
theorem blockZ_zero (b q : Nat) : ¬ blockZ b 0 q := fun h => by unfold blockZ at h; omega
theorem blockZ_succ (b s q : Nat) : (blockZ b s q ∨ q = 106 + 8 * b + s) ↔ blockZ b (s + 1) q := by unfold blockZ; omega

set_option maxHeartbeats 8000000 in
set_option maxRecDepth 100000 in
theorem ralloc_any (hb gn cn L : Nat) (vw vs : Value) (now : List Int) (s p : Int) (w : World) (h : RH hb gn cn L vw vs now w) :
    Calls Tryz.prog 75 #[.pointer (some ⟨hb, 0, none⟩), .int .i64 s, .int .i64 p] w fun e w' => ∃ r hd c, e = .returned (.tuple #[.int .i64 hd, .int .i64 c]) ∧ AllocIs now s p r hd c ∧ RH hb gn cn L vw vs r w' ∧ Fr (fun k => k = gn) w w' := by
  obtain ⟨hl1, hl2, hl3⟩ := h.lens
  have hbw : hb < w.heap.size := lt_of_block h.blk
  have hc1 : w.cell? ⟨hb, 1, none⟩ = some (.slice (some ⟨gn, 0, none⟩) L cn) := ((block_cells h.blk).1 1).trans rfl
  have HRH : Hid (RH hb gn cn L vw vs now w) := h
  by_cases hs1 : s < 1
  · have HT : Hid (AllocIs now s p now 0 1) := .inl ⟨fun ha => by have := ha.1; omega, rfl, rfl, rfl⟩
    have hd : decide (s < 1) = true := by simpa using hs1
    go_enter Tryz.func75, Tryz.ntmps75
    go_wp2
    go_ret2
    exact ⟨now, 0, 1, rfl, HT.out, h, Fr.refl _ _⟩
  have hd1 : decide (s < 1) = false := by simpa using hs1
  by_cases hs4 : 4 < s
  · have HT : Hid (AllocIs now s p now 0 1) := .inl ⟨fun ha => by have := ha.2.1; omega, rfl, rfl, rfl⟩
    have hd : decide (4 < s) = true := by simpa using hs4
    go_enter Tryz.func75, Tryz.ntmps75
    go_wp2
    go_ret2
    exact ⟨now, 0, 1, rfl, HT.out, h, Fr.refl _ _⟩
  have hd2 : decide (4 < s) = false := by simpa using hs4
  by_cases hp0 : p < 0
  · have HT : Hid (AllocIs now s p now 0 1) := .inl ⟨fun ha => by have := ha.2.2.1; omega, rfl, rfl, rfl⟩
    have hd : decide (p < 0) = true := by simpa using hp0
    go_enter Tryz.func75, Tryz.ntmps75
    go_wp2
    go_ret2
    exact ⟨now, 0, 1, rfl, HT.out, h, Fr.refl _ _⟩
  have hd3 : decide (p < 0) = false := by simpa using hp0
  by_cases hp8 : 8 * s - 1 < p
  · have HT : Hid (AllocIs now s p now 0 1) := .inl ⟨fun ha => by have := ha.2.2.2; omega, rfl, rfl, rfl⟩
    have hd : decide (8 * s - 1 < p) = true := by simpa using hp8
    go_enter Tryz.func75, Tryz.ntmps75
    go_wp2
    go_ret2
    exact ⟨now, 0, 1, rfl, HT.out, h, Fr.refl _ _⟩
  have hd4 : decide (8 * s - 1 < p) = false := by simpa using hp8
  have HAR : Hid (argOk s p) := ⟨by omega, by omega, by omega, by omega⟩
  obtain ⟨sn, rfl⟩ := Int.eq_ofNat_of_zero_le (show 0 ≤ s by omega)
  obtain ⟨pn, rfl⟩ := Int.eq_ofNat_of_zero_le (show 0 ≤ p by omega)
  have hsn1 : 1 ≤ sn := by omega
  have hsn4 : sn ≤ 4 := by omega
  have hpn : pn < 32 := by omega
  have HNO : Hid ((∀ b, ¬ FreeRow (objs now) (nblk L) sn b) → AllocIs now sn pn now 0 11) := fun hh => .inr (.inl ⟨HAR.out, by rw [h.len]; simpa using hh, rfl, rfl, rfl⟩)
  have HYES : Hid (∀ b z, FreeRow (objs now) (nblk L) sn b → (∀ b', b' < b → ¬ FreeRow (objs now) (nblk L) sn b') → Zeroed now z (blockZ b (8 * sn)) → AllocIs now sn pn (z.set (106 + 8 * b) (1000000 + 100 * (sn : Int) + pn)) ((b + 1 : Nat) : Int) 0) := fun b z h1 h2 h3 => .inr (.inr ⟨HAR.out, b, z, by rw [h.len]; simpa using h1, by rw [h.len]; simpa using h2, by simpa using h3, rfl, rfl, rfl⟩)
  have HWK : Hid (Calls Tryz.prog 126 #[.slice (some ⟨gn, 0, none⟩) L cn] w fun e w' => ∃ vl vb, e = .returned (.tuple #[vl, vb]) ∧ LiesO w' vl (objs now) ∧ Fr New w w') := h.walk
  have HBL : Hid (∀ w, Calls Tryz.prog 127 #[.int .i64 L] w fun e w' => e = .returned (.int .i64 (nblk L)) ∧ w' = w) := fun w => blocks_any L w (by omega)
  have HLN : Hid (L = 106 + 8 * nblk L ∧ now.length = L) := ⟨(nblk_some h.n0).1, h.len⟩
  have hnb := nblk_le L
  obtain ⟨n, hn⟩ : ∃ n, n = nblk L := ⟨_, rfl⟩
  obtain ⟨l, hl⟩ : ∃ l, l = objs now := ⟨_, rfl⟩
  rw [← hn] at HNO HYES HBL HLN hnb
  rw [← hl] at HNO HYES HWK
  clear hn hl hs1 hs4 hp0 hp8 h
  go_enter Tryz.func75, Tryz.ntmps75
  go_wp2_with (first
    | (go_at_call 126; refine HWK.out.mono ?_; rintro e w2 ⟨vl, vb, rfl, hlo, hf2⟩; have hc2 := hf2.cell hc1 id; have hRH2 := HRH.out.fr hf2)
    | (go_at_call 127; refine calls_same (HBL.out w2) ?_)
    | fail)
  obtain ⟨av, cv, rfl, hll, hbo, hcl⟩ := hlo
  have HC : Hid (0 < l.length → ∃ g, av = some ⟨g, 0, none⟩ ∧ ∀ i (hi : i < l.length), w2.cell? ⟨g, i * 3, none⟩ = some (.int .i64 (l[i]).block) ∧ w2.cell? ⟨g, i * 3 + 1, none⟩ = some (.int .i64 (l[i]).span)) := by
    intro hp
    obtain ⟨g, e, _, hc⟩ := hcl hp
    exact ⟨g, e, fun i hi => ⟨(hc i hi).1, (hc i hi).2.1⟩⟩
  have HBO : Hid (∀ o ∈ l, o.block ≤ 1048576 ∧ o.span ≤ 4) := fun o ho => ⟨(hbo o ho).1, (hbo o ho).2.1⟩
  clear hcl hbo
  go_loopg [11] (n + 1) (fun gh t wr => ∃ b j : Nat, b ≤ n + 1 ∧ gh = n + 1 - b ∧ t = .int .i64 b ∧ wr = w2.drewN j ∧ ∀ b', b' < b → ¬ FreeRow l n sn b')
  case atStart => exact ⟨0, 0, by omega, rfl, rfl, rfl, fun b' hb' => by omega⟩
  case round =>
    obtain ⟨b, jd, hbn, rfl, rfl, rfl, hno⟩ := hrel
    have HNB : Hid (∀ b', b' < b → ¬ FreeRow l n sn b') := hno
    clear hno
    by_cases hbf : b + sn ≤ n
    · have hdb : decide ((b : Int) + (sn : Int) ≤ (n : Int)) = true := by simp; omega
      go_wp2
      go_loopg [12, 13] l.length (fun gh t12 t13 wr => ∃ (i j : Nat) (fr : Bool), i ≤ l.length ∧ gh = l.length - i ∧ t12 = .bool fr ∧ t13 = .int .i64 i ∧ wr = w2.drewN j ∧ (fr = true ↔ ∀ i' (hi' : i' < l.length), i' < i → (l[i']).block + (l[i']).span ≤ b ∨ b + sn ≤ (l[i']).block))
      case atStart => exact ⟨0, jd, true, by omega, rfl, rfl, rfl, rfl, ⟨fun _ i' _ h => by omega, fun _ => rfl⟩⟩
      case round =>
        obtain ⟨i, j, fr, hil, rfl, rfl, rfl, rfl, hiff⟩ := hrel
        have HIF : Hid (fr = true ↔ ∀ i' (hi' : i' < l.length), i' < i → (l[i']).block + (l[i']).span ≤ b ∨ b + sn ≤ (l[i']).block) := hiff
        clear hiff
        by_cases hi : i < l.length
        · have hdi : decide ((i : Int) < (l.length : Int)) = true := by simp; omega
          have hi0 : (0 : Int) ≤ (i : Int) := by omega
          have hi1 : (i : Int) < (l.length : Int) := by omega
          obtain ⟨g, rfl, hcells⟩ := HC.out (by omega)
          obtain ⟨e0, e1⟩ := hcells i hi
          obtain ⟨hb1, hb2⟩ := HBO.out l[i] (List.getElem_mem _)
          obtain ⟨ob, hob⟩ : ∃ ob, ob = (l[i]).block := ⟨_, rfl⟩
          obtain ⟨os, hos⟩ : ∃ os, os = (l[i]).span := ⟨_, rfl⟩
          have HOB : Hid (ob = (l[i]).block ∧ os = (l[i]).span) := ⟨hob, hos⟩
          rw [← hob] at e0 hb1
          rw [← hos] at e1 hb2
          clear hcells hob hos
          have hwa : IntKind.i64.wrap ((ob : Int) + (os : Int)) = (ob : Int) + os := by rw [IntKind.wrap_i64]; omega
          have hwb : IntKind.i64.wrap ((b : Int) + (sn : Int)) = (b : Int) + sn := by rw [IntKind.wrap_i64]; omega
          cases fr with
          | false =>
            have HN : Hid ((false = true) ↔ ∀ i' (hi' : i' < l.length), i' < i + 1 → (l[i']).block + (l[i']).span ≤ b ∨ b + sn ≤ (l[i']).block) := by
              refine ⟨fun h => (by cases h), fun hh => HIF.out.2 (fun i' hi' h => hh i' hi' (by omega))⟩
            go_wp2
            go_quiet (fail)
            go_wp2
            go_roundg (l.length - (i + 1))
            case measure => omega
            case rel => exact ⟨i + 1, j + nq, false, by omega, rfl, rfl, by go_num, rfl, HN.out⟩
          | true =>
            by_cases hA : ob + os ≤ b
            · have hda : decide ((ob : Int) + (os : Int) ≤ (b : Int)) = true := by simp; omega
              have HN : Hid ((true = true) ↔ ∀ i' (hi' : i' < l.length), i' < i + 1 → (l[i']).block + (l[i']).span ≤ b ∨ b + sn ≤ (l[i']).block) := by
                refine ⟨fun _ i' hi' h => ?_, fun _ => rfl⟩
                rcases Nat.lt_or_ge i' i with h' | h'
                · exact HIF.out.1 rfl i' hi' h'
                · obtain rfl : i' = i := by omega
                  left; rw [← HOB.out.1, ← HOB.out.2]; exact hA
              go_wp2
              go_quiet (fail)
              go_wp2
              go_roundg (l.length - (i + 1))
              case measure => omega
              case rel => exact ⟨i + 1, j + nq, true, by omega, rfl, rfl, by go_num, rfl, by simpa using HN.out⟩
            · have hda : decide ((ob : Int) + (os : Int) ≤ (b : Int)) = false := by simp; omega
              by_cases hB : b + sn ≤ ob
              · have hdb2 : decide ((b : Int) + (sn : Int) ≤ (ob : Int)) = true := by simp; omega
                have HN : Hid ((true = true) ↔ ∀ i' (hi' : i' < l.length), i' < i + 1 → (l[i']).block + (l[i']).span ≤ b ∨ b + sn ≤ (l[i']).block) := by
                  refine ⟨fun _ i' hi' h => ?_, fun _ => rfl⟩
                  rcases Nat.lt_or_ge i' i with h' | h'
                  · exact HIF.out.1 rfl i' hi' h'
                  · obtain rfl : i' = i := by omega
                    right; rw [← HOB.out.1]; exact hB
                go_wp2
                go_quiet (fail)
                go_wp2
                go_roundg (l.length - (i + 1))
                case measure => omega
                case rel => exact ⟨i + 1, j + nq, true, by omega, rfl, rfl, by go_num, rfl, by simpa using HN.out⟩
              · have hdb2 : decide ((b : Int) + (sn : Int) ≤ (ob : Int)) = false := by simp; omega
                have HN : Hid ((false = true) ↔ ∀ i' (hi' : i' < l.length), i' < i + 1 → (l[i']).block + (l[i']).span ≤ b ∨ b + sn ≤ (l[i']).block) := by
                  refine ⟨fun h => (by cases h), fun hh => ?_⟩
                  have := hh i hi (by omega)
                  rw [← HOB.out.1, ← HOB.out.2] at this
                  omega
                go_wp2
                go_quiet (fail)
                go_wp2
                go_roundg (l.length - (i + 1))
                case measure => omega
                case rel => exact ⟨i + 1, j + nq, false, by omega, rfl, rfl, by go_num, rfl, HN.out⟩
        · obtain rfl : i = l.length := by omega
          have hdi : decide ((l.length : Int) < (l.length : Int)) = false := by simp
          cases fr with
          | false =>
            have HNF : Hid (¬ FreeRow l n sn b) := fun hf => by
              have := HIF.out.2 (fun i' hi' _ => hf.2 _ (List.getElem_mem hi'))
              cases this
            go_wp2
            go_roundg (n + 1 - (b + 1))
            case measure => omega
            case rel => exact ⟨b + 1, j, by omega, rfl, by go_num, rfl, fun b' hb' => by
              rcases Nat.lt_or_ge b' b with h' | h'
              · exact HNB.out b' h'
              · obtain rfl : b' = b := by omega
                exact HNF.out⟩
          | true =>
            have HFR : Hid (FreeRow l n sn b) := ⟨hbf, fun o ho => by
              obtain ⟨i', hi', rfl⟩ := List.getElem_of_mem ho
              exact HIF.out.1 rfl i' hi' hi'⟩
            have hR3 : RH hb gn cn L vw vs now (w2.drewN j) := hRH2.fr ((Fr.refl _ _).drewN _)
            have hF3 : Fr (fun k => k = gn) w (w2.drewN j) := ((Fr.refl _ _).same hf2).drewN _
            go_wp2
            go_loopg [14] (8 * sn) (fun gh t wr => ∃ (i : Nat) (cur : List Int), i ≤ 8 * sn ∧ gh = 8 * sn - i ∧ t = .int .i64 i ∧ RH hb gn cn L vw vs cur wr ∧ Fr (fun k => k = gn) w wr ∧ Zeroed now cur (blockZ b i))
            case atStart => exact ⟨0, now, by omega, rfl, rfl, hR3, hF3, zeroed_self now (blockZ_zero b)⟩
            case round =>
              clear hR3 hF3
              obtain ⟨i, cur, his, rfl, rfl, hR, hF, hZ⟩ := hrel
              have hcc : wr.cell? ⟨hb, 1, none⟩ = some (.slice (some ⟨gn, 0, none⟩) L cn) := ((block_cells hR.blk).1 1).trans rfl
              have hLn := HLN.out.1
              have hbL : 106 + 8 * b + 8 * sn ≤ L := by omega
              clear hLn
              by_cases hi : i < 8 * sn
              · have hdi : decide ((i : Int) < 8 * (sn : Int)) = true := by simp; omega
                have hcq := hR.cell (106 + 8 * b + i) (by omega)
                have hfq := hR.free (106 + 8 * b + i)
                have hput := hR.put (106 + 8 * b + i) 0
                have hZn : Zeroed now (cur.set (106 + 8 * b + i) 0) (blockZ b (i + 1)) := (hZ.set (by rw [HLN.out.2]; omega)).congr (fun q => blockZ_succ b i q)
                have hFn := hF.setCell (p := ⟨gn, 106 + 8 * b + i, none⟩) (fun _ => rfl) (.int .u64 0)
                go_wp2
                go_roundg (8 * sn - (i + 1))
                case measure => omega
                case rel => exact ⟨i + 1, _, by omega, rfl, by go_num, hput, hFn, hZn⟩
              · obtain rfl : i = 8 * sn := by omega
                have hdi : decide (8 * (sn : Int) < 8 * (sn : Int)) = false := by simp
                have HT := HYES.out b cur HFR.out HNB.out hZ
                have hcq := hR.cell (106 + 8 * b) (by omega)
                have hfq := hR.free (106 + 8 * b)
                have hput := hR.put (106 + 8 * b) (1000000 + 100 * (sn : Int) + pn)
                have hFn := hF.setCell (p := ⟨gn, 106 + 8 * b, none⟩) (fun _ => rfl) (.int .u64 (1000000 + 100 * (sn : Int) + pn))
                have hwu : IntKind.u64.wrap (1000000 + 100 * (sn : Int) + (pn : Int)) = 1000000 + 100 * (sn : Int) + pn := by rw [IntKind.wrap_u64]; omega
                have HTT : Hid (AllocIs now sn pn (cur.set (106 + 8 * b) (1000000 + 100 * (sn : Int) + pn)) ((b + 1 : Nat) : Int) 0) := HT
                clear HT
                go_wp2
                go_ret2
                exact ⟨_, ((b + 1 : Nat) : Int), 0, by go_num, HTT.out, hput, hFn⟩
    · have hdb : decide ((b : Int) + (sn : Int) ≤ (n : Int)) = false := by simp; omega
      have HT : Hid (AllocIs now sn pn now 0 11) := HNO.out (fun b' hf => by
        rcases Nat.lt_or_ge b' b with h' | h'
        · exact HNB.out b' h' hf
        · have := hf.1; omega)
      go_wp2
      go_ret2
      exact ⟨now, 0, 11, rfl, HT.out, hRH2.fr ((Fr.refl _ _).drewN _), ((Fr.refl _ _).same hf2).drewN _⟩
end Go.Proofs.YtbagcjlimdilpaaGreat
/- The walk of the document's Free. -/
namespace Go.Proofs.YtbagcjlimdilpaaGreat
open Go.RowKit

/-- a root or a pointer holds n -/
def HeldBy (now : List Int) (l : List Ob) (n : Int) : Prop := (∃ r, r < 4 ∧ wd now (3 + r) = n) ∨ ∃ i, ∃ hi : i < l.length, ∃ p, p < (l[i]).ptrs ∧ wd now (pl l[i] p) = n
/-- what Free makes -/
def FreeIs (now : List Int) (n : Int) (r : List Int) (c : Int) : Prop :=
  (idx (objs now) n = none ∧ r = now ∧ c = 9) ∨ (idx (objs now) n ≠ none ∧ HeldBy now (objs now) n ∧ r = now ∧ c = 10) ∨
  (∃ k, ∃ hk : k < (objs now).length, idx (objs now) n = some k ∧ ¬ HeldBy now (objs now) n ∧ Zeroed now r (leakZ1 (objs now)[k] ((objs now)[k]).span) ∧ c = 0)
theorem free_one {now r r' : List Int} {n c c' : Int} (h : FreeIs now n r c) (h' : FreeIs now n r' c') : r = r' ∧ c = c' := by
  rcases h with ⟨h1, rfl, rfl⟩ | ⟨h1, h2, rfl, rfl⟩ | ⟨k, hk, h1, h2, h3, rfl⟩
  · rcases h' with ⟨_, rfl, rfl⟩ | ⟨g1, _⟩ | ⟨k', _, g1, _⟩
    · exact ⟨rfl, rfl⟩
    · exact absurd h1 g1
    · rw [h1] at g1; cases g1
  · rcases h' with ⟨g1, _⟩ | ⟨_, _, rfl, rfl⟩ | ⟨k', _, _, g2, _⟩
    · exact absurd g1 h1
    · exact ⟨rfl, rfl⟩
    · exact absurd h2 g2
  · rcases h' with ⟨g1, _⟩ | ⟨_, g2, _⟩ | ⟨k', hk', g1, _, g3, rfl⟩
    · rw [h1] at g1; cases g1
    · exact absurd g2 h2
    · rw [h1] at g1
      cases g1
      exact ⟨h3.one g3, rfl⟩

set_option maxHeartbeats 4000000 in
set_option maxRecDepth 100000 in
theorem rfree_any (hb gn cn L : Nat) (vw vs : Value) (now : List Int) (n : Int) (w : World) (h0 : -9223372036854775808 ≤ n) (h1 : n ≤ 9223372036854775807) (h : RH hb gn cn L vw vs now w) :
    Calls Tryz.prog 76 #[.pointer (some ⟨hb, 0, none⟩), .int .i64 n] w fun e w' => ∃ r c, e = .returned (.int .i64 c) ∧ FreeIs now n r c ∧ RH hb gn cn L vw vs r w' ∧ Fr (fun k => k = gn) w w' := by
  have HH : Hid (Calls Tryz.prog 128 #[.pointer (some ⟨hb, 0, none⟩), .int .i64 n] w fun e w' => e = .returned (handleV (objs now) n) ∧ Fr New w w') := handle_any hb gn cn L vw vs now n w h0 h1 h
  obtain ⟨hl1, hl2, hl3⟩ := h.lens
  have hbw : hb < w.heap.size := lt_of_block h.blk
  have HWK : Hid (∀ w1, Fr New w w1 → Calls Tryz.prog 126 #[.slice (some ⟨gn, 0, none⟩) L cn] w1 fun e w' => ∃ vl vb, e = .returned (.tuple #[vl, vb]) ∧ LiesO w' vl (objs now) ∧ Fr New w1 w') := fun w1 hf => (h.fr hf).walk
  have HRH : Hid (∀ w1, Fr New w w1 → RH hb gn cn L vw vs now w1) := fun w1 hf => h.fr hf
  have HCW : Hid (∀ w1, Fr New w w1 → w1.cell? ⟨hb, 1, none⟩ = some (.slice (some ⟨gn, 0, none⟩) L cn) ∧ hb < w1.heap.size ∧ gn < w1.heap.size ∧ ∀ q, q < L → w1.cell? ⟨gn, q, none⟩ = some (.int .u64 (wd now q))) := fun w1 hf => by
    have h' := h.fr hf
    obtain ⟨_, _, hcc⟩ := own_block h'.own rfl
    exact ⟨((block_cells h'.blk).1 1).trans rfl, lt_of_block h'.blk, lt_of_block hcc, fun q hq => h'.cell q hq⟩
  have hgw : gn < w.heap.size := (HCW.out w (Fr.refl _ _)).2.2.1
  rcases hx : idx (objs now) n with _ | k
  · have HT : Hid (FreeIs now n now 9) := .inl ⟨hx, rfl, rfl⟩
    rw [handleV_none hx] at HH
    clear hx
    go_enter Tryz.func76, Tryz.ntmps76
    go_wp2_with (go_at_call 128; refine HH.out.mono ?_; rintro e w1 ⟨rfl, hf1⟩)
    go_ret
    exact ⟨now, 9, rfl, HT.out, h.fr (hf1.alloc _), ((Fr.refl _ _).same hf1).alloc _⟩
  · have hk := idx_lt hx
    rw [handleV_some hx hk] at HH
    have hn1 : 1 ≤ n := by
      rcases Int.lt_or_le n 1 with h' | h'
      · rw [idx_low h'] at hx; cases hx
      · exact h'
    have hin := objs_in (List.getElem_mem hk)
    rw [h.len] at hin
    have HHE : Hid (HeldBy now (objs now) n → FreeIs now n now 10) := fun hh => .inr (.inl ⟨by rw [hx]; simp, hh, rfl, rfl⟩)
    have HFR : Hid (∀ r, ¬ HeldBy now (objs now) n → Zeroed now r (leakZ1 (objs now)[k] ((objs now)[k]).span) → FreeIs now n r 0) := fun r h1 h2 => .inr (.inr ⟨k, hk, hx, h1, h2, rfl⟩)
    have HBO : Hid (∀ o ∈ objs now, o.block ≤ 32 ∧ 106 + 8 * (o.block + o.span) ≤ L ∧ o.ptrs < 8 * o.span ∧ o.span ≤ 4) := fun o ho => by
      have := objs_in ho
      have := nblk_le now.length
      have := h.len
      exact ⟨by omega, by omega, by omega, by omega⟩
    have HLEN : Hid (now.length = L) := h.len
    obtain ⟨o, ho⟩ : ∃ o, o = (objs now)[k] := ⟨_, rfl⟩
    rw [← ho] at HH hin HFR
    obtain ⟨b, sp, pt⟩ := o
    simp only at HH hin HFR
    obtain ⟨g1, g2, g3, g4, g5⟩ := hin
    have hnb := nblk_le now.length
    obtain ⟨l, hl⟩ : ∃ l, l = objs now := ⟨_, rfl⟩
    rw [← hl] at HWK HHE HFR HBO
    have hw1 : IntKind.u64.wrap n = n := by rw [IntKind.wrap_u64]; omega
    clear hx ho hl hk h
    go_enter Tryz.func76, Tryz.ntmps76
    go_wp2_with (go_at_call 128; refine HH.out.mono ?_; rintro e w1 ⟨rfl, hf1⟩)
    have hfo : Fr New w (w1.alloc (.cells #[.int .i64 b, .int .i64 sp, .int .i64 pt] 190)) := hf1.alloc _
    have hto : (w1.alloc (.cells #[.int .i64 b, .int .i64 sp, .int .i64 pt] 190)).heap[w1.heap.size]? = some (.cells #[.int .i64 b, .int .i64 sp, .int .i64 pt] 190 (0, 0)) := Go.Deep.blk_alloc_new w1 _
    have hgw1 : gn < w1.heap.size := (HCW.out w1 hf1).2.2.1
    obtain ⟨go, hgo⟩ : ∃ go, go = w1.heap.size := ⟨_, rfl⟩
    rw [← hgo] at hto hgw1 ⊢
    obtain ⟨wo, hwo⟩ : ∃ wo, wo = w1.alloc (.cells #[.int .i64 b, .int .i64 sp, .int .i64 pt] 190) := ⟨_, rfl⟩
    rw [← hwo] at hto hfo ⊢
    clear hgo hwo hf1
    go_loopg [7] 4 (fun gh t wr => ∃ r : Nat, r ≤ 4 ∧ gh = 4 - r ∧ t = .int .i64 r ∧ wr = wo ∧ ∀ r', r' < r → wd now (3 + r') ≠ n)
    case atStart => exact ⟨0, by omega, rfl, rfl, rfl, fun r' hr' => by omega⟩
    case round =>
      obtain ⟨r, hr4, rfl, rfl, hwr, hno⟩ := hrel
      obtain rfl := hwr.symm
      clear hwr
      have HNO : Hid (∀ r', r' < r → wd now (3 + r') ≠ n) := hno
      clear hno
      obtain ⟨c1, c2, c3, c4⟩ := HCW.out wo hfo
      by_cases hr : r < 4
      · have hc := c4 (3 + r) (by omega)
        obtain ⟨x, hxx⟩ : ∃ x, x = wd now (3 + r) := ⟨_, rfl⟩
        rw [← hxx] at hc
        by_cases he : x = n
        · have HT : Hid (FreeIs now n now 10) := HHE.out (.inl ⟨r, hr, hxx.symm.trans he⟩)
          subst he
          clear hxx c4
          go_wp2
          go_ret
          exact ⟨now, 10, rfl, HT.out, HRH.out _ hfo, (Fr.refl _ _).same hfo⟩
        · have hde : (x == n) = false := by simpa using he
          have HX : Hid (wd now (3 + r) ≠ n) := by rw [← hxx]; exact he
          clear hxx he c4
          go_wp2
          go_roundg (4 - (r + 1))
          case measure => omega
          case rel => exact ⟨r + 1, by omega, rfl, by go_num, rfl, fun r' hr' => by
            rcases Nat.lt_or_ge r' r with h' | h'
            · exact HNO.out r' h'
            · obtain rfl : r' = r := by omega
              exact HX.out⟩
      · obtain rfl : r = 4 := by omega
        have HWX : Hid (Calls Tryz.prog 126 #[.slice (some ⟨gn, 0, none⟩) L cn] wo fun e w' => ∃ vl vb, e = .returned (.tuple #[vl, vb]) ∧ LiesO w' vl l ∧ Fr New wo w') := HWK.out wo hfo
        clear c4
        go_wp2_with (go_at_call 126; refine HWX.out.mono ?_; rintro e w2 ⟨vl, vb, rfl, hlo, hf2⟩)
        have hto2 := hf2.heap hto id
        have hfo2 := hfo.same hf2
        have HV : Hid (∀ wr, Fr New w2 wr → LiesO wr vl l) := fun wr hf => hlo.fr hf (fun _ _ h => h)
        obtain ⟨av, cv, rfl, hll, hbo, hcl⟩ := hlo
        have HC : Hid (0 < l.length → ∃ g, av = some ⟨g, 0, none⟩ ∧ ∀ wr, Fr New w2 wr → ∀ i (hi : i < l.length), wr.cell? ⟨g, i * 3, none⟩ = some (.int .i64 (l[i]).block) ∧ wr.cell? ⟨g, i * 3 + 1, none⟩ = some (.int .i64 (l[i]).span) ∧ wr.cell? ⟨g, i * 3 + 2, none⟩ = some (.int .i64 (l[i]).ptrs)) := by
          intro hp
          obtain ⟨g, e, _, hc⟩ := hcl hp
          exact ⟨g, e, fun wr hf i hi => ⟨hf.cell (hc i hi).1 id, hf.cell (hc i hi).2.1 id, hf.cell (hc i hi).2.2 id⟩⟩
        clear hcl hbo
        go_loopg [10] l.length (fun gh t wr => ∃ i : Nat, i ≤ l.length ∧ gh = l.length - i ∧ t = .int .i64 i ∧ Fr New w2 wr ∧ ∀ i' (hi' : i' < l.length), i' < i → ∀ p, p < (l[i']).ptrs → wd now (pl l[i'] p) ≠ n)
        case atStart => exact ⟨0, by omega, rfl, rfl, Fr.refl _ _, fun i' hi' hh => by omega⟩
        case round =>
          obtain ⟨i, hil, rfl, rfl, hf3, hnoi⟩ := hrel
          have HNI : Hid (∀ i' (hi' : i' < l.length), i' < i → ∀ p, p < (l[i']).ptrs → wd now (pl l[i'] p) ≠ n) := hnoi
          clear hnoi
          by_cases hi : i < l.length
          · have hd0 : decide ((i : Int) < (l.length : Int)) = true := by simp; omega
            obtain ⟨g, rfl, hcells⟩ := HC.out (by omega)
            obtain ⟨hb1, hb2, hb3, hb4⟩ := HBO.out l[i] (List.getElem_mem _)
            obtain ⟨oi, hoi⟩ : ∃ oi, oi = l[i] := ⟨_, rfl⟩
            have HOI : Hid (oi = l[i]) := hoi
            have HCI : Hid (∀ wr, Fr New w2 wr → wr.cell? ⟨g, i * 3, none⟩ = some (.int .i64 oi.block) ∧ wr.cell? ⟨g, i * 3 + 1, none⟩ = some (.int .i64 oi.span) ∧ wr.cell? ⟨g, i * 3 + 2, none⟩ = some (.int .i64 oi.ptrs)) := by rw [hoi]; exact fun wr hf => hcells wr hf i hi
            rw [← hoi] at hb1 hb2 hb3 hb4
            clear hoi hcells
            go_wp2
            go_loopg [11] oi.ptrs (fun gh t wr => ∃ p : Nat, p ≤ oi.ptrs ∧ gh = oi.ptrs - p ∧ t = .int .i64 p ∧ Fr New w2 wr ∧ ∀ p', p' < p → wd now (pl oi p') ≠ n)
            case atStart => exact ⟨0, by omega, rfl, rfl, hf3, fun p' hp' => by omega⟩
            case round =>
              clear hf3
              obtain ⟨p, hpp, rfl, rfl, hf3, hnop⟩ := hrel
              have HNP : Hid (∀ p', p' < p → wd now (pl oi p') ≠ n) := hnop
              clear hnop
              obtain ⟨e0, e1, e2⟩ := HCI.out wr hf3
              by_cases hp : p < oi.ptrs
              · have hdp : decide ((p : Int) < (oi.ptrs : Int)) = true := by simp; omega
                have HPL : Hid (∀ w9, Calls Tryz.prog 129 #[.agg #[.int .i64 oi.block, .int .i64 oi.span, .int .i64 oi.ptrs], .int .i64 p] w9 fun e w' => e = .returned (.int .i64 ((pl oi p : Nat) : Int)) ∧ Fr New w9 w') := fun w9 => by
                  have := place_any oi p w9 (by omega) (by omega) (by omega)
                  rwa [show (106 + 8 * (oi.block : Int) + 1 + (p : Int)) = ((pl oi p : Nat) : Int) by unfold pl; omega] at this
                have hq : pl oi p < L := by unfold pl; omega
                obtain ⟨q, hqq⟩ : ∃ q, q = pl oi p := ⟨_, rfl⟩
                rw [← hqq] at HPL hq
                have HCQ : Hid (∀ w9, Fr New wr w9 → w9.cell? ⟨hb, 1, none⟩ = some (.slice (some ⟨gn, 0, none⟩) L cn) ∧ w9.cell? ⟨gn, q, none⟩ = some (.int .u64 (wd now q)) ∧ w9.cell? ⟨g, i * 3, none⟩ = some (.int .i64 oi.block) ∧ w9.cell? ⟨g, i * 3 + 1, none⟩ = some (.int .i64 oi.span) ∧ w9.cell? ⟨g, i * 3 + 2, none⟩ = some (.int .i64 oi.ptrs)) := fun w9 hf => by
                  obtain ⟨d1, d2, d3, d4⟩ := HCW.out w9 ((hfo2.same hf3).same hf)
                  obtain ⟨f0, f1, f2⟩ := HCI.out w9 (hf3.same hf)
                  exact ⟨d1, d4 q hq, f0, f1, f2⟩
                have hq0 : (0 : Int) ≤ (q : Int) := by omega
                have hq1 : (q : Int) < (L : Int) := by omega
                obtain ⟨x, hxx⟩ : ∃ x, x = wd now q := ⟨_, rfl⟩
                rw [← hxx] at HCQ
                have HXQ : Hid (x = wd now (pl oi p)) := by rw [← hqq]; exact hxx
                clear hqq hxx
                obtain ⟨k1, k2, k3, k4, k5⟩ := HCQ.out wr (Fr.refl _ _)
                by_cases he : x = n
                · have HT : Hid (FreeIs now n now 10) := HHE.out (.inr ⟨i, hi, p, by rw [← HOI.out]; exact hp, by rw [← HOI.out, ← HXQ.out]; exact he⟩)
                  subst he
                  go_upto_region 16 with fail
                  go_region_with (first
                    | (go_at_call 129; refine (HPL.out _).mono ?_; rintro e w9 ⟨rfl, hf9⟩; have hf9' : Fr New wr w9 := (by first | exact hf9 | exact (Fr.refl New wr).drew.same hf9); obtain ⟨m1, m2, m3, m4, m5⟩ := HCQ.out w9 hf9'))
                  all_goals (try go_wp2_with fail)
                  all_goals
                    go_ret
                    exact ⟨now, 10, rfl, HT.out, by first | exact HRH.out _ ((hfo2.same hf3).same hf9') | exact HRH.out _ ((hfo2.same hf3).same hf9').drew, by first | exact (Fr.refl _ _).same ((hfo2.same hf3).same hf9') | exact (Fr.refl _ _).same ((hfo2.same hf3).same hf9').drew⟩
                · have hde : (x == n) = false := by simpa using he
                  have HX : Hid (wd now (pl oi p) ≠ n) := by rw [← HXQ.out]; exact he
                  clear he
                  go_upto_region 16 with fail
                  go_region_with (first
                    | (go_at_call 129; refine (HPL.out _).mono ?_; rintro e w9 ⟨rfl, hf9⟩; have hf9' : Fr New wr w9 := (by first | exact hf9 | exact (Fr.refl New wr).drew.same hf9); obtain ⟨m1, m2, m3, m4, m5⟩ := HCQ.out w9 hf9'))
                  all_goals (try go_wp2_with fail)
                  all_goals
                    go_roundg (oi.ptrs - (p + 1))
                    case measure => omega
                    case rel => exact ⟨p + 1, by omega, rfl, by go_num, by first | exact hf3.same hf9' | exact (hf3.same hf9').drew, fun p' hp' => by
                      rcases Nat.lt_or_ge p' p with h' | h'
                      · exact HNP.out p' h'
                      · obtain rfl : p' = p := by omega
                        exact HX.out⟩
              · obtain rfl : p = oi.ptrs := by omega
                have hdp : decide ((oi.ptrs : Int) < (oi.ptrs : Int)) = false := by simp
                go_wp2
                go_roundg (l.length - (i + 1))
                case measure => omega
                case rel => exact ⟨i + 1, by omega, rfl, by go_num, hf3, fun i' hi' hlt p hp => by
                  rcases Nat.lt_or_ge i' i with h' | h'
                  · exact HNI.out i' hi' h' p hp
                  · obtain rfl : i' = i := by omega
                    rw [← HOI.out] at hp ⊢
                    exact HNP.out p hp⟩
          · obtain rfl : i = l.length := by omega
            have hd0 : decide ((l.length : Int) < (l.length : Int)) = false := by simp
            have HNH : Hid (¬ HeldBy now l n) := by
              rintro (⟨r, hr, he⟩ | ⟨i, hi, p, hp, he⟩)
              · exact HNO.out r hr he
              · exact HNI.out i hi (by omega) p hp he
            have hRH := HRH.out wr (hfo2.same hf3)
            have hto3 := hf3.heap hto2 id
            have hfw : Fr (fun k => k = gn) w wr := (Fr.refl _ _).same (hfo2.same hf3)
            go_wp2
            go_loopg [12] sp (fun gh t wr => ∃ (i : Nat) (cur : List Int), i ≤ sp ∧ gh = sp - i ∧ t = .int .i64 i ∧ RH hb gn cn L vw vs cur wr ∧ Fr (fun k => k = gn) w wr ∧ wr.heap[go]? = some (.cells #[.int .i64 b, .int .i64 sp, .int .i64 pt] 190 (0, 0)) ∧ Zeroed now cur (leakZ1 ⟨b, sp, pt⟩ i))
            case atStart => exact ⟨0, now, by omega, rfl, rfl, hRH, hfw, hto3, zeroed_self now leakZ1_zero⟩
            case round =>
              clear hRH hto3 hfw hf3
              obtain ⟨i, cur, his, rfl, rfl, hRH, hfw, hto3, hZ⟩ := hrel
              obtain ⟨ht, hz⟩ := block_cells hto3
              by_cases hi : i < sp
              · have hdi : decide ((i : Int) < (sp : Int)) = true := by simp; omega
                have hq : 106 + 8 * (b + i) < L := by omega
                have hc1 : wr.cell? ⟨hb, 1, none⟩ = some (.slice (some ⟨gn, 0, none⟩) L cn) := ((block_cells hRH.blk).1 1).trans rfl
                have hcq : wr.cell? ⟨gn, 106 + 8 * (b + i), none⟩ = some (.int .u64 (wd cur (106 + 8 * (b + i)))) := hRH.cell _ hq
                have hfq := hRH.free (106 + 8 * (b + i))
                have hput := hRH.put (106 + 8 * (b + i)) 0
                have hZn : Zeroed now (cur.set (106 + 8 * (b + i)) 0) (leakZ1 ⟨b, sp, pt⟩ (i + 1)) := (hZ.set (by rw [HLEN.out]; exact hq)).congr (fun q => leakZ1_succ (o := ⟨b, sp, pt⟩) q)
                have ht0 : wr.cell? ⟨go, 0, none⟩ = some (.int .i64 b) := (ht 0).trans rfl
                have ht1 : wr.cell? ⟨go, 1, none⟩ = some (.int .i64 sp) := (ht 1).trans rfl
                have hgne : ¬ go = gn := by omega
                clear ht hz
                go_upto_region 21 with fail
                go_region
                all_goals (try go_wp2)
                all_goals
                  go_roundg (sp - (i + 1))
                  case measure => omega
                  case rel => exact ⟨i + 1, _, by omega, rfl, by go_num, hput.fr (Fr.refl _ _).drew, (hfw.setCell (p := ⟨gn, 106 + 8 * (b + i), none⟩) (fun _ => rfl) _).drew, (Go.Deep.blk_setCell_other _ _ _ _ hgne).trans hto3, hZn⟩
              · obtain rfl : i = sp := by omega
                have hdi : decide ((i : Int) < (i : Int)) = false := by simp
                go_wp2
                go_ret
                exact ⟨cur, 0, rfl, HFR.out cur HNH.out hZ, hRH, hfw⟩
end Go.Proofs.YtbagcjlimdilpaaGreat
/- The walk of the document's Write. -/
namespace Go.Proofs.YtbagcjlimdilpaaGreat
open Go.RowKit

/-- what Write makes -/
def writeS (now : List Int) (n i v : Int) : List Int × Int := match idx (objs now) n with
  | none => (now, 9)
  | some k => if i < 0 ∨ 8 * (((objs now).getD k ⟨0, 0, 0⟩).span : Int) - 1 ≤ i then (now, 1)
    else if i < ((objs now).getD k ⟨0, 0, 0⟩).ptrs ∧ v ≠ 0 ∧ idx (objs now) v = none then (now, 7) else (now.set (pl ((objs now).getD k ⟨0, 0, 0⟩) i.toNat) v, 0)

set_option maxHeartbeats 4000000 in
set_option maxRecDepth 100000 in
theorem rwrite_any (hb gn cn L : Nat) (vw vs : Value) (now : List Int) (n i v : Int) (w : World) (h0 : -9223372036854775808 ≤ n) (h1 : n ≤ 9223372036854775807) (h : RH hb gn cn L vw vs now w) :
    Calls Tryz.prog 78 #[.pointer (some ⟨hb, 0, none⟩), .int .i64 n, .int .i64 i, .int .u64 v] w fun e w' => e = .returned (.int .i64 (writeS now n i v).2) ∧ RH hb gn cn L vw vs (writeS now n i v).1 w' ∧ Fr (fun k => k = gn) w w' := by
  have HH : Hid (Calls Tryz.prog 128 #[.pointer (some ⟨hb, 0, none⟩), .int .i64 n] w fun e w' => e = .returned (handleV (objs now) n) ∧ Fr New w w') := handle_any hb gn cn L vw vs now n w h0 h1 h
  obtain ⟨hl1, hl2, hl3⟩ := h.lens
  have hbw : hb < w.heap.size := lt_of_block h.blk
  have HWK : Hid (∀ w1, Fr New w w1 → Calls Tryz.prog 126 #[.slice (some ⟨gn, 0, none⟩) L cn] w1 fun e w' => ∃ vl vb, e = .returned (.tuple #[vl, vb]) ∧ LiesO w' vl (objs now) ∧ Fr New w1 w') := fun w1 hf => (h.fr hf).walk
  unfold writeS
  rcases hx : idx (objs now) n with _ | k
  · rw [handleV_none hx] at HH
    clear hx
    go_enter Tryz.func78, Tryz.ntmps78
    go_wp2_with (go_at_call 128; refine HH.out.mono ?_; rintro e w1 ⟨rfl, hf1⟩)
    go_ret
    exact ⟨rfl, h.fr (hf1.alloc _), ((Fr.refl _ _).same hf1).alloc _⟩
  · have hk := idx_lt hx
    rw [handleV_some hx hk] at HH
    have hin := objs_in (List.getElem_mem hk)
    have hnb := nblk_le now.length
    have hgd : (objs now).getD k ⟨0, 0, 0⟩ = (objs now)[k] := by simp [List.getD, hk]
    dsimp only
    rw [hgd]
    rw [h.len] at hin
    obtain ⟨o, ho⟩ : ∃ o, o = (objs now)[k] := ⟨_, rfl⟩
    rw [← ho] at HH hin ⊢
    obtain ⟨b, sp, pt⟩ := o
    simp only at HH hin ⊢
    obtain ⟨g1, g2, g3, g4, g5⟩ := hin
    clear hx hgd ho
    by_cases hi0 : i < 0
    · rw [if_pos (.inl hi0)]
      have hd : decide (i < 0) = true := by simpa using hi0
      go_enter Tryz.func78, Tryz.ntmps78
      go_wp2_with (go_at_call 128; refine HH.out.mono ?_; rintro e w1 ⟨rfl, hf1⟩)
      go_ret
      exact ⟨rfl, h.fr (hf1.alloc _), ((Fr.refl _ _).same hf1).alloc _⟩
    · have hd : decide (i < 0) = false := by simpa using hi0
      by_cases hi8 : 8 * (sp : Int) - 1 ≤ i
      · rw [if_pos (.inr hi8)]
        have hd8 : decide (8 * (sp : Int) - 1 ≤ i) = true := by simpa using hi8
        go_enter Tryz.func78, Tryz.ntmps78
        go_wp2_with (go_at_call 128; refine HH.out.mono ?_; rintro e w1 ⟨rfl, hf1⟩)
        go_ret
        exact ⟨rfl, h.fr (hf1.alloc _), ((Fr.refl _ _).same hf1).alloc _⟩
      · rw [if_neg (by omega)]
        obtain ⟨j, rfl⟩ := Int.eq_ofNat_of_zero_le (show 0 ≤ i by omega)
        simp only [Int.toNat_natCast]
        have hd8 : decide (8 * (sp : Int) - 1 ≤ (j : Int)) = false := by simp; omega
        have HPL : Hid (∀ w9, Calls Tryz.prog 129 #[.agg #[.int .i64 b, .int .i64 sp, .int .i64 pt], .int .i64 j] w9 fun e w' => e = .returned (.int .i64 ((pl ⟨b, sp, pt⟩ j : Nat) : Int)) ∧ Fr New w9 w') := fun w9 => by
          have := place_any ⟨b, sp, pt⟩ j w9 (by simp only; omega) (by omega) (by omega)
          rwa [show (106 + 8 * (b : Int) + 1 + (j : Int)) = ((pl ⟨b, sp, pt⟩ j : Nat) : Int) by unfold pl; simp only; omega] at this
        have hq : pl ⟨b, sp, pt⟩ j < L := by unfold pl; simp only; omega
        obtain ⟨q, hqq⟩ : ∃ q, q = pl ⟨b, sp, pt⟩ j := ⟨_, rfl⟩
        rw [← hqq] at HPL hq ⊢
        have HCW : Hid (∀ w1, Fr New w w1 → w1.cell? ⟨hb, 1, none⟩ = some (.slice (some ⟨gn, 0, none⟩) L cn) ∧ w1.cell? ⟨gn, q, none⟩ = some (.int .u64 (wd now q)) ∧ w1.frozen? ⟨gn, q, none⟩ = false ∧ hb < w1.heap.size ∧ gn < w1.heap.size ∧ gn < w.heap.size) := fun w1 hf => by
          have h' := h.fr hf
          obtain ⟨_, _, hcc⟩ := own_block h'.own rfl
          obtain ⟨_, _, hc0⟩ := own_block h.own rfl
          exact ⟨((block_cells h'.blk).1 1).trans rfl, h'.cell q hq, h'.free _, lt_of_block h'.blk, lt_of_block hcc, lt_of_block hc0⟩
        have hq0 : (0 : Int) ≤ (q : Int) := by omega
        have hq1 : (q : Int) < (L : Int) := by omega
        obtain ⟨l, hl⟩ : ∃ l, l = objs now := ⟨_, rfl⟩
        rw [← hl] at HWK ⊢
        clear hqq hl
        by_cases hjp : j < pt
        · have hdp : decide ((j : Int) < (pt : Int)) = true := by simp; omega
          by_cases hv : v = 0
          · subst hv
            rw [if_neg (by simp)]
            go_enter Tryz.func78, Tryz.ntmps78
            go_upto_region 9 with (first
              | (go_at_call 128; refine HH.out.mono ?_; rintro e w1 ⟨rfl, hf1⟩; obtain ⟨c1, c2, c3, c4, c5, c6⟩ := HCW.out w1 hf1)
              | (go_at_call 126; refine (HWK.out _ (hf1.alloc _)).mono ?_; rintro e w2 ⟨vl, vb, rfl, hlo, hf2⟩; obtain ⟨hcx, hzx⟩ := block_cells (hf2.heap (k := w1.heap.size) (Go.Deep.blk_alloc_new w1 _) id); have hf2' : Fr New w w2 := (hf1.alloc _).same hf2; obtain ⟨e1, e2, e3, e4, e5, e6⟩ := HCW.out w2 hf2'; have hs12 : w1.heap.size < w2.heap.size := lt_of_block (hf2.heap (k := w1.heap.size) (Go.Deep.blk_alloc_new w1 _) id))
              | fail)
            go_region_with (first
              | (go_at_call 129; refine (HPL.out _).mono ?_; rintro e w3 ⟨rfl, hf3⟩; have hf3' : Fr New w w3 := (by first | exact hf2'.same hf3 | exact hf2'.drew.same hf3); obtain ⟨d1, d2, d3, d4, d5, d6⟩ := HCW.out w3 hf3'))
            all_goals (try go_wp2_with fail)
            all_goals
              go_ret
              exact ⟨rfl, by first | exact (h.fr hf3').put q 0 | exact ((h.fr hf3').put q 0).fr (Fr.refl _ _).drew, by first | exact ((Fr.refl (fun k => k = gn) w).same hf3').setCell (p := ⟨gn, q, none⟩) (fun _ => rfl) _ | exact (((Fr.refl (fun k => k = gn) w).same hf3').setCell (p := ⟨gn, q, none⟩) (fun _ => rfl) _).drew⟩
          · have hdv : (v != 0) = true := by simpa using hv
            rcases hy : idx l v with _ | y
            · rw [if_pos ⟨by omega, hv, rfl⟩]
              have hfi := findI_none hy
              have HFI : Hid (∀ u w1, LiesO w1 u l → Calls Tryz.prog 130 #[u, .int .u64 v] w1 fun e w' => e = .returned (.int .i64 (-1)) ∧ w' = w1) := fun u w1 hu => by rw [← hfi]; exact find_any u l v w1 hu
              clear hfi hy
              go_enter Tryz.func78, Tryz.ntmps78
              go_wp2_with (first
                | (go_at_call 128; refine HH.out.mono ?_; rintro e w1 ⟨rfl, hf1⟩; obtain ⟨c1, c2, c3, c4, c5, c6⟩ := HCW.out w1 hf1)
                | (go_at_call 126; refine (HWK.out _ (hf1.alloc _)).mono ?_; rintro e w2 ⟨vl, vb, rfl, hlo, hf2⟩; obtain ⟨hcx, hzx⟩ := block_cells (hf2.heap (k := w1.heap.size) (Go.Deep.blk_alloc_new w1 _) id); have hf2' : Fr New w w2 := (hf1.alloc _).same hf2; obtain ⟨e1, e2, e3, e4, e5, e6⟩ := HCW.out w2 hf2'; have hs12 : w1.heap.size < w2.heap.size := lt_of_block (hf2.heap (k := w1.heap.size) (Go.Deep.blk_alloc_new w1 _) id))
                | (go_at_call 130; refine calls_same (HFI.out vl w2 hlo) ?_)
                | fail)
              go_ret
              exact ⟨rfl, h.fr hf2', (Fr.refl _ _).same hf2'⟩
            · rw [if_neg (by simp)]
              have hfi := findI_some hy
              have HFI : Hid (∀ u w1, LiesO w1 u l → Calls Tryz.prog 130 #[u, .int .u64 v] w1 fun e w' => e = .returned (.int .i64 y) ∧ w' = w1) := fun u w1 hu => by rw [← hfi]; exact find_any u l v w1 hu
              clear hfi hy
              go_enter Tryz.func78, Tryz.ntmps78
              go_upto_region 9 with (first
                | (go_at_call 128; refine HH.out.mono ?_; rintro e w1 ⟨rfl, hf1⟩; obtain ⟨c1, c2, c3, c4, c5, c6⟩ := HCW.out w1 hf1)
                | (go_at_call 126; refine (HWK.out _ (hf1.alloc _)).mono ?_; rintro e w2 ⟨vl, vb, rfl, hlo, hf2⟩; obtain ⟨hcx, hzx⟩ := block_cells (hf2.heap (k := w1.heap.size) (Go.Deep.blk_alloc_new w1 _) id); have hf2' : Fr New w w2 := (hf1.alloc _).same hf2; obtain ⟨e1, e2, e3, e4, e5, e6⟩ := HCW.out w2 hf2'; have hs12 : w1.heap.size < w2.heap.size := lt_of_block (hf2.heap (k := w1.heap.size) (Go.Deep.blk_alloc_new w1 _) id))
                | (go_at_call 130; refine calls_same (HFI.out vl w2 hlo) ?_)
                | fail)
              go_region_with (first
                | (go_at_call 129; refine (HPL.out _).mono ?_; rintro e w3 ⟨rfl, hf3⟩; have hf3' : Fr New w w3 := (by first | exact hf2'.same hf3 | exact hf2'.drew.same hf3); obtain ⟨d1, d2, d3, d4, d5, d6⟩ := HCW.out w3 hf3'))
              all_goals (try go_wp2_with fail)
              all_goals
                go_ret
                exact ⟨rfl, by first | exact (h.fr hf3').put q v | exact ((h.fr hf3').put q v).fr (Fr.refl _ _).drew, by first | exact ((Fr.refl (fun k => k = gn) w).same hf3').setCell (p := ⟨gn, q, none⟩) (fun _ => rfl) _ | exact (((Fr.refl (fun k => k = gn) w).same hf3').setCell (p := ⟨gn, q, none⟩) (fun _ => rfl) _).drew⟩
        · have hdp : decide ((j : Int) < (pt : Int)) = false := by simp; omega
          rw [if_neg (by omega)]
          go_enter Tryz.func78, Tryz.ntmps78
          go_upto_region 9 with (first
            | (go_at_call 128; refine HH.out.mono ?_; rintro e w1 ⟨rfl, hf1⟩; obtain ⟨c1, c2, c3, c4, c5, c6⟩ := HCW.out w1 hf1)
            | (go_at_call 126; refine (HWK.out _ (hf1.alloc _)).mono ?_; rintro e w2 ⟨vl, vb, rfl, hlo, hf2⟩; obtain ⟨hcx, hzx⟩ := block_cells (hf2.heap (k := w1.heap.size) (Go.Deep.blk_alloc_new w1 _) id); have hf2' : Fr New w w2 := (hf1.alloc _).same hf2; obtain ⟨e1, e2, e3, e4, e5, e6⟩ := HCW.out w2 hf2'; have hs12 : w1.heap.size < w2.heap.size := lt_of_block (hf2.heap (k := w1.heap.size) (Go.Deep.blk_alloc_new w1 _) id))
            | fail)
          go_region_with (first
            | (go_at_call 129; refine (HPL.out _).mono ?_; rintro e w3 ⟨rfl, hf3⟩; have hf3' : Fr New w w3 := (by first | exact hf2'.same hf3 | exact hf2'.drew.same hf3); obtain ⟨d1, d2, d3, d4, d5, d6⟩ := HCW.out w3 hf3'))
          all_goals (try go_wp2_with fail)
          all_goals
            go_ret
            exact ⟨rfl, by first | exact (h.fr hf3').put q v | exact ((h.fr hf3').put q v).fr (Fr.refl _ _).drew, by first | exact ((Fr.refl (fun k => k = gn) w).same hf3').setCell (p := ⟨gn, q, none⟩) (fun _ => rfl) _ | exact (((Fr.refl (fun k => k = gn) w).same hf3').setCell (p := ⟨gn, q, none⟩) (fun _ => rfl) _).drew⟩
end Go.Proofs.YtbagcjlimdilpaaGreat
