/- Texts that follow one another, joined. -/
import Derived.Test.YtbagcjlimdilpaaGreatHhJ3
import Derived.Deep.CutRange
import Derived.Test.YtbagcjlimdilpaaGreatHhJ4
import Derived.Test.YtbagcjlimdilpaaGreatHhJ1
/- Walks of the program's find: what stands at a block. -/
namespace Go.Proofs.YtbagcjlimdilpaaGreat
open Go.RowKit

/-- what a walk finds, as a value -/
abbrev thingV (k b s p : Int) : Value := .agg #[.int .i64 k, .int .i64 b, .int .i64 s, .int .i64 p]
/-- what stands at block b, as a value -/
def slotV (s : Option (Option Ob)) (b : Nat) : Value :=
  match s with
  | none => thingV 0 ((b + 1 : Nat) : Int) 1 0
  | some (some o) => thingV 1 ((b + 1 : Nat) : Int) o.span o.ptrs
  | some none => thingV 2 ((b + 1 : Nat) : Int) 1 0

theorem slot_case {ws : List Int} {b n : Nat} (hL : ws.length = 106 + 8 * n) (h0 : wd ws (106 + 8 * b) ≠ 0) :
    (hdr1 (wd ws (106 + 8 * b)) ∧ b + spanOf (wd ws (106 + 8 * b)) ≤ n ∧ slotAt ws b = some (some ⟨b, spanOf (wd ws (106 + 8 * b)), ptrsOf (wd ws (106 + 8 * b))⟩)) ∨
    (hdr1 (wd ws (106 + 8 * b)) ∧ n < b + spanOf (wd ws (106 + 8 * b)) ∧ slotAt ws b = some none) ∨ (¬ hdr1 (wd ws (106 + 8 * b)) ∧ slotAt ws b = some none) := by
  obtain ⟨h, hh⟩ : ∃ h, h = wd ws (106 + 8 * b) := ⟨_, rfl⟩
  unfold slotAt
  rw [← hh] at h0 ⊢
  rw [if_neg h0]
  by_cases h1 : hdr1 h
  · by_cases h2 : b + spanOf h ≤ n
    · refine .inl ⟨h1, h2, ?_⟩
      rw [if_pos (okB_iff.2 ⟨h1.1, h1.2.1, h1.2.2, by omega⟩)]
    · refine .inr (.inl ⟨h1, by omega, ?_⟩)
      rw [if_neg]
      intro hk
      have := (okB_iff.1 hk).2.2.2
      omega
  · refine .inr (.inr ⟨h1, ?_⟩)
    rw [if_neg]
    intro hk
    have := okB_iff.1 hk
    exact h1 ⟨this.1, this.2.1, this.2.2.1⟩

set_option maxHeartbeats 1000000 in
set_option maxRecDepth 100000 in
theorem find_thing (t : Nat) (x : Value) (fL fR : Nat) (y : Value) (L n b : Nat) (ws : List Int) (w : World) (hL : ws.length = L) (hn : L = 106 + 8 * n) (hn32 : n ≤ 32) (hb : b < n) (hrow : RowAt w t x fL fR y ws) :
    Calls Tryz.prog 148 #[.iface t x, .int .i64 ((b + 1 : Nat) : Int), .int .i64 (n : Int)] w fun e w' => e = .returned (slotV (slotAt ws b) b) ∧ Fr New w w' := by
  have HSC := slot_case (ws := ws) (b := b) (n := n) (by omega)
  have HF : Hid (wd ws (106 + 8 * b) = 0 → slotAt ws b = none) := slot_free
  obtain ⟨h, hh⟩ : ∃ h, h = wd ws (106 + 8 * b) := ⟨_, rfl⟩
  rw [← hh] at HSC HF
  have HP : Hid (∀ w, Calls Tryz.prog 118 #[.int .i64 ((b + 1 : Nat) : Int)] w fun e w' => e = .returned (.int .i64 ((106 + 8 * b : Nat) : Int)) ∧ w' = w) := fun w => place_of b w (by omega)
  have HR : Hid (∀ w', Fr New w w' → Calls Tryz.prog fR #[y, .int .i64 ((106 + 8 * b : Nat) : Int)] w' fun e w'' => e = .returned (.int .u64 h) ∧ w'' = w') := fun w' hf => by rw [hh]; exact hrow.read w' hf _ (by omega)
  obtain ⟨B, hB⟩ : ∃ B : Nat, B = b + 1 := ⟨_, rfl⟩
  obtain ⟨q, hq⟩ : ∃ q : Nat, q = 106 + 8 * b := ⟨_, rfl⟩
  rw [← hq] at HP HR
  have HB : Hid (B = b + 1) := hB
  rw [← hB] at HP ⊢
  have HM : Hid (∀ w', Fr New w w' → (method 356 t x "Read").run Tryz.prog w' = .ok (fR, y) w') := hrow.mread
  have ha := hrow.aread
  have hcf := hrow.cread
  have hBn : B ≤ n := by omega
  have hmf : ∀ (fn : Fn) (first cap : Array Value) (w : World), (Instr.makeFunc fn first cap).run Tryz.prog w = .ok (.func fn first cap) w := fun _ _ _ _ => rfl
  clear hB hq hh hrow hL hn
  by_cases h0 : h = 0
  · rw [HF.out h0]
    subst h0
    clear HSC HF
    go_enter Tryz.func148, Tryz.ntmps148
    go_upto_region 1 with fail
    go_region_with (first
      | (go_at_call 118; refine calls_same (HP.out _) ?_)
      | (rw [HM.out]; rotate_left 1; focus (repeat (first | exact Fr.refl _ _ | assumption | apply Fr.drew | apply Fr.alloc)))
      | (refine calls_same (HR.out _ (by repeat (first | exact Fr.refl _ _ | assumption | apply Fr.drew | apply Fr.alloc))) ?_))
    all_goals go_wp2_with fail
    all_goals exact bodyPost_ret (v := slotV none b) (by simp [results, Tryz.results148, go_sem, slotV, thingV, HB.out]) rfl ⟨rfl, by first | exact ((Fr.refl _ _).alloc _).drew | exact (Fr.refl _ _).alloc _⟩
  rcases HSC h0 with ⟨h1, h2, h3⟩ | ⟨h1, h2, h3⟩ | ⟨h1, h3⟩
  · have HY : Hid (∀ w, Calls Tryz.prog 157 #[.int .u64 h] w fun e w' => e = .returned (.tuple #[.int .i64 (spanOf h), .int .i64 (ptrsOf h), .bool true]) ∧ w' = w) := fun w => parse_yes h w h1
    have hz : (h == 0) = false := by simpa using h0
    obtain ⟨s, hs⟩ : ∃ s, s = spanOf h := ⟨_, rfl⟩
    obtain ⟨p, hp⟩ : ∃ p, p = ptrsOf h := ⟨_, rfl⟩
    rw [← hs, ← hp] at h3 HY
    rw [← hs] at h2
    rw [h3]
    have hd : decide ((n : Int) < (B : Int) + s - 1) = false := by have := HB.out; simp; omega
    have hb32 : s ≤ 32 := by omega
    clear HSC HF h0 h1 h2 h3 hs hp
    go_enter Tryz.func148, Tryz.ntmps148
    go_upto_region 1 with fail
    go_region_with (first
      | (go_at_call 118; refine calls_same (HP.out _) ?_)
      | (rw [HM.out]; rotate_left 1; focus (repeat (first | exact Fr.refl _ _ | assumption | apply Fr.drew | apply Fr.alloc)))
      | (refine calls_same (HR.out _ (by repeat (first | exact Fr.refl _ _ | assumption | apply Fr.drew | apply Fr.alloc))) ?_))
    all_goals go_wp2_with (go_at_call 157; refine calls_same (HY.out _) ?_)
    all_goals exact bodyPost_ret (v := slotV (some (some ⟨b, s, p⟩)) b) (by simp [results, Tryz.results148, go_sem, slotV, thingV, HB.out]) rfl ⟨rfl, by first | exact ((Fr.refl _ _).alloc _).drew | exact (Fr.refl _ _).alloc _⟩
  · have HY : Hid (∀ w, Calls Tryz.prog 157 #[.int .u64 h] w fun e w' => e = .returned (.tuple #[.int .i64 (spanOf h), .int .i64 (ptrsOf h), .bool true]) ∧ w' = w) := fun w => parse_yes h w h1
    have hz : (h == 0) = false := by simpa using h0
    have hs4 : spanOf h ≤ 4 := by obtain ⟨a1, a2, _⟩ := h1; unfold spanOf; omega
    obtain ⟨s, hs⟩ : ∃ s, s = spanOf h := ⟨_, rfl⟩
    obtain ⟨p, hp⟩ : ∃ p, p = ptrsOf h := ⟨_, rfl⟩
    rw [← hs, ← hp] at HY
    rw [← hs] at h2 hs4
    rw [h3]
    have hd : decide ((n : Int) < (B : Int) + s - 1) = true := by have := HB.out; simp; omega
    clear HSC HF h0 h1 h2 h3 hs hp
    go_enter Tryz.func148, Tryz.ntmps148
    go_upto_region 1 with fail
    go_region_with (first
      | (go_at_call 118; refine calls_same (HP.out _) ?_)
      | (rw [HM.out]; rotate_left 1; focus (repeat (first | exact Fr.refl _ _ | assumption | apply Fr.drew | apply Fr.alloc)))
      | (refine calls_same (HR.out _ (by repeat (first | exact Fr.refl _ _ | assumption | apply Fr.drew | apply Fr.alloc))) ?_))
    all_goals go_wp2_with (go_at_call 157; refine calls_same (HY.out _) ?_)
    all_goals exact bodyPost_ret (v := slotV (some none) b) (by simp [results, Tryz.results148, go_sem, slotV, thingV, HB.out]) rfl ⟨rfl, by first | exact ((Fr.refl _ _).alloc _).drew | exact (Fr.refl _ _).alloc _⟩
  · have HY : Hid (∀ w, Calls Tryz.prog 157 #[.int .u64 h] w fun e w' => e = .returned (.tuple #[.int .i64 0, .int .i64 0, .bool false]) ∧ w' = w) := fun w => parse_no h w h1
    have hz : (h == 0) = false := by simpa using h0
    rw [h3]
    clear HSC HF h0 h1 h3
    go_enter Tryz.func148, Tryz.ntmps148
    go_upto_region 1 with fail
    go_region_with (first
      | (go_at_call 118; refine calls_same (HP.out _) ?_)
      | (rw [HM.out]; rotate_left 1; focus (repeat (first | exact Fr.refl _ _ | assumption | apply Fr.drew | apply Fr.alloc)))
      | (refine calls_same (HR.out _ (by repeat (first | exact Fr.refl _ _ | assumption | apply Fr.drew | apply Fr.alloc))) ?_))
    all_goals go_wp2_with (go_at_call 157; refine calls_same (HY.out _) ?_)
    all_goals exact bodyPost_ret (v := slotV (some none) b) (by simp [results, Tryz.results148, go_sem, slotV, thingV, HB.out]) rfl ⟨rfl, by first | exact ((Fr.refl _ _).alloc _).drew | exact (Fr.refl _ _).alloc _⟩
end Go.Proofs.YtbagcjlimdilpaaGreat
/- The document's heap in memory; walks of its handle, Read, Root, SetRoot. -/
namespace Go.Proofs.YtbagcjlimdilpaaGreat
open Go.RowKit

/-- the document's heap at block hb: its words now, in a row of their own -/
structure RH (hb gn cn L : Nat) (vw vs : Value) (now : List Int) (w : World) : Prop where
  blk : w.heap[hb]? = some (.cells #[vw, .slice (some ⟨gn, 0, none⟩) L cn, vs] 141 (0, 0))
  own : w.ownsRow 0 50 1 (.slice (some ⟨gn, 0, none⟩) L cn) L (now.map (Value.int .u64))
  len : now.length = L
  n0 : nblk L ≠ 0
theorem RH.fr {hb gn cn L : Nat} {vw vs : Value} {now : List Int} {w w' : World} (h : RH hb gn cn L vw vs now w) (hf : Fr New w w') : RH hb gn cn L vw vs now w' := ⟨hf.heap h.blk id, hf.owns h.own (fun _ _ h => h), h.len, h.n0⟩
theorem RH.cell {hb gn cn L : Nat} {vw vs : Value} {now : List Int} {w : World} (h : RH hb gn cn L vw vs now w) (k : Nat) (hk : k < L) : w.cell? ⟨gn, k, none⟩ = some (.int .u64 (wd now k)) := by
  have hk' : k < now.length := by rw [h.len]; exact hk
  rw [h.own.cellAt k (by omega)]
  unfold wd
  simp [hk', List.getD]
theorem RH.free {hb gn cn L : Nat} {vw vs : Value} {now : List Int} {w : World} (h : RH hb gn cn L vw vs now w) (k : Nat) : w.frozen? ⟨gn, k, none⟩ = false := h.own.frozenAt k
theorem RH.rowU {hb gn cn L : Nat} {vw vs : Value} {now : List Int} {w : World} (h : RH hb gn cn L vw vs now w) : RowU w (some ⟨gn, 0, none⟩) now := rowU_own h.own
theorem RH.put {hb gn cn L : Nat} {vw vs : Value} {now : List Int} {w : World} (h : RH hb gn cn L vw vs now w) (k : Nat) (y : Int) : RH hb gn cn L vw vs (now.set k y) (w.setCell ⟨gn, k, none⟩ (.int .u64 y)) := by
  have hf : Fr (fun j => j = gn) w (w.setCell ⟨gn, k, none⟩ (.int .u64 y)) := (Fr.refl (fun j => j = gn) w).setCell (p := ⟨gn, k, none⟩) (fun _ => rfl) _
  refine ⟨hf.heap h.blk (fun he => ?_), by rw [List.map_set]; exact (h.own.stored k (.int .u64 y)).1, by simpa using h.len, h.n0⟩
  obtain ⟨_, c, hc⟩ := own_block h.own rfl
  exact type_ne h.blk hc (by decide) he
theorem RH.lens {hb gn cn L : Nat} {vw vs : Value} {now : List Int} {w : World} (h : RH hb gn cn L vw vs now w) : 114 ≤ L ∧ L ≤ 362 ∧ L ≤ cn := by
  obtain ⟨h1, h2, h3⟩ := nblk_some h.n0
  refine ⟨by omega, by omega, ?_⟩
  rcases h.own.2 with ⟨h', _⟩ | ⟨g', cap', cur', h', _, _, hc, _⟩
  · cases h'
  · simp only [Value.slice.injEq, Option.some.injEq, Addr.mk.injEq, and_true, true_and] at h'
    omega
theorem RH.walk {hb gn cn L : Nat} {vw vs : Value} {now : List Int} {w : World} (h : RH hb gn cn L vw vs now w) :
    Calls Tryz.prog 126 #[.slice (some ⟨gn, 0, none⟩) L cn] w fun e w' => ∃ vl vb, e = .returned (.tuple #[vl, vb]) ∧ LiesO w' vl (objs now) ∧ Fr New w w' := by
  have hl := h.len
  have := walk_any (some ⟨gn, 0, none⟩) cn now w (by rw [hl]; exact h.n0) h.rowU
  rw [hl] at this
  refine this.mono ?_
  rintro e w' ⟨vl, vb, rfl, h1, _, h3⟩
  exact ⟨vl, vb, rfl, lies_objs h1, h3⟩
theorem idx_low {l : List Ob} {n : Int} (h : n < 1) : idx l n = none := idx_no (fun i hi => by omega)

/-- what 'handle' tells -/
def handleV (l : List Ob) (n : Int) : Value := match idx l n with
  | some k => .tuple #[obV (l.getD k ⟨0, 0, 0⟩), .bool true]
  | none => .tuple #[.agg #[.int .i64 0, .int .i64 0, .int .i64 0], .bool false]
theorem handleV_none {l : List Ob} {n : Int} (h : idx l n = none) : handleV l n = .tuple #[.agg #[.int .i64 0, .int .i64 0, .int .i64 0], .bool false] := by unfold handleV; rw [h]
theorem handleV_some {l : List Ob} {n : Int} {k : Nat} (h : idx l n = some k) (hk : k < l.length) : handleV l n = .tuple #[obV l[k], .bool true] := by unfold handleV; rw [h]; simp [List.getD, hk]

set_option maxHeartbeats 1000000 in
set_option maxRecDepth 100000 in
theorem handle_any (hb gn cn L : Nat) (vw vs : Value) (now : List Int) (n : Int) (w : World) (h0 : -9223372036854775808 ≤ n) (h1 : n ≤ 9223372036854775807) (h : RH hb gn cn L vw vs now w) :
    Calls Tryz.prog 128 #[.pointer (some ⟨hb, 0, none⟩), .int .i64 n] w fun e w' => e = .returned (handleV (objs now) n) ∧ Fr New w w' := by
  obtain ⟨hcb, hzb⟩ := block_cells h.blk
  have hbw : hb < w.heap.size := lt_of_block h.blk
  have hc1 : w.cell? ⟨hb, 1, none⟩ = some (.slice (some ⟨gn, 0, none⟩) L cn) := (hcb 1).trans rfl
  have HW : Hid (∀ o, Calls Tryz.prog 126 #[.slice (some ⟨gn, 0, none⟩) L cn] (w.alloc o) fun e w' => ∃ vl vb, e = .returned (.tuple #[vl, vb]) ∧ LiesO w' vl (objs now) ∧ Fr New (w.alloc o) w') := fun o => (h.fr ((Fr.refl _ _).alloc o)).walk
  obtain ⟨l, hl⟩ : ∃ l, l = objs now := ⟨_, rfl⟩
  rw [← hl] at HW ⊢
  clear hcb hzb hl h
  by_cases hn : n < 1
  · rw [handleV_none (idx_low hn)]
    go_enter Tryz.func128, Tryz.ntmps128
    go_wp2_with (go_at_call 126; refine (HW.out _).mono ?_; rintro e w1 ⟨vl, vb, rfl, hlo, hf1⟩; obtain ⟨hcr, hzr⟩ := block_cells (hf1.heap (k := w.heap.size) (Go.Deep.blk_alloc_new w _) id))
    refine bodyPost_ret (v := .tuple #[.agg #[.int .i64 0, .int .i64 0, .int .i64 0], .bool false]) (by simp [results, Tryz.results128, go_sem, hcr]) rfl ⟨rfl, ?_⟩
    have hf : Fr New w w1 := ((Fr.refl _ _).alloc _).same hf1
    iterate 3 refine Fr.setCell ?_ (fun h => absurd h (by simp)) _
    exact hf
  · have hw1 : IntKind.u64.wrap n = n := by rw [IntKind.wrap_u64]; omega
    rcases hx : idx l n with _ | k
    · rw [handleV_none hx]
      have hfi := findI_none hx
      have HFI : Hid (∀ v w1, LiesO w1 v l → Calls Tryz.prog 130 #[v, .int .u64 n] w1 fun e w' => e = .returned (.int .i64 (-1)) ∧ w' = w1) := fun v w1 hv => by rw [← hfi]; exact find_any v l n w1 hv
      clear hfi hx
      go_enter Tryz.func128, Tryz.ntmps128
      go_wp2_with (first
        | (go_at_call 126; refine (HW.out _).mono ?_; rintro e w1 ⟨vl, vb, rfl, hlo, hf1⟩; obtain ⟨hcr, hzr⟩ := block_cells (hf1.heap (k := w.heap.size) (Go.Deep.blk_alloc_new w _) id))
        | (go_at_call 130; refine calls_same (HFI.out vl w1 hlo) ?_))
      refine bodyPost_ret (v := .tuple #[.agg #[.int .i64 0, .int .i64 0, .int .i64 0], .bool false]) (by simp [results, Tryz.results128, go_sem, hcr]) rfl ⟨rfl, ?_⟩
      have hf : Fr New w w1 := ((Fr.refl _ _).alloc _).same hf1
      iterate 3 refine Fr.setCell ?_ (fun h => absurd h (by simp)) _
      exact hf
    · have hk := idx_lt hx
      rw [handleV_some hx hk]
      have hfi := findI_some hx
      have HFI : Hid (∀ v w1, LiesO w1 v l → Calls Tryz.prog 130 #[v, .int .u64 n] w1 fun e w' => e = .returned (.int .i64 k) ∧ w' = w1) := fun v w1 hv => by rw [← hfi]; exact find_any v l n w1 hv
      have hd : decide ((k : Int) < (l.length : Int)) = true := by simp; omega
      clear hfi hx
      go_enter Tryz.func128, Tryz.ntmps128
      go_wp2_with (first
        | (go_at_call 126; refine (HW.out _).mono ?_; rintro e w1 ⟨vl, vb, rfl, hlo, hf1⟩; obtain ⟨hcr, hzr⟩ := block_cells (hf1.heap (k := w.heap.size) (Go.Deep.blk_alloc_new w _) id))
        | (go_at_call 130; refine calls_same (HFI.out vl w1 hlo) ?_; obtain ⟨av, cv, rfl, _, _, hcl⟩ := hlo; obtain ⟨gl, rfl, _, hcc⟩ := hcl (by omega); obtain ⟨e0, e1, e2⟩ := hcc k hk))
      refine bodyPost_ret (v := .tuple #[obV l[k], .bool true]) (by simp [results, Tryz.results128, go_sem, hcr]) rfl ⟨rfl, ?_⟩
      have hf : Fr New w w1 := ((Fr.refl _ _).alloc _).same hf1
      iterate 3 refine Fr.setCell ?_ (fun h => absurd h (by simp)) _
      exact hf
end Go.Proofs.YtbagcjlimdilpaaGreat
