/- Walks of a story's play: a word is written. -/
import Derived.Test.YtbagcjlimdilpabGreatKtJ18
import Derived.Deep.RegionHeld3
namespace Go.Proofs.YtbagcjlimdilpabGreat
open Go.RowKit Go.Maps

/-- what a play makes of a story that writes a word -/
def PlayedW (F : Nat → Prop) (sb n : Nat) (ws now : List Int) (sts : List St) (w w' : World) : Prop := ∃ now', Story F sb n ws now' sts w' ∧ Fr F w w' ∧ objs now' = objs now ∧ ∀ q, q < 106 → wd now' q = wd now q
theorem PlayedW.played {F : Nat → Prop} {sb n : Nat} {ws now : List Int} {sts : List St} {w w' : World} (h : PlayedW F sb n ws now sts w w') : Played F sb n sts w w' := by
  obtain ⟨now', q1, q2, _⟩ := h
  exact ⟨F, ws, now', sts, q1, q2, fun k hk => .inl hk, by omega⟩
set_option maxHeartbeats 1000000 in
set_option maxRecDepth 100000 in
theorem play_write_d3 (F : Nat → Prop) (sb n : Nat) (ws now : List Int) (sts : List St) (what a b c : Int) (w : World) (hw : I64 what) (ha : I64 a) (hb : I64 b)  (hd : ∀ (hk : pickN a (things now).length < (things now).length), ¬ pickN b ((things now)[pickN a (things now).length]).2.length < ((things now)[pickN a (things now).length]).1.ptrs) (h : Story F sb n ws now sts w) (hne : (things now).length ≠ 0) (hv : pickN what 8 = 3) :
    Calls Tryz.prog 5 #[.pointer (some ⟨sb, 0, none⟩), .int .i64 what, .int .i64 a, .int .i64 b, .int .i64 c] w fun e w' => e = .returned (.bool true) ∧ PlayedW F sb n ws now sts w w' := by
  obtain ⟨hb', tb, cb, mb, g, vs, vn, vk, un, uk, S, hF⟩ := h
  obtain ⟨l, hl⟩ : ∃ l, l = things now := ⟨_, rfl⟩
  have HL : Hid (l = things now) := hl
  have tn : ThAt w vn l un := by rw [hl]; exact S.tn
  rw [← hl] at hne
  have hk0 := pickN_lt a hne
  obtain ⟨k, hkd⟩ : ∃ k, k = pickN a l.length := ⟨_, rfl⟩
  have hk : k < l.length := by rw [hkd]; exact hk0
  have hm32 : l.length ≤ 32 := tn.n
  obtain ⟨g2, cv, gi, ci, hvn, hg2, d0, d1, d2, d3, hrow, huk, hfrz, hgi⟩ := tn.at' k hk
  have hc2 := S.c2
  have hc0 := S.c0
  rw [hvn] at hc2
  have HPA : Hid (∀ w1, Calls Tryz.prog 13 #[.int .i64 a, .int .i64 4] w1 fun e w' => e = .returned (.int .i64 (pickN a 4 : Nat)) ∧ w' = w1) := fun w1 => pickN_any a 4 w1 ha (by omega) (by omega)
  have HPM : Hid (∀ w1, Calls Tryz.prog 13 #[.int .i64 a, .int .i64 (l.length : Int)] w1 fun e w' => e = .returned (.int .i64 (k : Int)) ∧ w' = w1) := fun w1 => by rw [hkd]; exact pickN_any a l.length w1 ha (by omega) (by omega)
  have HPW : Hid (∀ w1, Calls Tryz.prog 13 #[.int .i64 what, .int .i64 8] w1 fun e w' => e = .returned (.int .i64 3) ∧ w' = w1) := fun w1 => by
    have := pickN_any what 8 w1 hw (by omega) (by omega)
    rwa [hv] at this
  have hq4 := pickN_lt a (n := 4) (by omega)
  obtain ⟨q, hq⟩ : ∃ q : Nat, q = pickN a 4 := ⟨_, rfl⟩
  rw [← hq] at HPA hq4
  have hfit := tn.fit _ (List.getElem_mem hk)
  obtain ⟨x, hx⟩ : ∃ x, x = l[k] := ⟨_, rfl⟩
  have HX : Hid (x = l[k]) := hx
  rw [← hx] at d0 d1 d2 d3 hrow hfit huk
  obtain ⟨⟨xb, xs, xp⟩, xw⟩ := x
  simp only at d0 d1 d2 d3 hrow hfit huk
  obtain ⟨hf1, hx1, hx4, hxp, hx32⟩ := hfit
  obtain ⟨B, hB⟩ : ∃ B : Nat, B = xb + 1 := ⟨_, rfl⟩
  rw [← hB] at d0
  have HB : Hid (B = xb + 1) := hB
  obtain ⟨M, hM⟩ : ∃ M : Nat, M = xw.length := ⟨_, rfl⟩
  rw [← hM] at d3
  have HM : Hid (M = xw.length ∧ xw.length = 8 * xs - 1) := ⟨hM, hf1⟩
  have hB32 : B ≤ 32 := by omega
  have hM31 : M ≤ 31 := by omega
  have hM1 : 7 ≤ M := by omega
  have hsbw : sb < w.heap.size := lt_of_block S.blk
  have hiM := pickN_lt b (n := M) (by omega)
  have HPB : Hid (∀ w1, Calls Tryz.prog 13 #[.int .i64 b, .int .i64 (M : Int)] w1 fun e w' => e = .returned (.int .i64 (pickN b M : Nat)) ∧ w' = w1) := fun w1 => pickN_any b M w1 hb (by omega) (by omega)
  obtain ⟨i, hi⟩ : ∃ i : Nat, i = pickN b M := ⟨_, rfl⟩
  rw [← hi] at HPB hiM
  have hlk : pickN a (things now).length < (things now).length := by rw [← hl, ← hkd]; exact hk
  have hkk : k = pickN a (things now).length := by rw [hkd, hl]
  have hdd := hd hlk
  have hlx : ∀ hk' : pickN a (things now).length < (things now).length, (things now)[pickN a (things now).length] = ((⟨xb, xs, xp⟩ : Ob), xw) := fun hk' => by
    rw [hx]
    simp only [hkk, hl]
  rw [hlx hlk] at hdd
  simp only [← hM, ← hi] at hdd
  have hipd : decide (i < xp) = false := by simpa using hdd
  have HU : Hid (U (IntKind.u64.wrap c)) := wrapU c
  have hlT : k < (things now).length := by rw [← hl]; exact hk
  have hTk : (things now)[k] = ((⟨xb, xs, xp⟩ : Ob), xw) := by rw [hx]; simp only [hl]
  have HY : Hid (i < ((things now)[k]).1.ptrs → (IntKind.u64.wrap c) = 0 ∨ Hnd (objs now) (IntKind.u64.wrap c)) := by
    rw [hTk]
    show i < xp → _
    exact fun h => absurd h hdd
  have HI : Hid (i < 8 * ((things now)[k]).1.span - 1) := by
    rw [hTk]
    show i < 8 * xs - 1
    omega
  have HWR : Hid (∀ w1, Fr New w w1 → Calls Tryz.prog 17 #[.pointer (some ⟨hb', 0, none⟩), .int .i64 (B : Int), .int .i64 (i : Int), .int .u64 (IntKind.u64.wrap c)] w1 fun e w' => e = .returned (.int .i64 0) ∧ PH hb' tb cb mb g vs ws (now.set (pl ((things now)[k]).1 i) (IntKind.u64.wrap c)) sts w' ∧ Fr (fun k => k = mb) w1 w') := fun w1 hf => by
    have := hwrite_any hb' tb cb mb g vs ws now sts (B : Int) (i : Int) (IntKind.u64.wrap c) w1 (by omega) (by omega) HU.out (S.new hf).ph
    have hw := write_is hlT HI.out HY.out
    rw [hTk] at hw
    simp only [← hB] at hw
    rw [hw] at this
    rw [hTk]
    exact this
  have HKP : Hid (∀ wr w1, Fr New w wr → wr.heap[w.heap.size]? = some (.cells #[.int .i64 (B : Int), .int .i64 (xs : Int), .int .i64 (xp : Int), .slice (some ⟨gi, 0, none⟩) M ci] 53 (0, 0)) → PH hb' tb cb mb g vs ws (now.set (pl ((things now)[k]).1 i) (IntKind.u64.wrap c)) sts w1 → Fr (fun k => k = mb) wr w1 → w1.cell? ⟨sb, 0, none⟩ = some (.pointer (some ⟨hb', 0, none⟩)) ∧ w1.heap[w.heap.size]? = some (.cells #[.int .i64 (B : Int), .int .i64 (xs : Int), .int .i64 (xp : Int), .slice (some ⟨gi, 0, none⟩) M ci] 53 (0, 0)) ∧ (∃ y0, w1.cell? ⟨gi, i, none⟩ = some y0) ∧ w1.frozen? ⟨gi, i, none⟩ = false ∧ gi < w1.heap.size ∧ ¬ w.heap.size = gi ∧ ¬ sb = gi) := fun wr w1 hf hT hph hfr => by
    have Sr := S.new hf
    obtain ⟨n1, n2, n3⟩ := Sr.next hfr hph
    rw [← hl] at n2
    obtain ⟨g4, c4, gi4, ci4, _, _, _, _, _, _, r4, u4, z4, l4⟩ := n2.at' k hk
    obtain ⟨hkv, hue⟩ := huk
    obtain ⟨hkv4, hue4⟩ := u4
    rw [hue] at hue4
    simp only [Value.slice.injEq, Option.some.injEq, Addr.mk.injEq, and_true] at hue4
    obtain ⟨rfl, _, _⟩ := hue4
    rw [← hx] at r4
    obtain ⟨ad, hade, hcp⟩ := r4 i (by simp only; omega)
    cases hade
    rw [add_plain, Nat.zero_add] at hcp
    have hrk := n2.rows k hk hkv4
    rw [hue] at hrk
    obtain ⟨_, cg, hgb⟩ := own_block hrk (g := gi) rfl
    have hmp : w.heap.size ≠ mb := Sr.ph.mapNe hT
    have hT1 := hfr.heap hT hmp
    exact ⟨((block_cells n1).1 0).trans rfl, hT1, ⟨_, hcp⟩, z4 i, l4, fun e => type_ne hT1 hgb (by decide) e, fun e => type_ne n1 hgb (by decide) e⟩
  have HEND : Hid (∀ wr w1 w3, Fr New w wr → PH hb' tb cb mb g vs ws (now.set (pl ((things now)[k]).1 i) (IntKind.u64.wrap c)) sts w1 → Fr (fun k => k = mb) wr w1 → Fr New (w1.setCell ⟨gi, i, none⟩ (.int .u64 (IntKind.u64.wrap c))) w3 → PlayedW F sb n ws now sts w w3) := fun wr w1 w3 hf hph hfr hf3 => by
    obtain ⟨q1, q2, q3⟩ := write_end S hF hf hlT (by rw [hTk]; exact huk) HI.out HY.out hph hfr hf3
    obtain ⟨_, _, q4, q5⟩ := things_write S.hw.gn hlT HI.out HY.out
    exact ⟨_, q2, q3, q4, q5⟩
  have HRD : Hid (∀ wr w1 w2, Fr New w wr → PH hb' tb cb mb g vs ws (now.set (pl ((things now)[k]).1 i) (IntKind.u64.wrap c)) sts w1 → Fr (fun k => k = mb) wr w1 → Fr New (w1.setCell ⟨gi, i, none⟩ (.int .u64 (IntKind.u64.wrap c))) w2 → Calls Tryz.prog 18 #[.pointer (some ⟨hb', 0, none⟩), .int .i64 (B : Int), .int .i64 (i : Int)] w2 fun e w' => e = .returned (.tuple #[.int .u64 (IntKind.u64.wrap c), .int .i64 0]) ∧ Fr New w2 w') := fun wr w1 w2 hf hph hfr hf2 => by
    obtain ⟨q1, _, _⟩ := write_end S hF hf hlT (by rw [hTk]; exact huk) HI.out HY.out hph hfr (Fr.refl _ _)
    have := hread_any hb' tb cb mb g vs ws _ sts (B : Int) (i : Int) w2 (by omega) (by omega) (q1.new hf2)
    have hr := read_written S.hw.gn hlT HI.out HY.out
    rw [hTk] at hr this
    simp only [← hB] at hr
    rw [hr] at this
    exact this
  subst hvn
  have h00 : w.cell? ⟨sb, 0, none⟩ = some (.pointer (some ⟨hb', 0, none⟩)) := hc0
  generalize hNW : now.set (pl ((things now)[k]).1 i) (IntKind.u64.wrap c) = NW at HWR HKP HEND HRD
  clear hNW S hF hq hi hd hdd hlk hkk hlx hlT hTk HI HY HX
  clear tn hkd hk0 hl hf1 hB hM hx hrow huk hfrz
  go_enter Tryz.func5, Tryz.ntmps5
  have ht0 : (w.alloc (.cells #[.int .i64 (B : Int), .int .i64 (xs : Int), .int .i64 (xp : Int), .slice (some ⟨gi, 0, none⟩) M ci] 53)).heap[w.heap.size]? = some (.cells #[.int .i64 (B : Int), .int .i64 (xs : Int), .int .i64 (xp : Int), .slice (some ⟨gi, 0, none⟩) M ci] 53 (0, 0)) := Go.Deep.blk_alloc_new w _
  have hf0 : Fr New w (w.alloc (.cells #[.int .i64 (B : Int), .int .i64 (xs : Int), .int .i64 (xp : Int), .slice (some ⟨gi, 0, none⟩) M ci] 53)) := (Fr.refl New w).alloc _
  go_upto_region 27 with (first
    | (go_at_call_of 13 (Value.int .i64 b); refine calls_same (HPB.out _) ?_)
    | (go_at_call_of 13 (Value.int .i64 4); refine calls_same (HPA.out _) ?_)
    | (go_at_call_of 13 (Value.int .i64 (l.length : Int)); refine calls_same (HPM.out _) ?_)
    | (go_at_call_of 13 (Value.int .i64 8); refine calls_same (HPW.out _) ?_)
    | fail)
  have hcW : (w.alloc (.cells #[.int .i64 (B : Int), .int .i64 (xs : Int), .int .i64 (xp : Int), .slice (some ⟨gi, 0, none⟩) M ci] 53)).cell? ⟨sb, 0, none⟩ = some (.pointer (some ⟨hb', 0, none⟩)) := hf0.cell h00 id
  have htW : (w.alloc (.cells #[.int .i64 (B : Int), .int .i64 (xs : Int), .int .i64 (xp : Int), .slice (some ⟨gi, 0, none⟩) M ci] 53)).heap[w.heap.size]? = some (.cells #[.int .i64 (B : Int), .int .i64 (xs : Int), .int .i64 (xp : Int), .slice (some ⟨gi, 0, none⟩) M ci] 53 (0, 0)) := ht0
  obtain ⟨W, hW⟩ : ∃ W, W = w.alloc (.cells #[.int .i64 (B : Int), .int .i64 (xs : Int), .int .i64 (xp : Int), .slice (some ⟨gi, 0, none⟩) M ci] 53) := ⟨_, rfl⟩
  obtain ⟨gt, hgt⟩ : ∃ gt, gt = w.heap.size := ⟨_, rfl⟩
  rw [← hW] at hf0 hcW htW
  rw [← hgt] at HKP htW
  rw [← hW, ← hgt]
  have hgtW : gt < W.heap.size := lt_of_block htW
  have e0 : W.cell? ⟨gt, 0, none⟩ = some (.int .i64 (B : Int)) := ((block_cells htW).1 0).trans rfl
  have HTW : Hid (W.heap[gt]? = some (.cells #[.int .i64 (B : Int), .int .i64 (xs : Int), .int .i64 (xp : Int), .slice (some ⟨gi, 0, none⟩) M ci] 53 (0, 0))) := htW
  have HF0 : Hid (Fr New w W) := hf0
  clear hW hgt ht0 htW hf0 d0 d1 d2 d3 h00 hc0 hc2
  go_region_held3 (fun w' => w'.cell? ⟨sb, 0, none⟩ = some (.pointer (some ⟨hb', 0, none⟩)) ∧ w'.cell? ⟨gt, 0, none⟩ = some (.int .i64 (B : Int))) (first | go_keep | exact hkeep2)
    (first
      | (go_at_call 17; refine (HWR.out _ (by first | exact HF0.out | exact HF0.out.drew)).mono ?_; rintro e w1 ⟨rfl, hp1, hfr1⟩; have hfr1' : Fr (fun k => k = mb) W w1 := (by first | exact hfr1 | exact hfr1.undrew); obtain ⟨k0, gt1, ⟨y0, hy0⟩, hz0, hgi1, hne1, hne2⟩ := HKP.out W w1 HF0.out HTW.out hp1 hfr1'; have hkeep2 : w1.cell? ⟨sb, 0, none⟩ = some (.pointer (some ⟨hb', 0, none⟩)) ∧ w1.cell? ⟨gt, 0, none⟩ = some (.int .i64 (B : Int)) := ⟨k0, ((block_cells gt1).1 0).trans rfl⟩)
      | fail)
  all_goals
    have e3 : w1.cell? ⟨gt, 3, none⟩ = some (.slice (some ⟨gi, 0, none⟩) M ci) := ((block_cells gt1).1 3).trans rfl
    have hst : Fr (fun j => j = gi) w1 (w1.setCell ⟨gi, i, none⟩ (.int .u64 (IntKind.u64.wrap c))) := (Fr.refl (fun j => j = gi) w1).setCell (p := ⟨gi, i, none⟩) (fun _ => rfl) _
    have f0 : (w1.setCell ⟨gi, i, none⟩ (.int .u64 (IntKind.u64.wrap c))).cell? ⟨sb, 0, none⟩ = some (.pointer (some ⟨hb', 0, none⟩)) := hst.cell hkeep2.1 hne2
    have f1 : (w1.setCell ⟨gi, i, none⟩ (.int .u64 (IntKind.u64.wrap c))).cell? ⟨gt, 0, none⟩ = some (.int .i64 (B : Int)) := hst.cell hkeep2.2 hne1
    clear hkeep2 hst gt1
    go_upto_region 29 with fail
    obtain ⟨w2, hw2⟩ : ∃ w2, w2 = w1.setCell ⟨gi, i, none⟩ (.int .u64 (IntKind.u64.wrap c)) := ⟨_, rfl⟩
    rw [← hw2] at f0 f1
    rw [← hw2]
    have HRD2 : Hid (∀ w3, Fr New w2 w3 → Calls Tryz.prog 18 #[.pointer (some ⟨hb', 0, none⟩), .int .i64 (B : Int), .int .i64 (i : Int)] w3 fun e w' => e = .returned (.tuple #[.int .u64 (IntKind.u64.wrap c), .int .i64 0]) ∧ Fr New w3 w') := fun w3 hf3 => HRD.out W w1 w3 HF0.out hp1 hfr1' (by rw [← hw2]; exact hf3)
    have HEND2 : Hid (∀ w3, Fr New w2 w3 → PlayedW F sb n ws now sts w w3) := fun w3 hf3 => HEND.out W w1 w3 HF0.out hp1 hfr1' (by rw [← hw2]; exact hf3)
    clear hw2 e3 hy0 hz0 k0
    go_region_held3 (fun w' => w'.cell? ⟨sb, 0, none⟩ = some (.pointer (some ⟨hb', 0, none⟩)) ∧ w'.cell? ⟨gt, 0, none⟩ = some (.int .i64 (B : Int))) (first | go_keep | exact hkeep3)
      (first
        | (go_at_call 18; refine (HRD2.out _ (by first | exact Fr.refl _ _ | exact (Fr.refl _ _).drew)).mono ?_; rintro e w3 ⟨rfl, hf3⟩; have hf3' : Fr New w2 w3 := (by first | exact hf3 | exact hf3.undrew); have hkeep3 : w3.cell? ⟨sb, 0, none⟩ = some (.pointer (some ⟨hb', 0, none⟩)) ∧ w3.cell? ⟨gt, 0, none⟩ = some (.int .i64 (B : Int)) := ⟨hf3'.cell f0 id, hf3'.cell f1 id⟩)
        | fail)
    all_goals
      clear hkeep3
      go_wp2_with fail
      go_ret
      exact ⟨rfl, HEND2.out _ (by first | exact hf3' | exact hf3'.drew)⟩
set_option maxHeartbeats 1000000 in
set_option maxRecDepth 100000 in
theorem play_write_d4 (F : Nat → Prop) (sb n : Nat) (ws now : List Int) (sts : List St) (what a b c : Int) (w : World) (hw : I64 what) (ha : I64 a) (hb : I64 b)  (hd : ∀ (hk : pickN a (things now).length < (things now).length), ¬ pickN b ((things now)[pickN a (things now).length]).2.length < ((things now)[pickN a (things now).length]).1.ptrs) (h : Story F sb n ws now sts w) (hne : (things now).length ≠ 0) (hv : pickN what 8 = 4) :
    Calls Tryz.prog 5 #[.pointer (some ⟨sb, 0, none⟩), .int .i64 what, .int .i64 a, .int .i64 b, .int .i64 c] w fun e w' => e = .returned (.bool true) ∧ PlayedW F sb n ws now sts w w' := by
  obtain ⟨hb', tb, cb, mb, g, vs, vn, vk, un, uk, S, hF⟩ := h
  obtain ⟨l, hl⟩ : ∃ l, l = things now := ⟨_, rfl⟩
  have HL : Hid (l = things now) := hl
  have tn : ThAt w vn l un := by rw [hl]; exact S.tn
  rw [← hl] at hne
  have hk0 := pickN_lt a hne
  obtain ⟨k, hkd⟩ : ∃ k, k = pickN a l.length := ⟨_, rfl⟩
  have hk : k < l.length := by rw [hkd]; exact hk0
  have hm32 : l.length ≤ 32 := tn.n
  obtain ⟨g2, cv, gi, ci, hvn, hg2, d0, d1, d2, d3, hrow, huk, hfrz, hgi⟩ := tn.at' k hk
  have hc2 := S.c2
  have hc0 := S.c0
  rw [hvn] at hc2
  have HPA : Hid (∀ w1, Calls Tryz.prog 13 #[.int .i64 a, .int .i64 4] w1 fun e w' => e = .returned (.int .i64 (pickN a 4 : Nat)) ∧ w' = w1) := fun w1 => pickN_any a 4 w1 ha (by omega) (by omega)
  have HPM : Hid (∀ w1, Calls Tryz.prog 13 #[.int .i64 a, .int .i64 (l.length : Int)] w1 fun e w' => e = .returned (.int .i64 (k : Int)) ∧ w' = w1) := fun w1 => by rw [hkd]; exact pickN_any a l.length w1 ha (by omega) (by omega)
  have HPW : Hid (∀ w1, Calls Tryz.prog 13 #[.int .i64 what, .int .i64 8] w1 fun e w' => e = .returned (.int .i64 4) ∧ w' = w1) := fun w1 => by
    have := pickN_any what 8 w1 hw (by omega) (by omega)
    rwa [hv] at this
  have hq4 := pickN_lt a (n := 4) (by omega)
  obtain ⟨q, hq⟩ : ∃ q : Nat, q = pickN a 4 := ⟨_, rfl⟩
  rw [← hq] at HPA hq4
  have hfit := tn.fit _ (List.getElem_mem hk)
  obtain ⟨x, hx⟩ : ∃ x, x = l[k] := ⟨_, rfl⟩
  have HX : Hid (x = l[k]) := hx
  rw [← hx] at d0 d1 d2 d3 hrow hfit huk
  obtain ⟨⟨xb, xs, xp⟩, xw⟩ := x
  simp only at d0 d1 d2 d3 hrow hfit huk
  obtain ⟨hf1, hx1, hx4, hxp, hx32⟩ := hfit
  obtain ⟨B, hB⟩ : ∃ B : Nat, B = xb + 1 := ⟨_, rfl⟩
  rw [← hB] at d0
  have HB : Hid (B = xb + 1) := hB
  obtain ⟨M, hM⟩ : ∃ M : Nat, M = xw.length := ⟨_, rfl⟩
  rw [← hM] at d3
  have HM : Hid (M = xw.length ∧ xw.length = 8 * xs - 1) := ⟨hM, hf1⟩
  have hB32 : B ≤ 32 := by omega
  have hM31 : M ≤ 31 := by omega
  have hM1 : 7 ≤ M := by omega
  have hsbw : sb < w.heap.size := lt_of_block S.blk
  have hiM := pickN_lt b (n := M) (by omega)
  have HPB : Hid (∀ w1, Calls Tryz.prog 13 #[.int .i64 b, .int .i64 (M : Int)] w1 fun e w' => e = .returned (.int .i64 (pickN b M : Nat)) ∧ w' = w1) := fun w1 => pickN_any b M w1 hb (by omega) (by omega)
  obtain ⟨i, hi⟩ : ∃ i : Nat, i = pickN b M := ⟨_, rfl⟩
  rw [← hi] at HPB hiM
  have hlk : pickN a (things now).length < (things now).length := by rw [← hl, ← hkd]; exact hk
  have hkk : k = pickN a (things now).length := by rw [hkd, hl]
  have hdd := hd hlk
  have hlx : ∀ hk' : pickN a (things now).length < (things now).length, (things now)[pickN a (things now).length] = ((⟨xb, xs, xp⟩ : Ob), xw) := fun hk' => by
    rw [hx]
    simp only [hkk, hl]
  rw [hlx hlk] at hdd
  simp only [← hM, ← hi] at hdd
  have hipd : decide (i < xp) = false := by simpa using hdd
  have HU : Hid (U (IntKind.u64.wrap c)) := wrapU c
  have hlT : k < (things now).length := by rw [← hl]; exact hk
  have hTk : (things now)[k] = ((⟨xb, xs, xp⟩ : Ob), xw) := by rw [hx]; simp only [hl]
  have HY : Hid (i < ((things now)[k]).1.ptrs → (IntKind.u64.wrap c) = 0 ∨ Hnd (objs now) (IntKind.u64.wrap c)) := by
    rw [hTk]
    show i < xp → _
    exact fun h => absurd h hdd
  have HI : Hid (i < 8 * ((things now)[k]).1.span - 1) := by
    rw [hTk]
    show i < 8 * xs - 1
    omega
  have HWR : Hid (∀ w1, Fr New w w1 → Calls Tryz.prog 17 #[.pointer (some ⟨hb', 0, none⟩), .int .i64 (B : Int), .int .i64 (i : Int), .int .u64 (IntKind.u64.wrap c)] w1 fun e w' => e = .returned (.int .i64 0) ∧ PH hb' tb cb mb g vs ws (now.set (pl ((things now)[k]).1 i) (IntKind.u64.wrap c)) sts w' ∧ Fr (fun k => k = mb) w1 w') := fun w1 hf => by
    have := hwrite_any hb' tb cb mb g vs ws now sts (B : Int) (i : Int) (IntKind.u64.wrap c) w1 (by omega) (by omega) HU.out (S.new hf).ph
    have hw := write_is hlT HI.out HY.out
    rw [hTk] at hw
    simp only [← hB] at hw
    rw [hw] at this
    rw [hTk]
    exact this
  have HKP : Hid (∀ wr w1, Fr New w wr → wr.heap[w.heap.size]? = some (.cells #[.int .i64 (B : Int), .int .i64 (xs : Int), .int .i64 (xp : Int), .slice (some ⟨gi, 0, none⟩) M ci] 53 (0, 0)) → PH hb' tb cb mb g vs ws (now.set (pl ((things now)[k]).1 i) (IntKind.u64.wrap c)) sts w1 → Fr (fun k => k = mb) wr w1 → w1.cell? ⟨sb, 0, none⟩ = some (.pointer (some ⟨hb', 0, none⟩)) ∧ w1.heap[w.heap.size]? = some (.cells #[.int .i64 (B : Int), .int .i64 (xs : Int), .int .i64 (xp : Int), .slice (some ⟨gi, 0, none⟩) M ci] 53 (0, 0)) ∧ (∃ y0, w1.cell? ⟨gi, i, none⟩ = some y0) ∧ w1.frozen? ⟨gi, i, none⟩ = false ∧ gi < w1.heap.size ∧ ¬ w.heap.size = gi ∧ ¬ sb = gi) := fun wr w1 hf hT hph hfr => by
    have Sr := S.new hf
    obtain ⟨n1, n2, n3⟩ := Sr.next hfr hph
    rw [← hl] at n2
    obtain ⟨g4, c4, gi4, ci4, _, _, _, _, _, _, r4, u4, z4, l4⟩ := n2.at' k hk
    obtain ⟨hkv, hue⟩ := huk
    obtain ⟨hkv4, hue4⟩ := u4
    rw [hue] at hue4
    simp only [Value.slice.injEq, Option.some.injEq, Addr.mk.injEq, and_true] at hue4
    obtain ⟨rfl, _, _⟩ := hue4
    rw [← hx] at r4
    obtain ⟨ad, hade, hcp⟩ := r4 i (by simp only; omega)
    cases hade
    rw [add_plain, Nat.zero_add] at hcp
    have hrk := n2.rows k hk hkv4
    rw [hue] at hrk
    obtain ⟨_, cg, hgb⟩ := own_block hrk (g := gi) rfl
    have hmp : w.heap.size ≠ mb := Sr.ph.mapNe hT
    have hT1 := hfr.heap hT hmp
    exact ⟨((block_cells n1).1 0).trans rfl, hT1, ⟨_, hcp⟩, z4 i, l4, fun e => type_ne hT1 hgb (by decide) e, fun e => type_ne n1 hgb (by decide) e⟩
  have HEND : Hid (∀ wr w1 w3, Fr New w wr → PH hb' tb cb mb g vs ws (now.set (pl ((things now)[k]).1 i) (IntKind.u64.wrap c)) sts w1 → Fr (fun k => k = mb) wr w1 → Fr New (w1.setCell ⟨gi, i, none⟩ (.int .u64 (IntKind.u64.wrap c))) w3 → PlayedW F sb n ws now sts w w3) := fun wr w1 w3 hf hph hfr hf3 => by
    obtain ⟨q1, q2, q3⟩ := write_end S hF hf hlT (by rw [hTk]; exact huk) HI.out HY.out hph hfr hf3
    obtain ⟨_, _, q4, q5⟩ := things_write S.hw.gn hlT HI.out HY.out
    exact ⟨_, q2, q3, q4, q5⟩
  have HRD : Hid (∀ wr w1 w2, Fr New w wr → PH hb' tb cb mb g vs ws (now.set (pl ((things now)[k]).1 i) (IntKind.u64.wrap c)) sts w1 → Fr (fun k => k = mb) wr w1 → Fr New (w1.setCell ⟨gi, i, none⟩ (.int .u64 (IntKind.u64.wrap c))) w2 → Calls Tryz.prog 18 #[.pointer (some ⟨hb', 0, none⟩), .int .i64 (B : Int), .int .i64 (i : Int)] w2 fun e w' => e = .returned (.tuple #[.int .u64 (IntKind.u64.wrap c), .int .i64 0]) ∧ Fr New w2 w') := fun wr w1 w2 hf hph hfr hf2 => by
    obtain ⟨q1, _, _⟩ := write_end S hF hf hlT (by rw [hTk]; exact huk) HI.out HY.out hph hfr (Fr.refl _ _)
    have := hread_any hb' tb cb mb g vs ws _ sts (B : Int) (i : Int) w2 (by omega) (by omega) (q1.new hf2)
    have hr := read_written S.hw.gn hlT HI.out HY.out
    rw [hTk] at hr this
    simp only [← hB] at hr
    rw [hr] at this
    exact this
  subst hvn
  have h00 : w.cell? ⟨sb, 0, none⟩ = some (.pointer (some ⟨hb', 0, none⟩)) := hc0
  generalize hNW : now.set (pl ((things now)[k]).1 i) (IntKind.u64.wrap c) = NW at HWR HKP HEND HRD
  clear hNW S hF hq hi hd hdd hlk hkk hlx hlT hTk HI HY HX
  clear tn hkd hk0 hl hf1 hB hM hx hrow huk hfrz
  go_enter Tryz.func5, Tryz.ntmps5
  have ht0 : (w.alloc (.cells #[.int .i64 (B : Int), .int .i64 (xs : Int), .int .i64 (xp : Int), .slice (some ⟨gi, 0, none⟩) M ci] 53)).heap[w.heap.size]? = some (.cells #[.int .i64 (B : Int), .int .i64 (xs : Int), .int .i64 (xp : Int), .slice (some ⟨gi, 0, none⟩) M ci] 53 (0, 0)) := Go.Deep.blk_alloc_new w _
  have hf0 : Fr New w (w.alloc (.cells #[.int .i64 (B : Int), .int .i64 (xs : Int), .int .i64 (xp : Int), .slice (some ⟨gi, 0, none⟩) M ci] 53)) := (Fr.refl New w).alloc _
  go_upto_region 27 with (first
    | (go_at_call_of 13 (Value.int .i64 b); refine calls_same (HPB.out _) ?_)
    | (go_at_call_of 13 (Value.int .i64 4); refine calls_same (HPA.out _) ?_)
    | (go_at_call_of 13 (Value.int .i64 (l.length : Int)); refine calls_same (HPM.out _) ?_)
    | (go_at_call_of 13 (Value.int .i64 8); refine calls_same (HPW.out _) ?_)
    | fail)
  have hcW : (w.alloc (.cells #[.int .i64 (B : Int), .int .i64 (xs : Int), .int .i64 (xp : Int), .slice (some ⟨gi, 0, none⟩) M ci] 53)).cell? ⟨sb, 0, none⟩ = some (.pointer (some ⟨hb', 0, none⟩)) := hf0.cell h00 id
  have htW : (w.alloc (.cells #[.int .i64 (B : Int), .int .i64 (xs : Int), .int .i64 (xp : Int), .slice (some ⟨gi, 0, none⟩) M ci] 53)).heap[w.heap.size]? = some (.cells #[.int .i64 (B : Int), .int .i64 (xs : Int), .int .i64 (xp : Int), .slice (some ⟨gi, 0, none⟩) M ci] 53 (0, 0)) := ht0
  obtain ⟨W, hW⟩ : ∃ W, W = w.alloc (.cells #[.int .i64 (B : Int), .int .i64 (xs : Int), .int .i64 (xp : Int), .slice (some ⟨gi, 0, none⟩) M ci] 53) := ⟨_, rfl⟩
  obtain ⟨gt, hgt⟩ : ∃ gt, gt = w.heap.size := ⟨_, rfl⟩
  rw [← hW] at hf0 hcW htW
  rw [← hgt] at HKP htW
  rw [← hW, ← hgt]
  have hgtW : gt < W.heap.size := lt_of_block htW
  have e0 : W.cell? ⟨gt, 0, none⟩ = some (.int .i64 (B : Int)) := ((block_cells htW).1 0).trans rfl
  have HTW : Hid (W.heap[gt]? = some (.cells #[.int .i64 (B : Int), .int .i64 (xs : Int), .int .i64 (xp : Int), .slice (some ⟨gi, 0, none⟩) M ci] 53 (0, 0))) := htW
  have HF0 : Hid (Fr New w W) := hf0
  clear hW hgt ht0 htW hf0 d0 d1 d2 d3 h00 hc0 hc2
  go_region_held3 (fun w' => w'.cell? ⟨sb, 0, none⟩ = some (.pointer (some ⟨hb', 0, none⟩)) ∧ w'.cell? ⟨gt, 0, none⟩ = some (.int .i64 (B : Int))) (first | go_keep | exact hkeep2)
    (first
      | (go_at_call 17; refine (HWR.out _ (by first | exact HF0.out | exact HF0.out.drew)).mono ?_; rintro e w1 ⟨rfl, hp1, hfr1⟩; have hfr1' : Fr (fun k => k = mb) W w1 := (by first | exact hfr1 | exact hfr1.undrew); obtain ⟨k0, gt1, ⟨y0, hy0⟩, hz0, hgi1, hne1, hne2⟩ := HKP.out W w1 HF0.out HTW.out hp1 hfr1'; have hkeep2 : w1.cell? ⟨sb, 0, none⟩ = some (.pointer (some ⟨hb', 0, none⟩)) ∧ w1.cell? ⟨gt, 0, none⟩ = some (.int .i64 (B : Int)) := ⟨k0, ((block_cells gt1).1 0).trans rfl⟩)
      | fail)
  all_goals
    have e3 : w1.cell? ⟨gt, 3, none⟩ = some (.slice (some ⟨gi, 0, none⟩) M ci) := ((block_cells gt1).1 3).trans rfl
    have hst : Fr (fun j => j = gi) w1 (w1.setCell ⟨gi, i, none⟩ (.int .u64 (IntKind.u64.wrap c))) := (Fr.refl (fun j => j = gi) w1).setCell (p := ⟨gi, i, none⟩) (fun _ => rfl) _
    have f0 : (w1.setCell ⟨gi, i, none⟩ (.int .u64 (IntKind.u64.wrap c))).cell? ⟨sb, 0, none⟩ = some (.pointer (some ⟨hb', 0, none⟩)) := hst.cell hkeep2.1 hne2
    have f1 : (w1.setCell ⟨gi, i, none⟩ (.int .u64 (IntKind.u64.wrap c))).cell? ⟨gt, 0, none⟩ = some (.int .i64 (B : Int)) := hst.cell hkeep2.2 hne1
    clear hkeep2 hst gt1
    go_upto_region 29 with fail
    obtain ⟨w2, hw2⟩ : ∃ w2, w2 = w1.setCell ⟨gi, i, none⟩ (.int .u64 (IntKind.u64.wrap c)) := ⟨_, rfl⟩
    rw [← hw2] at f0 f1
    rw [← hw2]
    have HRD2 : Hid (∀ w3, Fr New w2 w3 → Calls Tryz.prog 18 #[.pointer (some ⟨hb', 0, none⟩), .int .i64 (B : Int), .int .i64 (i : Int)] w3 fun e w' => e = .returned (.tuple #[.int .u64 (IntKind.u64.wrap c), .int .i64 0]) ∧ Fr New w3 w') := fun w3 hf3 => HRD.out W w1 w3 HF0.out hp1 hfr1' (by rw [← hw2]; exact hf3)
    have HEND2 : Hid (∀ w3, Fr New w2 w3 → PlayedW F sb n ws now sts w w3) := fun w3 hf3 => HEND.out W w1 w3 HF0.out hp1 hfr1' (by rw [← hw2]; exact hf3)
    clear hw2 e3 hy0 hz0 k0
    go_region_held3 (fun w' => w'.cell? ⟨sb, 0, none⟩ = some (.pointer (some ⟨hb', 0, none⟩)) ∧ w'.cell? ⟨gt, 0, none⟩ = some (.int .i64 (B : Int))) (first | go_keep | exact hkeep3)
      (first
        | (go_at_call 18; refine (HRD2.out _ (by first | exact Fr.refl _ _ | exact (Fr.refl _ _).drew)).mono ?_; rintro e w3 ⟨rfl, hf3⟩; have hf3' : Fr New w2 w3 := (by first | exact hf3 | exact hf3.undrew); have hkeep3 : w3.cell? ⟨sb, 0, none⟩ = some (.pointer (some ⟨hb', 0, none⟩)) ∧ w3.cell? ⟨gt, 0, none⟩ = some (.int .i64 (B : Int)) := ⟨hf3'.cell f0 id, hf3'.cell f1 id⟩)
        | fail)
    all_goals
      clear hkeep3
      go_wp2_with fail
      go_ret
      exact ⟨rfl, HEND2.out _ (by first | exact hf3' | exact hf3'.drew)⟩
set_option maxHeartbeats 1000000 in
set_option maxRecDepth 100000 in
theorem play_write_z3 (F : Nat → Prop) (sb n : Nat) (ws now : List Int) (sts : List St) (what a b c : Int) (w : World) (hw : I64 what) (ha : I64 a) (hb : I64 b) (hc : I64 c) (hd : ∀ (hk : pickN a (things now).length < (things now).length), pickN b ((things now)[pickN a (things now).length]).2.length < ((things now)[pickN a (things now).length]).1.ptrs) (h5 : pickN c 5 = 0) (h : Story F sb n ws now sts w) (hne : (things now).length ≠ 0) (hv : pickN what 8 = 3) :
    Calls Tryz.prog 5 #[.pointer (some ⟨sb, 0, none⟩), .int .i64 what, .int .i64 a, .int .i64 b, .int .i64 c] w fun e w' => e = .returned (.bool true) ∧ PlayedW F sb n ws now sts w w' := by
  obtain ⟨hb', tb, cb, mb, g, vs, vn, vk, un, uk, S, hF⟩ := h
  obtain ⟨l, hl⟩ : ∃ l, l = things now := ⟨_, rfl⟩
  have HL : Hid (l = things now) := hl
  have tn : ThAt w vn l un := by rw [hl]; exact S.tn
  rw [← hl] at hne
  have hk0 := pickN_lt a hne
  obtain ⟨k, hkd⟩ : ∃ k, k = pickN a l.length := ⟨_, rfl⟩
  have hk : k < l.length := by rw [hkd]; exact hk0
  have hm32 : l.length ≤ 32 := tn.n
  obtain ⟨g2, cv, gi, ci, hvn, hg2, d0, d1, d2, d3, hrow, huk, hfrz, hgi⟩ := tn.at' k hk
  have hc2 := S.c2
  have hc0 := S.c0
  rw [hvn] at hc2
  have HPA : Hid (∀ w1, Calls Tryz.prog 13 #[.int .i64 a, .int .i64 4] w1 fun e w' => e = .returned (.int .i64 (pickN a 4 : Nat)) ∧ w' = w1) := fun w1 => pickN_any a 4 w1 ha (by omega) (by omega)
  have HPM : Hid (∀ w1, Calls Tryz.prog 13 #[.int .i64 a, .int .i64 (l.length : Int)] w1 fun e w' => e = .returned (.int .i64 (k : Int)) ∧ w' = w1) := fun w1 => by rw [hkd]; exact pickN_any a l.length w1 ha (by omega) (by omega)
  have HPW : Hid (∀ w1, Calls Tryz.prog 13 #[.int .i64 what, .int .i64 8] w1 fun e w' => e = .returned (.int .i64 3) ∧ w' = w1) := fun w1 => by
    have := pickN_any what 8 w1 hw (by omega) (by omega)
    rwa [hv] at this
  have hq4 := pickN_lt a (n := 4) (by omega)
  obtain ⟨q, hq⟩ : ∃ q : Nat, q = pickN a 4 := ⟨_, rfl⟩
  rw [← hq] at HPA hq4
  have hfit := tn.fit _ (List.getElem_mem hk)
  obtain ⟨x, hx⟩ : ∃ x, x = l[k] := ⟨_, rfl⟩
  have HX : Hid (x = l[k]) := hx
  rw [← hx] at d0 d1 d2 d3 hrow hfit huk
  obtain ⟨⟨xb, xs, xp⟩, xw⟩ := x
  simp only at d0 d1 d2 d3 hrow hfit huk
  obtain ⟨hf1, hx1, hx4, hxp, hx32⟩ := hfit
  obtain ⟨B, hB⟩ : ∃ B : Nat, B = xb + 1 := ⟨_, rfl⟩
  rw [← hB] at d0
  have HB : Hid (B = xb + 1) := hB
  obtain ⟨M, hM⟩ : ∃ M : Nat, M = xw.length := ⟨_, rfl⟩
  rw [← hM] at d3
  have HM : Hid (M = xw.length ∧ xw.length = 8 * xs - 1) := ⟨hM, hf1⟩
  have hB32 : B ≤ 32 := by omega
  have hM31 : M ≤ 31 := by omega
  have hM1 : 7 ≤ M := by omega
  have hsbw : sb < w.heap.size := lt_of_block S.blk
  have hiM := pickN_lt b (n := M) (by omega)
  have HPB : Hid (∀ w1, Calls Tryz.prog 13 #[.int .i64 b, .int .i64 (M : Int)] w1 fun e w' => e = .returned (.int .i64 (pickN b M : Nat)) ∧ w' = w1) := fun w1 => pickN_any b M w1 hb (by omega) (by omega)
  obtain ⟨i, hi⟩ : ∃ i : Nat, i = pickN b M := ⟨_, rfl⟩
  rw [← hi] at HPB hiM
  have hlk : pickN a (things now).length < (things now).length := by rw [← hl, ← hkd]; exact hk
  have hkk : k = pickN a (things now).length := by rw [hkd, hl]
  have hdd := hd hlk
  have hlx : ∀ hk' : pickN a (things now).length < (things now).length, (things now)[pickN a (things now).length] = ((⟨xb, xs, xp⟩ : Ob), xw) := fun hk' => by
    rw [hx]
    simp only [hkk, hl]
  rw [hlx hlk] at hdd
  simp only [← hM, ← hi] at hdd
  have hipd : decide (i < xp) = true := by simpa using hdd
  have hj := pickN_lt c hne
  have HPC : Hid (∀ w1, Calls Tryz.prog 13 #[.int .i64 c, .int .i64 (l.length : Int)] w1 fun e w' => e = .returned (.int .i64 (pickN c l.length : Nat)) ∧ w' = w1) := fun w1 => pickN_any c l.length w1 hc (by omega) (by omega)
  obtain ⟨j, hjd⟩ : ∃ j : Nat, j = pickN c l.length := ⟨_, rfl⟩
  have hjl : j < l.length := by rw [hjd]; exact hj
  rw [← hjd] at HPC
  obtain ⟨g3, cv3, _, _, hvn3, _, j0, _⟩ := tn.at' j hjl
  rw [hvn] at hvn3
  simp only [Value.slice.injEq] at hvn3
  obtain ⟨hg3, _, _⟩ := hvn3
  simp only [Option.some.injEq, Addr.mk.injEq, and_true] at hg3
  subst hg3
  have HP5 : Hid (∀ w1, Calls Tryz.prog 13 #[.int .i64 c, .int .i64 5] w1 fun e w' => e = .returned (.int .i64 (pickN c 5 : Nat)) ∧ w' = w1) := fun w1 => pickN_any c 5 w1 hc (by omega) (by omega)
  have h5z : (((pickN c 5 : Nat) : Int) == 0) = true := by simp; omega
  obtain ⟨z5, hz5⟩ : ∃ z5 : Nat, z5 = pickN c 5 := ⟨_, rfl⟩
  rw [← hz5] at HP5 h5z
  have HB2 : Hid (Hnd (objs now) ((((l[j]).1.block + 1 : Nat) : Int))) := by
    have hm : l[j] ∈ things now := by rw [← hl]; exact List.getElem_mem _
    obtain ⟨o, ho, e⟩ := List.mem_map.1 hm
    exact ⟨o, ho, by rw [← e]⟩
  have hB2x : (l[j]).1.block < 32 := (tn.fit _ (List.getElem_mem hjl)).2.2.2.2
  obtain ⟨B2, hB2⟩ : ∃ B2 : Nat, B2 = (l[j]).1.block + 1 := ⟨_, rfl⟩
  rw [← hB2] at j0 HB2
  have hB33 : B2 ≤ 32 := by omega
  have hwB : IntKind.u64.wrap (B2 : Int) = (B2 : Int) := by rw [IntKind.wrap_u64]; omega
  have HU : Hid (U (0 : Int)) := by show U _; unfold U; omega
  have hlT : k < (things now).length := by rw [← hl]; exact hk
  have hTk : (things now)[k] = ((⟨xb, xs, xp⟩ : Ob), xw) := by rw [hx]; simp only [hl]
  have HY : Hid (i < ((things now)[k]).1.ptrs → (0 : Int) = 0 ∨ Hnd (objs now) (0 : Int)) := by
    rw [hTk]
    show i < xp → _
    exact fun _ => .inl rfl
  have HI : Hid (i < 8 * ((things now)[k]).1.span - 1) := by
    rw [hTk]
    show i < 8 * xs - 1
    omega
  have HWR : Hid (∀ w1, Fr New w w1 → Calls Tryz.prog 17 #[.pointer (some ⟨hb', 0, none⟩), .int .i64 (B : Int), .int .i64 (i : Int), .int .u64 (0 : Int)] w1 fun e w' => e = .returned (.int .i64 0) ∧ PH hb' tb cb mb g vs ws (now.set (pl ((things now)[k]).1 i) (0 : Int)) sts w' ∧ Fr (fun k => k = mb) w1 w') := fun w1 hf => by
    have := hwrite_any hb' tb cb mb g vs ws now sts (B : Int) (i : Int) (0 : Int) w1 (by omega) (by omega) HU.out (S.new hf).ph
    have hw := write_is hlT HI.out HY.out
    rw [hTk] at hw
    simp only [← hB] at hw
    rw [hw] at this
    rw [hTk]
    exact this
  have HKP : Hid (∀ wr w1, Fr New w wr → wr.heap[w.heap.size]? = some (.cells #[.int .i64 (B : Int), .int .i64 (xs : Int), .int .i64 (xp : Int), .slice (some ⟨gi, 0, none⟩) M ci] 53 (0, 0)) → PH hb' tb cb mb g vs ws (now.set (pl ((things now)[k]).1 i) (0 : Int)) sts w1 → Fr (fun k => k = mb) wr w1 → w1.cell? ⟨sb, 0, none⟩ = some (.pointer (some ⟨hb', 0, none⟩)) ∧ w1.heap[w.heap.size]? = some (.cells #[.int .i64 (B : Int), .int .i64 (xs : Int), .int .i64 (xp : Int), .slice (some ⟨gi, 0, none⟩) M ci] 53 (0, 0)) ∧ (∃ y0, w1.cell? ⟨gi, i, none⟩ = some y0) ∧ w1.frozen? ⟨gi, i, none⟩ = false ∧ gi < w1.heap.size ∧ ¬ w.heap.size = gi ∧ ¬ sb = gi) := fun wr w1 hf hT hph hfr => by
    have Sr := S.new hf
    obtain ⟨n1, n2, n3⟩ := Sr.next hfr hph
    rw [← hl] at n2
    obtain ⟨g4, c4, gi4, ci4, _, _, _, _, _, _, r4, u4, z4, l4⟩ := n2.at' k hk
    obtain ⟨hkv, hue⟩ := huk
    obtain ⟨hkv4, hue4⟩ := u4
    rw [hue] at hue4
    simp only [Value.slice.injEq, Option.some.injEq, Addr.mk.injEq, and_true] at hue4
    obtain ⟨rfl, _, _⟩ := hue4
    rw [← hx] at r4
    obtain ⟨ad, hade, hcp⟩ := r4 i (by simp only; omega)
    cases hade
    rw [add_plain, Nat.zero_add] at hcp
    have hrk := n2.rows k hk hkv4
    rw [hue] at hrk
    obtain ⟨_, cg, hgb⟩ := own_block hrk (g := gi) rfl
    have hmp : w.heap.size ≠ mb := Sr.ph.mapNe hT
    have hT1 := hfr.heap hT hmp
    exact ⟨((block_cells n1).1 0).trans rfl, hT1, ⟨_, hcp⟩, z4 i, l4, fun e => type_ne hT1 hgb (by decide) e, fun e => type_ne n1 hgb (by decide) e⟩
  have HEND : Hid (∀ wr w1 w3, Fr New w wr → PH hb' tb cb mb g vs ws (now.set (pl ((things now)[k]).1 i) (0 : Int)) sts w1 → Fr (fun k => k = mb) wr w1 → Fr New (w1.setCell ⟨gi, i, none⟩ (.int .u64 (0 : Int))) w3 → PlayedW F sb n ws now sts w w3) := fun wr w1 w3 hf hph hfr hf3 => by
    obtain ⟨q1, q2, q3⟩ := write_end S hF hf hlT (by rw [hTk]; exact huk) HI.out HY.out hph hfr hf3
    obtain ⟨_, _, q4, q5⟩ := things_write S.hw.gn hlT HI.out HY.out
    exact ⟨_, q2, q3, q4, q5⟩
  have HRD : Hid (∀ wr w1 w2, Fr New w wr → PH hb' tb cb mb g vs ws (now.set (pl ((things now)[k]).1 i) (0 : Int)) sts w1 → Fr (fun k => k = mb) wr w1 → Fr New (w1.setCell ⟨gi, i, none⟩ (.int .u64 (0 : Int))) w2 → Calls Tryz.prog 18 #[.pointer (some ⟨hb', 0, none⟩), .int .i64 (B : Int), .int .i64 (i : Int)] w2 fun e w' => e = .returned (.tuple #[.int .u64 (0 : Int), .int .i64 0]) ∧ Fr New w2 w') := fun wr w1 w2 hf hph hfr hf2 => by
    obtain ⟨q1, _, _⟩ := write_end S hF hf hlT (by rw [hTk]; exact huk) HI.out HY.out hph hfr (Fr.refl _ _)
    have := hread_any hb' tb cb mb g vs ws _ sts (B : Int) (i : Int) w2 (by omega) (by omega) (q1.new hf2)
    have hr := read_written S.hw.gn hlT HI.out HY.out
    rw [hTk] at hr this
    simp only [← hB] at hr
    rw [hr] at this
    exact this
  subst hvn
  have h00 : w.cell? ⟨sb, 0, none⟩ = some (.pointer (some ⟨hb', 0, none⟩)) := hc0
  generalize hNW : now.set (pl ((things now)[k]).1 i) (0 : Int) = NW at HWR HKP HEND HRD
  clear hNW S hF hq hi hd hdd hlk hkk hlx hlT hTk HI HY HX
  clear hj hjd hz5 h5 hB2 hB2x
  clear tn hkd hk0 hl hf1 hB hM hx hrow huk hfrz
  go_enter Tryz.func5, Tryz.ntmps5
  have ht0 : (w.alloc (.cells #[.int .i64 (B : Int), .int .i64 (xs : Int), .int .i64 (xp : Int), .slice (some ⟨gi, 0, none⟩) M ci] 53)).heap[w.heap.size]? = some (.cells #[.int .i64 (B : Int), .int .i64 (xs : Int), .int .i64 (xp : Int), .slice (some ⟨gi, 0, none⟩) M ci] 53 (0, 0)) := Go.Deep.blk_alloc_new w _
  have hf0 : Fr New w (w.alloc (.cells #[.int .i64 (B : Int), .int .i64 (xs : Int), .int .i64 (xp : Int), .slice (some ⟨gi, 0, none⟩) M ci] 53)) := (Fr.refl New w).alloc _
  go_upto_region 24 with (first
    | (go_at_call_of 13 (Value.int .i64 b); refine calls_same (HPB.out _) ?_)
    | (go_at_call_of 13 (Value.int .i64 5); refine calls_same (HP5.out _) ?_)
    | (go_at_call_of 13 (Value.int .i64 4); refine calls_same (HPA.out _) ?_)
    | (go_at_call_of 13 (Value.int .i64 (l.length : Int)); refine calls_same (HPM.out _) ?_)
    | (go_at_call_of 13 (Value.int .i64 8); refine calls_same (HPW.out _) ?_)
    | fail)
  go_quiet (first | (go_at_call 13; exact Calls.quiet_of_same (HPC.out _)) | fail)
  go_upto_region 27 with (first
    | (go_at_call_of 13 (Value.int .i64 b); refine calls_same (HPB.out _) ?_)
    | (go_at_call_of 13 (Value.int .i64 5); refine calls_same (HP5.out _) ?_)
    | (go_at_call_of 13 (Value.int .i64 4); refine calls_same (HPA.out _) ?_)
    | (go_at_call_of 13 (Value.int .i64 (l.length : Int)); refine calls_same (HPM.out _) ?_)
    | (go_at_call_of 13 (Value.int .i64 8); refine calls_same (HPW.out _) ?_)
    | fail)
  have hf0 : Fr New w ((w.alloc (.cells #[.int .i64 (B : Int), .int .i64 (xs : Int), .int .i64 (xp : Int), .slice (some ⟨gi, 0, none⟩) M ci] 53)).drewN nq) := hf0.drewN _
  have hcW : ((w.alloc (.cells #[.int .i64 (B : Int), .int .i64 (xs : Int), .int .i64 (xp : Int), .slice (some ⟨gi, 0, none⟩) M ci] 53)).drewN nq).cell? ⟨sb, 0, none⟩ = some (.pointer (some ⟨hb', 0, none⟩)) := hf0.cell h00 id
  have htW : ((w.alloc (.cells #[.int .i64 (B : Int), .int .i64 (xs : Int), .int .i64 (xp : Int), .slice (some ⟨gi, 0, none⟩) M ci] 53)).drewN nq).heap[w.heap.size]? = some (.cells #[.int .i64 (B : Int), .int .i64 (xs : Int), .int .i64 (xp : Int), .slice (some ⟨gi, 0, none⟩) M ci] 53 (0, 0)) := ht0
  obtain ⟨W, hW⟩ : ∃ W, W = (w.alloc (.cells #[.int .i64 (B : Int), .int .i64 (xs : Int), .int .i64 (xp : Int), .slice (some ⟨gi, 0, none⟩) M ci] 53)).drewN nq := ⟨_, rfl⟩
  obtain ⟨gt, hgt⟩ : ∃ gt, gt = w.heap.size := ⟨_, rfl⟩
  rw [← hW] at hf0 hcW htW
  rw [← hgt] at HKP htW
  rw [← hW, ← hgt]
  have hgtW : gt < W.heap.size := lt_of_block htW
  have e0 : W.cell? ⟨gt, 0, none⟩ = some (.int .i64 (B : Int)) := ((block_cells htW).1 0).trans rfl
  have HTW : Hid (W.heap[gt]? = some (.cells #[.int .i64 (B : Int), .int .i64 (xs : Int), .int .i64 (xp : Int), .slice (some ⟨gi, 0, none⟩) M ci] 53 (0, 0))) := htW
  have HF0 : Hid (Fr New w W) := hf0
  clear hW hgt ht0 htW hf0 d0 d1 d2 d3 h00 hc0 hc2
  go_region_held3 (fun w' => w'.cell? ⟨sb, 0, none⟩ = some (.pointer (some ⟨hb', 0, none⟩)) ∧ w'.cell? ⟨gt, 0, none⟩ = some (.int .i64 (B : Int))) (first | go_keep | exact hkeep2)
    (first
      | (go_at_call 17; refine (HWR.out _ (by first | exact HF0.out | exact HF0.out.drew)).mono ?_; rintro e w1 ⟨rfl, hp1, hfr1⟩; have hfr1' : Fr (fun k => k = mb) W w1 := (by first | exact hfr1 | exact hfr1.undrew); obtain ⟨k0, gt1, ⟨y0, hy0⟩, hz0, hgi1, hne1, hne2⟩ := HKP.out W w1 HF0.out HTW.out hp1 hfr1'; have hkeep2 : w1.cell? ⟨sb, 0, none⟩ = some (.pointer (some ⟨hb', 0, none⟩)) ∧ w1.cell? ⟨gt, 0, none⟩ = some (.int .i64 (B : Int)) := ⟨k0, ((block_cells gt1).1 0).trans rfl⟩)
      | fail)
  all_goals
    have e3 : w1.cell? ⟨gt, 3, none⟩ = some (.slice (some ⟨gi, 0, none⟩) M ci) := ((block_cells gt1).1 3).trans rfl
    have hst : Fr (fun j => j = gi) w1 (w1.setCell ⟨gi, i, none⟩ (.int .u64 (0 : Int))) := (Fr.refl (fun j => j = gi) w1).setCell (p := ⟨gi, i, none⟩) (fun _ => rfl) _
    have f0 : (w1.setCell ⟨gi, i, none⟩ (.int .u64 (0 : Int))).cell? ⟨sb, 0, none⟩ = some (.pointer (some ⟨hb', 0, none⟩)) := hst.cell hkeep2.1 hne2
    have f1 : (w1.setCell ⟨gi, i, none⟩ (.int .u64 (0 : Int))).cell? ⟨gt, 0, none⟩ = some (.int .i64 (B : Int)) := hst.cell hkeep2.2 hne1
    clear hkeep2 hst gt1
    go_upto_region 29 with fail
    obtain ⟨w2, hw2⟩ : ∃ w2, w2 = w1.setCell ⟨gi, i, none⟩ (.int .u64 (0 : Int)) := ⟨_, rfl⟩
    rw [← hw2] at f0 f1
    rw [← hw2]
    have HRD2 : Hid (∀ w3, Fr New w2 w3 → Calls Tryz.prog 18 #[.pointer (some ⟨hb', 0, none⟩), .int .i64 (B : Int), .int .i64 (i : Int)] w3 fun e w' => e = .returned (.tuple #[.int .u64 (0 : Int), .int .i64 0]) ∧ Fr New w3 w') := fun w3 hf3 => HRD.out W w1 w3 HF0.out hp1 hfr1' (by rw [← hw2]; exact hf3)
    have HEND2 : Hid (∀ w3, Fr New w2 w3 → PlayedW F sb n ws now sts w w3) := fun w3 hf3 => HEND.out W w1 w3 HF0.out hp1 hfr1' (by rw [← hw2]; exact hf3)
    clear hw2 e3 hy0 hz0 k0
    go_region_held3 (fun w' => w'.cell? ⟨sb, 0, none⟩ = some (.pointer (some ⟨hb', 0, none⟩)) ∧ w'.cell? ⟨gt, 0, none⟩ = some (.int .i64 (B : Int))) (first | go_keep | exact hkeep3)
      (first
        | (go_at_call 18; refine (HRD2.out _ (by first | exact Fr.refl _ _ | exact (Fr.refl _ _).drew)).mono ?_; rintro e w3 ⟨rfl, hf3⟩; have hf3' : Fr New w2 w3 := (by first | exact hf3 | exact hf3.undrew); have hkeep3 : w3.cell? ⟨sb, 0, none⟩ = some (.pointer (some ⟨hb', 0, none⟩)) ∧ w3.cell? ⟨gt, 0, none⟩ = some (.int .i64 (B : Int)) := ⟨hf3'.cell f0 id, hf3'.cell f1 id⟩)
        | fail)
    all_goals
      clear hkeep3
      go_wp2_with fail
      go_ret
      exact ⟨rfl, HEND2.out _ (by first | exact hf3' | exact hf3'.drew)⟩
set_option maxHeartbeats 1000000 in
set_option maxRecDepth 100000 in
theorem play_write_z4 (F : Nat → Prop) (sb n : Nat) (ws now : List Int) (sts : List St) (what a b c : Int) (w : World) (hw : I64 what) (ha : I64 a) (hb : I64 b) (hc : I64 c) (hd : ∀ (hk : pickN a (things now).length < (things now).length), pickN b ((things now)[pickN a (things now).length]).2.length < ((things now)[pickN a (things now).length]).1.ptrs) (h5 : pickN c 5 = 0) (h : Story F sb n ws now sts w) (hne : (things now).length ≠ 0) (hv : pickN what 8 = 4) :
    Calls Tryz.prog 5 #[.pointer (some ⟨sb, 0, none⟩), .int .i64 what, .int .i64 a, .int .i64 b, .int .i64 c] w fun e w' => e = .returned (.bool true) ∧ PlayedW F sb n ws now sts w w' := by
  obtain ⟨hb', tb, cb, mb, g, vs, vn, vk, un, uk, S, hF⟩ := h
  obtain ⟨l, hl⟩ : ∃ l, l = things now := ⟨_, rfl⟩
  have HL : Hid (l = things now) := hl
  have tn : ThAt w vn l un := by rw [hl]; exact S.tn
  rw [← hl] at hne
  have hk0 := pickN_lt a hne
  obtain ⟨k, hkd⟩ : ∃ k, k = pickN a l.length := ⟨_, rfl⟩
  have hk : k < l.length := by rw [hkd]; exact hk0
  have hm32 : l.length ≤ 32 := tn.n
  obtain ⟨g2, cv, gi, ci, hvn, hg2, d0, d1, d2, d3, hrow, huk, hfrz, hgi⟩ := tn.at' k hk
  have hc2 := S.c2
  have hc0 := S.c0
  rw [hvn] at hc2
  have HPA : Hid (∀ w1, Calls Tryz.prog 13 #[.int .i64 a, .int .i64 4] w1 fun e w' => e = .returned (.int .i64 (pickN a 4 : Nat)) ∧ w' = w1) := fun w1 => pickN_any a 4 w1 ha (by omega) (by omega)
  have HPM : Hid (∀ w1, Calls Tryz.prog 13 #[.int .i64 a, .int .i64 (l.length : Int)] w1 fun e w' => e = .returned (.int .i64 (k : Int)) ∧ w' = w1) := fun w1 => by rw [hkd]; exact pickN_any a l.length w1 ha (by omega) (by omega)
  have HPW : Hid (∀ w1, Calls Tryz.prog 13 #[.int .i64 what, .int .i64 8] w1 fun e w' => e = .returned (.int .i64 4) ∧ w' = w1) := fun w1 => by
    have := pickN_any what 8 w1 hw (by omega) (by omega)
    rwa [hv] at this
  have hq4 := pickN_lt a (n := 4) (by omega)
  obtain ⟨q, hq⟩ : ∃ q : Nat, q = pickN a 4 := ⟨_, rfl⟩
  rw [← hq] at HPA hq4
  have hfit := tn.fit _ (List.getElem_mem hk)
  obtain ⟨x, hx⟩ : ∃ x, x = l[k] := ⟨_, rfl⟩
  have HX : Hid (x = l[k]) := hx
  rw [← hx] at d0 d1 d2 d3 hrow hfit huk
  obtain ⟨⟨xb, xs, xp⟩, xw⟩ := x
  simp only at d0 d1 d2 d3 hrow hfit huk
  obtain ⟨hf1, hx1, hx4, hxp, hx32⟩ := hfit
  obtain ⟨B, hB⟩ : ∃ B : Nat, B = xb + 1 := ⟨_, rfl⟩
  rw [← hB] at d0
  have HB : Hid (B = xb + 1) := hB
  obtain ⟨M, hM⟩ : ∃ M : Nat, M = xw.length := ⟨_, rfl⟩
  rw [← hM] at d3
  have HM : Hid (M = xw.length ∧ xw.length = 8 * xs - 1) := ⟨hM, hf1⟩
  have hB32 : B ≤ 32 := by omega
  have hM31 : M ≤ 31 := by omega
  have hM1 : 7 ≤ M := by omega
  have hsbw : sb < w.heap.size := lt_of_block S.blk
  have hiM := pickN_lt b (n := M) (by omega)
  have HPB : Hid (∀ w1, Calls Tryz.prog 13 #[.int .i64 b, .int .i64 (M : Int)] w1 fun e w' => e = .returned (.int .i64 (pickN b M : Nat)) ∧ w' = w1) := fun w1 => pickN_any b M w1 hb (by omega) (by omega)
  obtain ⟨i, hi⟩ : ∃ i : Nat, i = pickN b M := ⟨_, rfl⟩
  rw [← hi] at HPB hiM
  have hlk : pickN a (things now).length < (things now).length := by rw [← hl, ← hkd]; exact hk
  have hkk : k = pickN a (things now).length := by rw [hkd, hl]
  have hdd := hd hlk
  have hlx : ∀ hk' : pickN a (things now).length < (things now).length, (things now)[pickN a (things now).length] = ((⟨xb, xs, xp⟩ : Ob), xw) := fun hk' => by
    rw [hx]
    simp only [hkk, hl]
  rw [hlx hlk] at hdd
  simp only [← hM, ← hi] at hdd
  have hipd : decide (i < xp) = true := by simpa using hdd
  have hj := pickN_lt c hne
  have HPC : Hid (∀ w1, Calls Tryz.prog 13 #[.int .i64 c, .int .i64 (l.length : Int)] w1 fun e w' => e = .returned (.int .i64 (pickN c l.length : Nat)) ∧ w' = w1) := fun w1 => pickN_any c l.length w1 hc (by omega) (by omega)
  obtain ⟨j, hjd⟩ : ∃ j : Nat, j = pickN c l.length := ⟨_, rfl⟩
  have hjl : j < l.length := by rw [hjd]; exact hj
  rw [← hjd] at HPC
  obtain ⟨g3, cv3, _, _, hvn3, _, j0, _⟩ := tn.at' j hjl
  rw [hvn] at hvn3
  simp only [Value.slice.injEq] at hvn3
  obtain ⟨hg3, _, _⟩ := hvn3
  simp only [Option.some.injEq, Addr.mk.injEq, and_true] at hg3
  subst hg3
  have HP5 : Hid (∀ w1, Calls Tryz.prog 13 #[.int .i64 c, .int .i64 5] w1 fun e w' => e = .returned (.int .i64 (pickN c 5 : Nat)) ∧ w' = w1) := fun w1 => pickN_any c 5 w1 hc (by omega) (by omega)
  have h5z : (((pickN c 5 : Nat) : Int) == 0) = true := by simp; omega
  obtain ⟨z5, hz5⟩ : ∃ z5 : Nat, z5 = pickN c 5 := ⟨_, rfl⟩
  rw [← hz5] at HP5 h5z
  have HB2 : Hid (Hnd (objs now) ((((l[j]).1.block + 1 : Nat) : Int))) := by
    have hm : l[j] ∈ things now := by rw [← hl]; exact List.getElem_mem _
    obtain ⟨o, ho, e⟩ := List.mem_map.1 hm
    exact ⟨o, ho, by rw [← e]⟩
  have hB2x : (l[j]).1.block < 32 := (tn.fit _ (List.getElem_mem hjl)).2.2.2.2
  obtain ⟨B2, hB2⟩ : ∃ B2 : Nat, B2 = (l[j]).1.block + 1 := ⟨_, rfl⟩
  rw [← hB2] at j0 HB2
  have hB33 : B2 ≤ 32 := by omega
  have hwB : IntKind.u64.wrap (B2 : Int) = (B2 : Int) := by rw [IntKind.wrap_u64]; omega
  have HU : Hid (U (0 : Int)) := by show U _; unfold U; omega
  have hlT : k < (things now).length := by rw [← hl]; exact hk
  have hTk : (things now)[k] = ((⟨xb, xs, xp⟩ : Ob), xw) := by rw [hx]; simp only [hl]
  have HY : Hid (i < ((things now)[k]).1.ptrs → (0 : Int) = 0 ∨ Hnd (objs now) (0 : Int)) := by
    rw [hTk]
    show i < xp → _
    exact fun _ => .inl rfl
  have HI : Hid (i < 8 * ((things now)[k]).1.span - 1) := by
    rw [hTk]
    show i < 8 * xs - 1
    omega
  have HWR : Hid (∀ w1, Fr New w w1 → Calls Tryz.prog 17 #[.pointer (some ⟨hb', 0, none⟩), .int .i64 (B : Int), .int .i64 (i : Int), .int .u64 (0 : Int)] w1 fun e w' => e = .returned (.int .i64 0) ∧ PH hb' tb cb mb g vs ws (now.set (pl ((things now)[k]).1 i) (0 : Int)) sts w' ∧ Fr (fun k => k = mb) w1 w') := fun w1 hf => by
    have := hwrite_any hb' tb cb mb g vs ws now sts (B : Int) (i : Int) (0 : Int) w1 (by omega) (by omega) HU.out (S.new hf).ph
    have hw := write_is hlT HI.out HY.out
    rw [hTk] at hw
    simp only [← hB] at hw
    rw [hw] at this
    rw [hTk]
    exact this
  have HKP : Hid (∀ wr w1, Fr New w wr → wr.heap[w.heap.size]? = some (.cells #[.int .i64 (B : Int), .int .i64 (xs : Int), .int .i64 (xp : Int), .slice (some ⟨gi, 0, none⟩) M ci] 53 (0, 0)) → PH hb' tb cb mb g vs ws (now.set (pl ((things now)[k]).1 i) (0 : Int)) sts w1 → Fr (fun k => k = mb) wr w1 → w1.cell? ⟨sb, 0, none⟩ = some (.pointer (some ⟨hb', 0, none⟩)) ∧ w1.heap[w.heap.size]? = some (.cells #[.int .i64 (B : Int), .int .i64 (xs : Int), .int .i64 (xp : Int), .slice (some ⟨gi, 0, none⟩) M ci] 53 (0, 0)) ∧ (∃ y0, w1.cell? ⟨gi, i, none⟩ = some y0) ∧ w1.frozen? ⟨gi, i, none⟩ = false ∧ gi < w1.heap.size ∧ ¬ w.heap.size = gi ∧ ¬ sb = gi) := fun wr w1 hf hT hph hfr => by
    have Sr := S.new hf
    obtain ⟨n1, n2, n3⟩ := Sr.next hfr hph
    rw [← hl] at n2
    obtain ⟨g4, c4, gi4, ci4, _, _, _, _, _, _, r4, u4, z4, l4⟩ := n2.at' k hk
    obtain ⟨hkv, hue⟩ := huk
    obtain ⟨hkv4, hue4⟩ := u4
    rw [hue] at hue4
    simp only [Value.slice.injEq, Option.some.injEq, Addr.mk.injEq, and_true] at hue4
    obtain ⟨rfl, _, _⟩ := hue4
    rw [← hx] at r4
    obtain ⟨ad, hade, hcp⟩ := r4 i (by simp only; omega)
    cases hade
    rw [add_plain, Nat.zero_add] at hcp
    have hrk := n2.rows k hk hkv4
    rw [hue] at hrk
    obtain ⟨_, cg, hgb⟩ := own_block hrk (g := gi) rfl
    have hmp : w.heap.size ≠ mb := Sr.ph.mapNe hT
    have hT1 := hfr.heap hT hmp
    exact ⟨((block_cells n1).1 0).trans rfl, hT1, ⟨_, hcp⟩, z4 i, l4, fun e => type_ne hT1 hgb (by decide) e, fun e => type_ne n1 hgb (by decide) e⟩
  have HEND : Hid (∀ wr w1 w3, Fr New w wr → PH hb' tb cb mb g vs ws (now.set (pl ((things now)[k]).1 i) (0 : Int)) sts w1 → Fr (fun k => k = mb) wr w1 → Fr New (w1.setCell ⟨gi, i, none⟩ (.int .u64 (0 : Int))) w3 → PlayedW F sb n ws now sts w w3) := fun wr w1 w3 hf hph hfr hf3 => by
    obtain ⟨q1, q2, q3⟩ := write_end S hF hf hlT (by rw [hTk]; exact huk) HI.out HY.out hph hfr hf3
    obtain ⟨_, _, q4, q5⟩ := things_write S.hw.gn hlT HI.out HY.out
    exact ⟨_, q2, q3, q4, q5⟩
  have HRD : Hid (∀ wr w1 w2, Fr New w wr → PH hb' tb cb mb g vs ws (now.set (pl ((things now)[k]).1 i) (0 : Int)) sts w1 → Fr (fun k => k = mb) wr w1 → Fr New (w1.setCell ⟨gi, i, none⟩ (.int .u64 (0 : Int))) w2 → Calls Tryz.prog 18 #[.pointer (some ⟨hb', 0, none⟩), .int .i64 (B : Int), .int .i64 (i : Int)] w2 fun e w' => e = .returned (.tuple #[.int .u64 (0 : Int), .int .i64 0]) ∧ Fr New w2 w') := fun wr w1 w2 hf hph hfr hf2 => by
    obtain ⟨q1, _, _⟩ := write_end S hF hf hlT (by rw [hTk]; exact huk) HI.out HY.out hph hfr (Fr.refl _ _)
    have := hread_any hb' tb cb mb g vs ws _ sts (B : Int) (i : Int) w2 (by omega) (by omega) (q1.new hf2)
    have hr := read_written S.hw.gn hlT HI.out HY.out
    rw [hTk] at hr this
    simp only [← hB] at hr
    rw [hr] at this
    exact this
  subst hvn
  have h00 : w.cell? ⟨sb, 0, none⟩ = some (.pointer (some ⟨hb', 0, none⟩)) := hc0
  generalize hNW : now.set (pl ((things now)[k]).1 i) (0 : Int) = NW at HWR HKP HEND HRD
  clear hNW S hF hq hi hd hdd hlk hkk hlx hlT hTk HI HY HX
  clear hj hjd hz5 h5 hB2 hB2x
  clear tn hkd hk0 hl hf1 hB hM hx hrow huk hfrz
  go_enter Tryz.func5, Tryz.ntmps5
  have ht0 : (w.alloc (.cells #[.int .i64 (B : Int), .int .i64 (xs : Int), .int .i64 (xp : Int), .slice (some ⟨gi, 0, none⟩) M ci] 53)).heap[w.heap.size]? = some (.cells #[.int .i64 (B : Int), .int .i64 (xs : Int), .int .i64 (xp : Int), .slice (some ⟨gi, 0, none⟩) M ci] 53 (0, 0)) := Go.Deep.blk_alloc_new w _
  have hf0 : Fr New w (w.alloc (.cells #[.int .i64 (B : Int), .int .i64 (xs : Int), .int .i64 (xp : Int), .slice (some ⟨gi, 0, none⟩) M ci] 53)) := (Fr.refl New w).alloc _
  go_upto_region 24 with (first
    | (go_at_call_of 13 (Value.int .i64 b); refine calls_same (HPB.out _) ?_)
    | (go_at_call_of 13 (Value.int .i64 5); refine calls_same (HP5.out _) ?_)
    | (go_at_call_of 13 (Value.int .i64 4); refine calls_same (HPA.out _) ?_)
    | (go_at_call_of 13 (Value.int .i64 (l.length : Int)); refine calls_same (HPM.out _) ?_)
    | (go_at_call_of 13 (Value.int .i64 8); refine calls_same (HPW.out _) ?_)
    | fail)
  go_quiet (first | (go_at_call 13; exact Calls.quiet_of_same (HPC.out _)) | fail)
  go_upto_region 27 with (first
    | (go_at_call_of 13 (Value.int .i64 b); refine calls_same (HPB.out _) ?_)
    | (go_at_call_of 13 (Value.int .i64 5); refine calls_same (HP5.out _) ?_)
    | (go_at_call_of 13 (Value.int .i64 4); refine calls_same (HPA.out _) ?_)
    | (go_at_call_of 13 (Value.int .i64 (l.length : Int)); refine calls_same (HPM.out _) ?_)
    | (go_at_call_of 13 (Value.int .i64 8); refine calls_same (HPW.out _) ?_)
    | fail)
  have hf0 : Fr New w ((w.alloc (.cells #[.int .i64 (B : Int), .int .i64 (xs : Int), .int .i64 (xp : Int), .slice (some ⟨gi, 0, none⟩) M ci] 53)).drewN nq) := hf0.drewN _
  have hcW : ((w.alloc (.cells #[.int .i64 (B : Int), .int .i64 (xs : Int), .int .i64 (xp : Int), .slice (some ⟨gi, 0, none⟩) M ci] 53)).drewN nq).cell? ⟨sb, 0, none⟩ = some (.pointer (some ⟨hb', 0, none⟩)) := hf0.cell h00 id
  have htW : ((w.alloc (.cells #[.int .i64 (B : Int), .int .i64 (xs : Int), .int .i64 (xp : Int), .slice (some ⟨gi, 0, none⟩) M ci] 53)).drewN nq).heap[w.heap.size]? = some (.cells #[.int .i64 (B : Int), .int .i64 (xs : Int), .int .i64 (xp : Int), .slice (some ⟨gi, 0, none⟩) M ci] 53 (0, 0)) := ht0
  obtain ⟨W, hW⟩ : ∃ W, W = (w.alloc (.cells #[.int .i64 (B : Int), .int .i64 (xs : Int), .int .i64 (xp : Int), .slice (some ⟨gi, 0, none⟩) M ci] 53)).drewN nq := ⟨_, rfl⟩
  obtain ⟨gt, hgt⟩ : ∃ gt, gt = w.heap.size := ⟨_, rfl⟩
  rw [← hW] at hf0 hcW htW
  rw [← hgt] at HKP htW
  rw [← hW, ← hgt]
  have hgtW : gt < W.heap.size := lt_of_block htW
  have e0 : W.cell? ⟨gt, 0, none⟩ = some (.int .i64 (B : Int)) := ((block_cells htW).1 0).trans rfl
  have HTW : Hid (W.heap[gt]? = some (.cells #[.int .i64 (B : Int), .int .i64 (xs : Int), .int .i64 (xp : Int), .slice (some ⟨gi, 0, none⟩) M ci] 53 (0, 0))) := htW
  have HF0 : Hid (Fr New w W) := hf0
  clear hW hgt ht0 htW hf0 d0 d1 d2 d3 h00 hc0 hc2
  go_region_held3 (fun w' => w'.cell? ⟨sb, 0, none⟩ = some (.pointer (some ⟨hb', 0, none⟩)) ∧ w'.cell? ⟨gt, 0, none⟩ = some (.int .i64 (B : Int))) (first | go_keep | exact hkeep2)
    (first
      | (go_at_call 17; refine (HWR.out _ (by first | exact HF0.out | exact HF0.out.drew)).mono ?_; rintro e w1 ⟨rfl, hp1, hfr1⟩; have hfr1' : Fr (fun k => k = mb) W w1 := (by first | exact hfr1 | exact hfr1.undrew); obtain ⟨k0, gt1, ⟨y0, hy0⟩, hz0, hgi1, hne1, hne2⟩ := HKP.out W w1 HF0.out HTW.out hp1 hfr1'; have hkeep2 : w1.cell? ⟨sb, 0, none⟩ = some (.pointer (some ⟨hb', 0, none⟩)) ∧ w1.cell? ⟨gt, 0, none⟩ = some (.int .i64 (B : Int)) := ⟨k0, ((block_cells gt1).1 0).trans rfl⟩)
      | fail)
  all_goals
    have e3 : w1.cell? ⟨gt, 3, none⟩ = some (.slice (some ⟨gi, 0, none⟩) M ci) := ((block_cells gt1).1 3).trans rfl
    have hst : Fr (fun j => j = gi) w1 (w1.setCell ⟨gi, i, none⟩ (.int .u64 (0 : Int))) := (Fr.refl (fun j => j = gi) w1).setCell (p := ⟨gi, i, none⟩) (fun _ => rfl) _
    have f0 : (w1.setCell ⟨gi, i, none⟩ (.int .u64 (0 : Int))).cell? ⟨sb, 0, none⟩ = some (.pointer (some ⟨hb', 0, none⟩)) := hst.cell hkeep2.1 hne2
    have f1 : (w1.setCell ⟨gi, i, none⟩ (.int .u64 (0 : Int))).cell? ⟨gt, 0, none⟩ = some (.int .i64 (B : Int)) := hst.cell hkeep2.2 hne1
    clear hkeep2 hst gt1
    go_upto_region 29 with fail
    obtain ⟨w2, hw2⟩ : ∃ w2, w2 = w1.setCell ⟨gi, i, none⟩ (.int .u64 (0 : Int)) := ⟨_, rfl⟩
    rw [← hw2] at f0 f1
    rw [← hw2]
    have HRD2 : Hid (∀ w3, Fr New w2 w3 → Calls Tryz.prog 18 #[.pointer (some ⟨hb', 0, none⟩), .int .i64 (B : Int), .int .i64 (i : Int)] w3 fun e w' => e = .returned (.tuple #[.int .u64 (0 : Int), .int .i64 0]) ∧ Fr New w3 w') := fun w3 hf3 => HRD.out W w1 w3 HF0.out hp1 hfr1' (by rw [← hw2]; exact hf3)
    have HEND2 : Hid (∀ w3, Fr New w2 w3 → PlayedW F sb n ws now sts w w3) := fun w3 hf3 => HEND.out W w1 w3 HF0.out hp1 hfr1' (by rw [← hw2]; exact hf3)
    clear hw2 e3 hy0 hz0 k0
    go_region_held3 (fun w' => w'.cell? ⟨sb, 0, none⟩ = some (.pointer (some ⟨hb', 0, none⟩)) ∧ w'.cell? ⟨gt, 0, none⟩ = some (.int .i64 (B : Int))) (first | go_keep | exact hkeep3)
      (first
        | (go_at_call 18; refine (HRD2.out _ (by first | exact Fr.refl _ _ | exact (Fr.refl _ _).drew)).mono ?_; rintro e w3 ⟨rfl, hf3⟩; have hf3' : Fr New w2 w3 := (by first | exact hf3 | exact hf3.undrew); have hkeep3 : w3.cell? ⟨sb, 0, none⟩ = some (.pointer (some ⟨hb', 0, none⟩)) ∧ w3.cell? ⟨gt, 0, none⟩ = some (.int .i64 (B : Int)) := ⟨hf3'.cell f0 id, hf3'.cell f1 id⟩)
        | fail)
    all_goals
      clear hkeep3
      go_wp2_with fail
      go_ret
      exact ⟨rfl, HEND2.out _ (by first | exact hf3' | exact hf3'.drew)⟩
set_option maxHeartbeats 1000000 in
set_option maxRecDepth 100000 in
theorem play_write_p3 (F : Nat → Prop) (sb n : Nat) (ws now : List Int) (sts : List St) (what a b c : Int) (w : World) (hw : I64 what) (ha : I64 a) (hb : I64 b) (hc : I64 c) (hd : ∀ (hk : pickN a (things now).length < (things now).length), pickN b ((things now)[pickN a (things now).length]).2.length < ((things now)[pickN a (things now).length]).1.ptrs) (h5 : pickN c 5 ≠ 0) (h : Story F sb n ws now sts w) (hne : (things now).length ≠ 0) (hv : pickN what 8 = 3) :
    Calls Tryz.prog 5 #[.pointer (some ⟨sb, 0, none⟩), .int .i64 what, .int .i64 a, .int .i64 b, .int .i64 c] w fun e w' => e = .returned (.bool true) ∧ PlayedW F sb n ws now sts w w' := by
  obtain ⟨hb', tb, cb, mb, g, vs, vn, vk, un, uk, S, hF⟩ := h
  obtain ⟨l, hl⟩ : ∃ l, l = things now := ⟨_, rfl⟩
  have HL : Hid (l = things now) := hl
  have tn : ThAt w vn l un := by rw [hl]; exact S.tn
  rw [← hl] at hne
  have hk0 := pickN_lt a hne
  obtain ⟨k, hkd⟩ : ∃ k, k = pickN a l.length := ⟨_, rfl⟩
  have hk : k < l.length := by rw [hkd]; exact hk0
  have hm32 : l.length ≤ 32 := tn.n
  obtain ⟨g2, cv, gi, ci, hvn, hg2, d0, d1, d2, d3, hrow, huk, hfrz, hgi⟩ := tn.at' k hk
  have hc2 := S.c2
  have hc0 := S.c0
  rw [hvn] at hc2
  have HPA : Hid (∀ w1, Calls Tryz.prog 13 #[.int .i64 a, .int .i64 4] w1 fun e w' => e = .returned (.int .i64 (pickN a 4 : Nat)) ∧ w' = w1) := fun w1 => pickN_any a 4 w1 ha (by omega) (by omega)
  have HPM : Hid (∀ w1, Calls Tryz.prog 13 #[.int .i64 a, .int .i64 (l.length : Int)] w1 fun e w' => e = .returned (.int .i64 (k : Int)) ∧ w' = w1) := fun w1 => by rw [hkd]; exact pickN_any a l.length w1 ha (by omega) (by omega)
  have HPW : Hid (∀ w1, Calls Tryz.prog 13 #[.int .i64 what, .int .i64 8] w1 fun e w' => e = .returned (.int .i64 3) ∧ w' = w1) := fun w1 => by
    have := pickN_any what 8 w1 hw (by omega) (by omega)
    rwa [hv] at this
  have hq4 := pickN_lt a (n := 4) (by omega)
  obtain ⟨q, hq⟩ : ∃ q : Nat, q = pickN a 4 := ⟨_, rfl⟩
  rw [← hq] at HPA hq4
  have hfit := tn.fit _ (List.getElem_mem hk)
  obtain ⟨x, hx⟩ : ∃ x, x = l[k] := ⟨_, rfl⟩
  have HX : Hid (x = l[k]) := hx
  rw [← hx] at d0 d1 d2 d3 hrow hfit huk
  obtain ⟨⟨xb, xs, xp⟩, xw⟩ := x
  simp only at d0 d1 d2 d3 hrow hfit huk
  obtain ⟨hf1, hx1, hx4, hxp, hx32⟩ := hfit
  obtain ⟨B, hB⟩ : ∃ B : Nat, B = xb + 1 := ⟨_, rfl⟩
  rw [← hB] at d0
  have HB : Hid (B = xb + 1) := hB
  obtain ⟨M, hM⟩ : ∃ M : Nat, M = xw.length := ⟨_, rfl⟩
  rw [← hM] at d3
  have HM : Hid (M = xw.length ∧ xw.length = 8 * xs - 1) := ⟨hM, hf1⟩
  have hB32 : B ≤ 32 := by omega
  have hM31 : M ≤ 31 := by omega
  have hM1 : 7 ≤ M := by omega
  have hsbw : sb < w.heap.size := lt_of_block S.blk
  have hiM := pickN_lt b (n := M) (by omega)
  have HPB : Hid (∀ w1, Calls Tryz.prog 13 #[.int .i64 b, .int .i64 (M : Int)] w1 fun e w' => e = .returned (.int .i64 (pickN b M : Nat)) ∧ w' = w1) := fun w1 => pickN_any b M w1 hb (by omega) (by omega)
  obtain ⟨i, hi⟩ : ∃ i : Nat, i = pickN b M := ⟨_, rfl⟩
  rw [← hi] at HPB hiM
  have hlk : pickN a (things now).length < (things now).length := by rw [← hl, ← hkd]; exact hk
  have hkk : k = pickN a (things now).length := by rw [hkd, hl]
  have hdd := hd hlk
  have hlx : ∀ hk' : pickN a (things now).length < (things now).length, (things now)[pickN a (things now).length] = ((⟨xb, xs, xp⟩ : Ob), xw) := fun hk' => by
    rw [hx]
    simp only [hkk, hl]
  rw [hlx hlk] at hdd
  simp only [← hM, ← hi] at hdd
  have hipd : decide (i < xp) = true := by simpa using hdd
  have hj := pickN_lt c hne
  have HPC : Hid (∀ w1, Calls Tryz.prog 13 #[.int .i64 c, .int .i64 (l.length : Int)] w1 fun e w' => e = .returned (.int .i64 (pickN c l.length : Nat)) ∧ w' = w1) := fun w1 => pickN_any c l.length w1 hc (by omega) (by omega)
  obtain ⟨j, hjd⟩ : ∃ j : Nat, j = pickN c l.length := ⟨_, rfl⟩
  have hjl : j < l.length := by rw [hjd]; exact hj
  rw [← hjd] at HPC
  obtain ⟨g3, cv3, _, _, hvn3, _, j0, _⟩ := tn.at' j hjl
  rw [hvn] at hvn3
  simp only [Value.slice.injEq] at hvn3
  obtain ⟨hg3, _, _⟩ := hvn3
  simp only [Option.some.injEq, Addr.mk.injEq, and_true] at hg3
  subst hg3
  have HP5 : Hid (∀ w1, Calls Tryz.prog 13 #[.int .i64 c, .int .i64 5] w1 fun e w' => e = .returned (.int .i64 (pickN c 5 : Nat)) ∧ w' = w1) := fun w1 => pickN_any c 5 w1 hc (by omega) (by omega)
  have h5z : (((pickN c 5 : Nat) : Int) == 0) = false := by simp; omega
  obtain ⟨z5, hz5⟩ : ∃ z5 : Nat, z5 = pickN c 5 := ⟨_, rfl⟩
  rw [← hz5] at HP5 h5z
  have HB2 : Hid (Hnd (objs now) ((((l[j]).1.block + 1 : Nat) : Int))) := by
    have hm : l[j] ∈ things now := by rw [← hl]; exact List.getElem_mem _
    obtain ⟨o, ho, e⟩ := List.mem_map.1 hm
    exact ⟨o, ho, by rw [← e]⟩
  have hB2x : (l[j]).1.block < 32 := (tn.fit _ (List.getElem_mem hjl)).2.2.2.2
  obtain ⟨B2, hB2⟩ : ∃ B2 : Nat, B2 = (l[j]).1.block + 1 := ⟨_, rfl⟩
  rw [← hB2] at j0 HB2
  have hB33 : B2 ≤ 32 := by omega
  have hwB : IntKind.u64.wrap (B2 : Int) = (B2 : Int) := by rw [IntKind.wrap_u64]; omega
  have HU : Hid (U ((B2 : Nat) : Int)) := by show U _; unfold U; omega
  have hlT : k < (things now).length := by rw [← hl]; exact hk
  have hTk : (things now)[k] = ((⟨xb, xs, xp⟩ : Ob), xw) := by rw [hx]; simp only [hl]
  have HY : Hid (i < ((things now)[k]).1.ptrs → ((B2 : Nat) : Int) = 0 ∨ Hnd (objs now) ((B2 : Nat) : Int)) := by
    rw [hTk]
    show i < xp → _
    exact fun _ => .inr HB2.out
  have HI : Hid (i < 8 * ((things now)[k]).1.span - 1) := by
    rw [hTk]
    show i < 8 * xs - 1
    omega
  have HWR : Hid (∀ w1, Fr New w w1 → Calls Tryz.prog 17 #[.pointer (some ⟨hb', 0, none⟩), .int .i64 (B : Int), .int .i64 (i : Int), .int .u64 ((B2 : Nat) : Int)] w1 fun e w' => e = .returned (.int .i64 0) ∧ PH hb' tb cb mb g vs ws (now.set (pl ((things now)[k]).1 i) ((B2 : Nat) : Int)) sts w' ∧ Fr (fun k => k = mb) w1 w') := fun w1 hf => by
    have := hwrite_any hb' tb cb mb g vs ws now sts (B : Int) (i : Int) ((B2 : Nat) : Int) w1 (by omega) (by omega) HU.out (S.new hf).ph
    have hw := write_is hlT HI.out HY.out
    rw [hTk] at hw
    simp only [← hB] at hw
    rw [hw] at this
    rw [hTk]
    exact this
  have HKP : Hid (∀ wr w1, Fr New w wr → wr.heap[w.heap.size]? = some (.cells #[.int .i64 (B : Int), .int .i64 (xs : Int), .int .i64 (xp : Int), .slice (some ⟨gi, 0, none⟩) M ci] 53 (0, 0)) → PH hb' tb cb mb g vs ws (now.set (pl ((things now)[k]).1 i) ((B2 : Nat) : Int)) sts w1 → Fr (fun k => k = mb) wr w1 → w1.cell? ⟨sb, 0, none⟩ = some (.pointer (some ⟨hb', 0, none⟩)) ∧ w1.heap[w.heap.size]? = some (.cells #[.int .i64 (B : Int), .int .i64 (xs : Int), .int .i64 (xp : Int), .slice (some ⟨gi, 0, none⟩) M ci] 53 (0, 0)) ∧ (∃ y0, w1.cell? ⟨gi, i, none⟩ = some y0) ∧ w1.frozen? ⟨gi, i, none⟩ = false ∧ gi < w1.heap.size ∧ ¬ w.heap.size = gi ∧ ¬ sb = gi) := fun wr w1 hf hT hph hfr => by
    have Sr := S.new hf
    obtain ⟨n1, n2, n3⟩ := Sr.next hfr hph
    rw [← hl] at n2
    obtain ⟨g4, c4, gi4, ci4, _, _, _, _, _, _, r4, u4, z4, l4⟩ := n2.at' k hk
    obtain ⟨hkv, hue⟩ := huk
    obtain ⟨hkv4, hue4⟩ := u4
    rw [hue] at hue4
    simp only [Value.slice.injEq, Option.some.injEq, Addr.mk.injEq, and_true] at hue4
    obtain ⟨rfl, _, _⟩ := hue4
    rw [← hx] at r4
    obtain ⟨ad, hade, hcp⟩ := r4 i (by simp only; omega)
    cases hade
    rw [add_plain, Nat.zero_add] at hcp
    have hrk := n2.rows k hk hkv4
    rw [hue] at hrk
    obtain ⟨_, cg, hgb⟩ := own_block hrk (g := gi) rfl
    have hmp : w.heap.size ≠ mb := Sr.ph.mapNe hT
    have hT1 := hfr.heap hT hmp
    exact ⟨((block_cells n1).1 0).trans rfl, hT1, ⟨_, hcp⟩, z4 i, l4, fun e => type_ne hT1 hgb (by decide) e, fun e => type_ne n1 hgb (by decide) e⟩
  have HEND : Hid (∀ wr w1 w3, Fr New w wr → PH hb' tb cb mb g vs ws (now.set (pl ((things now)[k]).1 i) ((B2 : Nat) : Int)) sts w1 → Fr (fun k => k = mb) wr w1 → Fr New (w1.setCell ⟨gi, i, none⟩ (.int .u64 ((B2 : Nat) : Int))) w3 → PlayedW F sb n ws now sts w w3) := fun wr w1 w3 hf hph hfr hf3 => by
    obtain ⟨q1, q2, q3⟩ := write_end S hF hf hlT (by rw [hTk]; exact huk) HI.out HY.out hph hfr hf3
    obtain ⟨_, _, q4, q5⟩ := things_write S.hw.gn hlT HI.out HY.out
    exact ⟨_, q2, q3, q4, q5⟩
  have HRD : Hid (∀ wr w1 w2, Fr New w wr → PH hb' tb cb mb g vs ws (now.set (pl ((things now)[k]).1 i) ((B2 : Nat) : Int)) sts w1 → Fr (fun k => k = mb) wr w1 → Fr New (w1.setCell ⟨gi, i, none⟩ (.int .u64 ((B2 : Nat) : Int))) w2 → Calls Tryz.prog 18 #[.pointer (some ⟨hb', 0, none⟩), .int .i64 (B : Int), .int .i64 (i : Int)] w2 fun e w' => e = .returned (.tuple #[.int .u64 ((B2 : Nat) : Int), .int .i64 0]) ∧ Fr New w2 w') := fun wr w1 w2 hf hph hfr hf2 => by
    obtain ⟨q1, _, _⟩ := write_end S hF hf hlT (by rw [hTk]; exact huk) HI.out HY.out hph hfr (Fr.refl _ _)
    have := hread_any hb' tb cb mb g vs ws _ sts (B : Int) (i : Int) w2 (by omega) (by omega) (q1.new hf2)
    have hr := read_written S.hw.gn hlT HI.out HY.out
    rw [hTk] at hr this
    simp only [← hB] at hr
    rw [hr] at this
    exact this
  subst hvn
  have h00 : w.cell? ⟨sb, 0, none⟩ = some (.pointer (some ⟨hb', 0, none⟩)) := hc0
  generalize hNW : now.set (pl ((things now)[k]).1 i) ((B2 : Nat) : Int) = NW at HWR HKP HEND HRD
  clear hNW S hF hq hi hd hdd hlk hkk hlx hlT hTk HI HY HX
  clear hj hjd hz5 h5 hB2 hB2x
  clear tn hkd hk0 hl hf1 hB hM hx hrow huk hfrz
  go_enter Tryz.func5, Tryz.ntmps5
  have ht0 : (w.alloc (.cells #[.int .i64 (B : Int), .int .i64 (xs : Int), .int .i64 (xp : Int), .slice (some ⟨gi, 0, none⟩) M ci] 53)).heap[w.heap.size]? = some (.cells #[.int .i64 (B : Int), .int .i64 (xs : Int), .int .i64 (xp : Int), .slice (some ⟨gi, 0, none⟩) M ci] 53 (0, 0)) := Go.Deep.blk_alloc_new w _
  have hf0 : Fr New w (w.alloc (.cells #[.int .i64 (B : Int), .int .i64 (xs : Int), .int .i64 (xp : Int), .slice (some ⟨gi, 0, none⟩) M ci] 53)) := (Fr.refl New w).alloc _
  go_upto_region 24 with (first
    | (go_at_call_of 13 (Value.int .i64 b); refine calls_same (HPB.out _) ?_)
    | (go_at_call_of 13 (Value.int .i64 5); refine calls_same (HP5.out _) ?_)
    | (go_at_call_of 13 (Value.int .i64 4); refine calls_same (HPA.out _) ?_)
    | (go_at_call_of 13 (Value.int .i64 (l.length : Int)); refine calls_same (HPM.out _) ?_)
    | (go_at_call_of 13 (Value.int .i64 8); refine calls_same (HPW.out _) ?_)
    | fail)
  go_quiet (first | (go_at_call 13; exact Calls.quiet_of_same (HPC.out _)) | fail)
  go_upto_region 27 with (first
    | (go_at_call_of 13 (Value.int .i64 b); refine calls_same (HPB.out _) ?_)
    | (go_at_call_of 13 (Value.int .i64 5); refine calls_same (HP5.out _) ?_)
    | (go_at_call_of 13 (Value.int .i64 4); refine calls_same (HPA.out _) ?_)
    | (go_at_call_of 13 (Value.int .i64 (l.length : Int)); refine calls_same (HPM.out _) ?_)
    | (go_at_call_of 13 (Value.int .i64 8); refine calls_same (HPW.out _) ?_)
    | fail)
  have hf0 : Fr New w ((w.alloc (.cells #[.int .i64 (B : Int), .int .i64 (xs : Int), .int .i64 (xp : Int), .slice (some ⟨gi, 0, none⟩) M ci] 53)).drewN nq) := hf0.drewN _
  have hcW : ((w.alloc (.cells #[.int .i64 (B : Int), .int .i64 (xs : Int), .int .i64 (xp : Int), .slice (some ⟨gi, 0, none⟩) M ci] 53)).drewN nq).cell? ⟨sb, 0, none⟩ = some (.pointer (some ⟨hb', 0, none⟩)) := hf0.cell h00 id
  have htW : ((w.alloc (.cells #[.int .i64 (B : Int), .int .i64 (xs : Int), .int .i64 (xp : Int), .slice (some ⟨gi, 0, none⟩) M ci] 53)).drewN nq).heap[w.heap.size]? = some (.cells #[.int .i64 (B : Int), .int .i64 (xs : Int), .int .i64 (xp : Int), .slice (some ⟨gi, 0, none⟩) M ci] 53 (0, 0)) := ht0
  obtain ⟨W, hW⟩ : ∃ W, W = (w.alloc (.cells #[.int .i64 (B : Int), .int .i64 (xs : Int), .int .i64 (xp : Int), .slice (some ⟨gi, 0, none⟩) M ci] 53)).drewN nq := ⟨_, rfl⟩
  obtain ⟨gt, hgt⟩ : ∃ gt, gt = w.heap.size := ⟨_, rfl⟩
  rw [← hW] at hf0 hcW htW
  rw [← hgt] at HKP htW
  rw [← hW, ← hgt]
  have hgtW : gt < W.heap.size := lt_of_block htW
  have e0 : W.cell? ⟨gt, 0, none⟩ = some (.int .i64 (B : Int)) := ((block_cells htW).1 0).trans rfl
  have HTW : Hid (W.heap[gt]? = some (.cells #[.int .i64 (B : Int), .int .i64 (xs : Int), .int .i64 (xp : Int), .slice (some ⟨gi, 0, none⟩) M ci] 53 (0, 0))) := htW
  have HF0 : Hid (Fr New w W) := hf0
  clear hW hgt ht0 htW hf0 d0 d1 d2 d3 h00 hc0 hc2
  go_region_held3 (fun w' => w'.cell? ⟨sb, 0, none⟩ = some (.pointer (some ⟨hb', 0, none⟩)) ∧ w'.cell? ⟨gt, 0, none⟩ = some (.int .i64 (B : Int))) (first | go_keep | exact hkeep2)
    (first
      | (go_at_call 17; refine (HWR.out _ (by first | exact HF0.out | exact HF0.out.drew)).mono ?_; rintro e w1 ⟨rfl, hp1, hfr1⟩; have hfr1' : Fr (fun k => k = mb) W w1 := (by first | exact hfr1 | exact hfr1.undrew); obtain ⟨k0, gt1, ⟨y0, hy0⟩, hz0, hgi1, hne1, hne2⟩ := HKP.out W w1 HF0.out HTW.out hp1 hfr1'; have hkeep2 : w1.cell? ⟨sb, 0, none⟩ = some (.pointer (some ⟨hb', 0, none⟩)) ∧ w1.cell? ⟨gt, 0, none⟩ = some (.int .i64 (B : Int)) := ⟨k0, ((block_cells gt1).1 0).trans rfl⟩)
      | fail)
  all_goals
    have e3 : w1.cell? ⟨gt, 3, none⟩ = some (.slice (some ⟨gi, 0, none⟩) M ci) := ((block_cells gt1).1 3).trans rfl
    have hst : Fr (fun j => j = gi) w1 (w1.setCell ⟨gi, i, none⟩ (.int .u64 ((B2 : Nat) : Int))) := (Fr.refl (fun j => j = gi) w1).setCell (p := ⟨gi, i, none⟩) (fun _ => rfl) _
    have f0 : (w1.setCell ⟨gi, i, none⟩ (.int .u64 ((B2 : Nat) : Int))).cell? ⟨sb, 0, none⟩ = some (.pointer (some ⟨hb', 0, none⟩)) := hst.cell hkeep2.1 hne2
    have f1 : (w1.setCell ⟨gi, i, none⟩ (.int .u64 ((B2 : Nat) : Int))).cell? ⟨gt, 0, none⟩ = some (.int .i64 (B : Int)) := hst.cell hkeep2.2 hne1
    clear hkeep2 hst gt1
    go_upto_region 29 with fail
    obtain ⟨w2, hw2⟩ : ∃ w2, w2 = w1.setCell ⟨gi, i, none⟩ (.int .u64 ((B2 : Nat) : Int)) := ⟨_, rfl⟩
    rw [← hw2] at f0 f1
    rw [← hw2]
    have HRD2 : Hid (∀ w3, Fr New w2 w3 → Calls Tryz.prog 18 #[.pointer (some ⟨hb', 0, none⟩), .int .i64 (B : Int), .int .i64 (i : Int)] w3 fun e w' => e = .returned (.tuple #[.int .u64 ((B2 : Nat) : Int), .int .i64 0]) ∧ Fr New w3 w') := fun w3 hf3 => HRD.out W w1 w3 HF0.out hp1 hfr1' (by rw [← hw2]; exact hf3)
    have HEND2 : Hid (∀ w3, Fr New w2 w3 → PlayedW F sb n ws now sts w w3) := fun w3 hf3 => HEND.out W w1 w3 HF0.out hp1 hfr1' (by rw [← hw2]; exact hf3)
    clear hw2 e3 hy0 hz0 k0
    go_region_held3 (fun w' => w'.cell? ⟨sb, 0, none⟩ = some (.pointer (some ⟨hb', 0, none⟩)) ∧ w'.cell? ⟨gt, 0, none⟩ = some (.int .i64 (B : Int))) (first | go_keep | exact hkeep3)
      (first
        | (go_at_call 18; refine (HRD2.out _ (by first | exact Fr.refl _ _ | exact (Fr.refl _ _).drew)).mono ?_; rintro e w3 ⟨rfl, hf3⟩; have hf3' : Fr New w2 w3 := (by first | exact hf3 | exact hf3.undrew); have hkeep3 : w3.cell? ⟨sb, 0, none⟩ = some (.pointer (some ⟨hb', 0, none⟩)) ∧ w3.cell? ⟨gt, 0, none⟩ = some (.int .i64 (B : Int)) := ⟨hf3'.cell f0 id, hf3'.cell f1 id⟩)
        | fail)
    all_goals
      clear hkeep3
      go_wp2_with fail
      go_ret
      exact ⟨rfl, HEND2.out _ (by first | exact hf3' | exact hf3'.drew)⟩
set_option maxHeartbeats 1000000 in
set_option maxRecDepth 100000 in
theorem play_write_p4 (F : Nat → Prop) (sb n : Nat) (ws now : List Int) (sts : List St) (what a b c : Int) (w : World) (hw : I64 what) (ha : I64 a) (hb : I64 b) (hc : I64 c) (hd : ∀ (hk : pickN a (things now).length < (things now).length), pickN b ((things now)[pickN a (things now).length]).2.length < ((things now)[pickN a (things now).length]).1.ptrs) (h5 : pickN c 5 ≠ 0) (h : Story F sb n ws now sts w) (hne : (things now).length ≠ 0) (hv : pickN what 8 = 4) :
    Calls Tryz.prog 5 #[.pointer (some ⟨sb, 0, none⟩), .int .i64 what, .int .i64 a, .int .i64 b, .int .i64 c] w fun e w' => e = .returned (.bool true) ∧ PlayedW F sb n ws now sts w w' := by
  obtain ⟨hb', tb, cb, mb, g, vs, vn, vk, un, uk, S, hF⟩ := h
  obtain ⟨l, hl⟩ : ∃ l, l = things now := ⟨_, rfl⟩
  have HL : Hid (l = things now) := hl
  have tn : ThAt w vn l un := by rw [hl]; exact S.tn
  rw [← hl] at hne
  have hk0 := pickN_lt a hne
  obtain ⟨k, hkd⟩ : ∃ k, k = pickN a l.length := ⟨_, rfl⟩
  have hk : k < l.length := by rw [hkd]; exact hk0
  have hm32 : l.length ≤ 32 := tn.n
  obtain ⟨g2, cv, gi, ci, hvn, hg2, d0, d1, d2, d3, hrow, huk, hfrz, hgi⟩ := tn.at' k hk
  have hc2 := S.c2
  have hc0 := S.c0
  rw [hvn] at hc2
  have HPA : Hid (∀ w1, Calls Tryz.prog 13 #[.int .i64 a, .int .i64 4] w1 fun e w' => e = .returned (.int .i64 (pickN a 4 : Nat)) ∧ w' = w1) := fun w1 => pickN_any a 4 w1 ha (by omega) (by omega)
  have HPM : Hid (∀ w1, Calls Tryz.prog 13 #[.int .i64 a, .int .i64 (l.length : Int)] w1 fun e w' => e = .returned (.int .i64 (k : Int)) ∧ w' = w1) := fun w1 => by rw [hkd]; exact pickN_any a l.length w1 ha (by omega) (by omega)
  have HPW : Hid (∀ w1, Calls Tryz.prog 13 #[.int .i64 what, .int .i64 8] w1 fun e w' => e = .returned (.int .i64 4) ∧ w' = w1) := fun w1 => by
    have := pickN_any what 8 w1 hw (by omega) (by omega)
    rwa [hv] at this
  have hq4 := pickN_lt a (n := 4) (by omega)
  obtain ⟨q, hq⟩ : ∃ q : Nat, q = pickN a 4 := ⟨_, rfl⟩
  rw [← hq] at HPA hq4
  have hfit := tn.fit _ (List.getElem_mem hk)
  obtain ⟨x, hx⟩ : ∃ x, x = l[k] := ⟨_, rfl⟩
  have HX : Hid (x = l[k]) := hx
  rw [← hx] at d0 d1 d2 d3 hrow hfit huk
  obtain ⟨⟨xb, xs, xp⟩, xw⟩ := x
  simp only at d0 d1 d2 d3 hrow hfit huk
  obtain ⟨hf1, hx1, hx4, hxp, hx32⟩ := hfit
  obtain ⟨B, hB⟩ : ∃ B : Nat, B = xb + 1 := ⟨_, rfl⟩
  rw [← hB] at d0
  have HB : Hid (B = xb + 1) := hB
  obtain ⟨M, hM⟩ : ∃ M : Nat, M = xw.length := ⟨_, rfl⟩
  rw [← hM] at d3
  have HM : Hid (M = xw.length ∧ xw.length = 8 * xs - 1) := ⟨hM, hf1⟩
  have hB32 : B ≤ 32 := by omega
  have hM31 : M ≤ 31 := by omega
  have hM1 : 7 ≤ M := by omega
  have hsbw : sb < w.heap.size := lt_of_block S.blk
  have hiM := pickN_lt b (n := M) (by omega)
  have HPB : Hid (∀ w1, Calls Tryz.prog 13 #[.int .i64 b, .int .i64 (M : Int)] w1 fun e w' => e = .returned (.int .i64 (pickN b M : Nat)) ∧ w' = w1) := fun w1 => pickN_any b M w1 hb (by omega) (by omega)
  obtain ⟨i, hi⟩ : ∃ i : Nat, i = pickN b M := ⟨_, rfl⟩
  rw [← hi] at HPB hiM
  have hlk : pickN a (things now).length < (things now).length := by rw [← hl, ← hkd]; exact hk
  have hkk : k = pickN a (things now).length := by rw [hkd, hl]
  have hdd := hd hlk
  have hlx : ∀ hk' : pickN a (things now).length < (things now).length, (things now)[pickN a (things now).length] = ((⟨xb, xs, xp⟩ : Ob), xw) := fun hk' => by
    rw [hx]
    simp only [hkk, hl]
  rw [hlx hlk] at hdd
  simp only [← hM, ← hi] at hdd
  have hipd : decide (i < xp) = true := by simpa using hdd
  have hj := pickN_lt c hne
  have HPC : Hid (∀ w1, Calls Tryz.prog 13 #[.int .i64 c, .int .i64 (l.length : Int)] w1 fun e w' => e = .returned (.int .i64 (pickN c l.length : Nat)) ∧ w' = w1) := fun w1 => pickN_any c l.length w1 hc (by omega) (by omega)
  obtain ⟨j, hjd⟩ : ∃ j : Nat, j = pickN c l.length := ⟨_, rfl⟩
  have hjl : j < l.length := by rw [hjd]; exact hj
  rw [← hjd] at HPC
  obtain ⟨g3, cv3, _, _, hvn3, _, j0, _⟩ := tn.at' j hjl
  rw [hvn] at hvn3
  simp only [Value.slice.injEq] at hvn3
  obtain ⟨hg3, _, _⟩ := hvn3
  simp only [Option.some.injEq, Addr.mk.injEq, and_true] at hg3
  subst hg3
  have HP5 : Hid (∀ w1, Calls Tryz.prog 13 #[.int .i64 c, .int .i64 5] w1 fun e w' => e = .returned (.int .i64 (pickN c 5 : Nat)) ∧ w' = w1) := fun w1 => pickN_any c 5 w1 hc (by omega) (by omega)
  have h5z : (((pickN c 5 : Nat) : Int) == 0) = false := by simp; omega
  obtain ⟨z5, hz5⟩ : ∃ z5 : Nat, z5 = pickN c 5 := ⟨_, rfl⟩
  rw [← hz5] at HP5 h5z
  have HB2 : Hid (Hnd (objs now) ((((l[j]).1.block + 1 : Nat) : Int))) := by
    have hm : l[j] ∈ things now := by rw [← hl]; exact List.getElem_mem _
    obtain ⟨o, ho, e⟩ := List.mem_map.1 hm
    exact ⟨o, ho, by rw [← e]⟩
  have hB2x : (l[j]).1.block < 32 := (tn.fit _ (List.getElem_mem hjl)).2.2.2.2
  obtain ⟨B2, hB2⟩ : ∃ B2 : Nat, B2 = (l[j]).1.block + 1 := ⟨_, rfl⟩
  rw [← hB2] at j0 HB2
  have hB33 : B2 ≤ 32 := by omega
  have hwB : IntKind.u64.wrap (B2 : Int) = (B2 : Int) := by rw [IntKind.wrap_u64]; omega
  have HU : Hid (U ((B2 : Nat) : Int)) := by show U _; unfold U; omega
  have hlT : k < (things now).length := by rw [← hl]; exact hk
  have hTk : (things now)[k] = ((⟨xb, xs, xp⟩ : Ob), xw) := by rw [hx]; simp only [hl]
  have HY : Hid (i < ((things now)[k]).1.ptrs → ((B2 : Nat) : Int) = 0 ∨ Hnd (objs now) ((B2 : Nat) : Int)) := by
    rw [hTk]
    show i < xp → _
    exact fun _ => .inr HB2.out
  have HI : Hid (i < 8 * ((things now)[k]).1.span - 1) := by
    rw [hTk]
    show i < 8 * xs - 1
    omega
  have HWR : Hid (∀ w1, Fr New w w1 → Calls Tryz.prog 17 #[.pointer (some ⟨hb', 0, none⟩), .int .i64 (B : Int), .int .i64 (i : Int), .int .u64 ((B2 : Nat) : Int)] w1 fun e w' => e = .returned (.int .i64 0) ∧ PH hb' tb cb mb g vs ws (now.set (pl ((things now)[k]).1 i) ((B2 : Nat) : Int)) sts w' ∧ Fr (fun k => k = mb) w1 w') := fun w1 hf => by
    have := hwrite_any hb' tb cb mb g vs ws now sts (B : Int) (i : Int) ((B2 : Nat) : Int) w1 (by omega) (by omega) HU.out (S.new hf).ph
    have hw := write_is hlT HI.out HY.out
    rw [hTk] at hw
    simp only [← hB] at hw
    rw [hw] at this
    rw [hTk]
    exact this
  have HKP : Hid (∀ wr w1, Fr New w wr → wr.heap[w.heap.size]? = some (.cells #[.int .i64 (B : Int), .int .i64 (xs : Int), .int .i64 (xp : Int), .slice (some ⟨gi, 0, none⟩) M ci] 53 (0, 0)) → PH hb' tb cb mb g vs ws (now.set (pl ((things now)[k]).1 i) ((B2 : Nat) : Int)) sts w1 → Fr (fun k => k = mb) wr w1 → w1.cell? ⟨sb, 0, none⟩ = some (.pointer (some ⟨hb', 0, none⟩)) ∧ w1.heap[w.heap.size]? = some (.cells #[.int .i64 (B : Int), .int .i64 (xs : Int), .int .i64 (xp : Int), .slice (some ⟨gi, 0, none⟩) M ci] 53 (0, 0)) ∧ (∃ y0, w1.cell? ⟨gi, i, none⟩ = some y0) ∧ w1.frozen? ⟨gi, i, none⟩ = false ∧ gi < w1.heap.size ∧ ¬ w.heap.size = gi ∧ ¬ sb = gi) := fun wr w1 hf hT hph hfr => by
    have Sr := S.new hf
    obtain ⟨n1, n2, n3⟩ := Sr.next hfr hph
    rw [← hl] at n2
    obtain ⟨g4, c4, gi4, ci4, _, _, _, _, _, _, r4, u4, z4, l4⟩ := n2.at' k hk
    obtain ⟨hkv, hue⟩ := huk
    obtain ⟨hkv4, hue4⟩ := u4
    rw [hue] at hue4
    simp only [Value.slice.injEq, Option.some.injEq, Addr.mk.injEq, and_true] at hue4
    obtain ⟨rfl, _, _⟩ := hue4
    rw [← hx] at r4
    obtain ⟨ad, hade, hcp⟩ := r4 i (by simp only; omega)
    cases hade
    rw [add_plain, Nat.zero_add] at hcp
    have hrk := n2.rows k hk hkv4
    rw [hue] at hrk
    obtain ⟨_, cg, hgb⟩ := own_block hrk (g := gi) rfl
    have hmp : w.heap.size ≠ mb := Sr.ph.mapNe hT
    have hT1 := hfr.heap hT hmp
    exact ⟨((block_cells n1).1 0).trans rfl, hT1, ⟨_, hcp⟩, z4 i, l4, fun e => type_ne hT1 hgb (by decide) e, fun e => type_ne n1 hgb (by decide) e⟩
  have HEND : Hid (∀ wr w1 w3, Fr New w wr → PH hb' tb cb mb g vs ws (now.set (pl ((things now)[k]).1 i) ((B2 : Nat) : Int)) sts w1 → Fr (fun k => k = mb) wr w1 → Fr New (w1.setCell ⟨gi, i, none⟩ (.int .u64 ((B2 : Nat) : Int))) w3 → PlayedW F sb n ws now sts w w3) := fun wr w1 w3 hf hph hfr hf3 => by
    obtain ⟨q1, q2, q3⟩ := write_end S hF hf hlT (by rw [hTk]; exact huk) HI.out HY.out hph hfr hf3
    obtain ⟨_, _, q4, q5⟩ := things_write S.hw.gn hlT HI.out HY.out
    exact ⟨_, q2, q3, q4, q5⟩
  have HRD : Hid (∀ wr w1 w2, Fr New w wr → PH hb' tb cb mb g vs ws (now.set (pl ((things now)[k]).1 i) ((B2 : Nat) : Int)) sts w1 → Fr (fun k => k = mb) wr w1 → Fr New (w1.setCell ⟨gi, i, none⟩ (.int .u64 ((B2 : Nat) : Int))) w2 → Calls Tryz.prog 18 #[.pointer (some ⟨hb', 0, none⟩), .int .i64 (B : Int), .int .i64 (i : Int)] w2 fun e w' => e = .returned (.tuple #[.int .u64 ((B2 : Nat) : Int), .int .i64 0]) ∧ Fr New w2 w') := fun wr w1 w2 hf hph hfr hf2 => by
    obtain ⟨q1, _, _⟩ := write_end S hF hf hlT (by rw [hTk]; exact huk) HI.out HY.out hph hfr (Fr.refl _ _)
    have := hread_any hb' tb cb mb g vs ws _ sts (B : Int) (i : Int) w2 (by omega) (by omega) (q1.new hf2)
    have hr := read_written S.hw.gn hlT HI.out HY.out
    rw [hTk] at hr this
    simp only [← hB] at hr
    rw [hr] at this
    exact this
  subst hvn
  have h00 : w.cell? ⟨sb, 0, none⟩ = some (.pointer (some ⟨hb', 0, none⟩)) := hc0
  generalize hNW : now.set (pl ((things now)[k]).1 i) ((B2 : Nat) : Int) = NW at HWR HKP HEND HRD
  clear hNW S hF hq hi hd hdd hlk hkk hlx hlT hTk HI HY HX
  clear hj hjd hz5 h5 hB2 hB2x
  clear tn hkd hk0 hl hf1 hB hM hx hrow huk hfrz
  go_enter Tryz.func5, Tryz.ntmps5
  have ht0 : (w.alloc (.cells #[.int .i64 (B : Int), .int .i64 (xs : Int), .int .i64 (xp : Int), .slice (some ⟨gi, 0, none⟩) M ci] 53)).heap[w.heap.size]? = some (.cells #[.int .i64 (B : Int), .int .i64 (xs : Int), .int .i64 (xp : Int), .slice (some ⟨gi, 0, none⟩) M ci] 53 (0, 0)) := Go.Deep.blk_alloc_new w _
  have hf0 : Fr New w (w.alloc (.cells #[.int .i64 (B : Int), .int .i64 (xs : Int), .int .i64 (xp : Int), .slice (some ⟨gi, 0, none⟩) M ci] 53)) := (Fr.refl New w).alloc _
  go_upto_region 24 with (first
    | (go_at_call_of 13 (Value.int .i64 b); refine calls_same (HPB.out _) ?_)
    | (go_at_call_of 13 (Value.int .i64 5); refine calls_same (HP5.out _) ?_)
    | (go_at_call_of 13 (Value.int .i64 4); refine calls_same (HPA.out _) ?_)
    | (go_at_call_of 13 (Value.int .i64 (l.length : Int)); refine calls_same (HPM.out _) ?_)
    | (go_at_call_of 13 (Value.int .i64 8); refine calls_same (HPW.out _) ?_)
    | fail)
  go_quiet (first | (go_at_call 13; exact Calls.quiet_of_same (HPC.out _)) | fail)
  go_upto_region 27 with (first
    | (go_at_call_of 13 (Value.int .i64 b); refine calls_same (HPB.out _) ?_)
    | (go_at_call_of 13 (Value.int .i64 5); refine calls_same (HP5.out _) ?_)
    | (go_at_call_of 13 (Value.int .i64 4); refine calls_same (HPA.out _) ?_)
    | (go_at_call_of 13 (Value.int .i64 (l.length : Int)); refine calls_same (HPM.out _) ?_)
    | (go_at_call_of 13 (Value.int .i64 8); refine calls_same (HPW.out _) ?_)
    | fail)
  have hf0 : Fr New w ((w.alloc (.cells #[.int .i64 (B : Int), .int .i64 (xs : Int), .int .i64 (xp : Int), .slice (some ⟨gi, 0, none⟩) M ci] 53)).drewN nq) := hf0.drewN _
  have hcW : ((w.alloc (.cells #[.int .i64 (B : Int), .int .i64 (xs : Int), .int .i64 (xp : Int), .slice (some ⟨gi, 0, none⟩) M ci] 53)).drewN nq).cell? ⟨sb, 0, none⟩ = some (.pointer (some ⟨hb', 0, none⟩)) := hf0.cell h00 id
  have htW : ((w.alloc (.cells #[.int .i64 (B : Int), .int .i64 (xs : Int), .int .i64 (xp : Int), .slice (some ⟨gi, 0, none⟩) M ci] 53)).drewN nq).heap[w.heap.size]? = some (.cells #[.int .i64 (B : Int), .int .i64 (xs : Int), .int .i64 (xp : Int), .slice (some ⟨gi, 0, none⟩) M ci] 53 (0, 0)) := ht0
  obtain ⟨W, hW⟩ : ∃ W, W = (w.alloc (.cells #[.int .i64 (B : Int), .int .i64 (xs : Int), .int .i64 (xp : Int), .slice (some ⟨gi, 0, none⟩) M ci] 53)).drewN nq := ⟨_, rfl⟩
  obtain ⟨gt, hgt⟩ : ∃ gt, gt = w.heap.size := ⟨_, rfl⟩
  rw [← hW] at hf0 hcW htW
  rw [← hgt] at HKP htW
  rw [← hW, ← hgt]
  have hgtW : gt < W.heap.size := lt_of_block htW
  have e0 : W.cell? ⟨gt, 0, none⟩ = some (.int .i64 (B : Int)) := ((block_cells htW).1 0).trans rfl
  have HTW : Hid (W.heap[gt]? = some (.cells #[.int .i64 (B : Int), .int .i64 (xs : Int), .int .i64 (xp : Int), .slice (some ⟨gi, 0, none⟩) M ci] 53 (0, 0))) := htW
  have HF0 : Hid (Fr New w W) := hf0
  clear hW hgt ht0 htW hf0 d0 d1 d2 d3 h00 hc0 hc2
  go_region_held3 (fun w' => w'.cell? ⟨sb, 0, none⟩ = some (.pointer (some ⟨hb', 0, none⟩)) ∧ w'.cell? ⟨gt, 0, none⟩ = some (.int .i64 (B : Int))) (first | go_keep | exact hkeep2)
    (first
      | (go_at_call 17; refine (HWR.out _ (by first | exact HF0.out | exact HF0.out.drew)).mono ?_; rintro e w1 ⟨rfl, hp1, hfr1⟩; have hfr1' : Fr (fun k => k = mb) W w1 := (by first | exact hfr1 | exact hfr1.undrew); obtain ⟨k0, gt1, ⟨y0, hy0⟩, hz0, hgi1, hne1, hne2⟩ := HKP.out W w1 HF0.out HTW.out hp1 hfr1'; have hkeep2 : w1.cell? ⟨sb, 0, none⟩ = some (.pointer (some ⟨hb', 0, none⟩)) ∧ w1.cell? ⟨gt, 0, none⟩ = some (.int .i64 (B : Int)) := ⟨k0, ((block_cells gt1).1 0).trans rfl⟩)
      | fail)
  all_goals
    have e3 : w1.cell? ⟨gt, 3, none⟩ = some (.slice (some ⟨gi, 0, none⟩) M ci) := ((block_cells gt1).1 3).trans rfl
    have hst : Fr (fun j => j = gi) w1 (w1.setCell ⟨gi, i, none⟩ (.int .u64 ((B2 : Nat) : Int))) := (Fr.refl (fun j => j = gi) w1).setCell (p := ⟨gi, i, none⟩) (fun _ => rfl) _
    have f0 : (w1.setCell ⟨gi, i, none⟩ (.int .u64 ((B2 : Nat) : Int))).cell? ⟨sb, 0, none⟩ = some (.pointer (some ⟨hb', 0, none⟩)) := hst.cell hkeep2.1 hne2
    have f1 : (w1.setCell ⟨gi, i, none⟩ (.int .u64 ((B2 : Nat) : Int))).cell? ⟨gt, 0, none⟩ = some (.int .i64 (B : Int)) := hst.cell hkeep2.2 hne1
    clear hkeep2 hst gt1
    go_upto_region 29 with fail
    obtain ⟨w2, hw2⟩ : ∃ w2, w2 = w1.setCell ⟨gi, i, none⟩ (.int .u64 ((B2 : Nat) : Int)) := ⟨_, rfl⟩
    rw [← hw2] at f0 f1
    rw [← hw2]
    have HRD2 : Hid (∀ w3, Fr New w2 w3 → Calls Tryz.prog 18 #[.pointer (some ⟨hb', 0, none⟩), .int .i64 (B : Int), .int .i64 (i : Int)] w3 fun e w' => e = .returned (.tuple #[.int .u64 ((B2 : Nat) : Int), .int .i64 0]) ∧ Fr New w3 w') := fun w3 hf3 => HRD.out W w1 w3 HF0.out hp1 hfr1' (by rw [← hw2]; exact hf3)
    have HEND2 : Hid (∀ w3, Fr New w2 w3 → PlayedW F sb n ws now sts w w3) := fun w3 hf3 => HEND.out W w1 w3 HF0.out hp1 hfr1' (by rw [← hw2]; exact hf3)
    clear hw2 e3 hy0 hz0 k0
    go_region_held3 (fun w' => w'.cell? ⟨sb, 0, none⟩ = some (.pointer (some ⟨hb', 0, none⟩)) ∧ w'.cell? ⟨gt, 0, none⟩ = some (.int .i64 (B : Int))) (first | go_keep | exact hkeep3)
      (first
        | (go_at_call 18; refine (HRD2.out _ (by first | exact Fr.refl _ _ | exact (Fr.refl _ _).drew)).mono ?_; rintro e w3 ⟨rfl, hf3⟩; have hf3' : Fr New w2 w3 := (by first | exact hf3 | exact hf3.undrew); have hkeep3 : w3.cell? ⟨sb, 0, none⟩ = some (.pointer (some ⟨hb', 0, none⟩)) ∧ w3.cell? ⟨gt, 0, none⟩ = some (.int .i64 (B : Int)) := ⟨hf3'.cell f0 id, hf3'.cell f1 id⟩)
        | fail)
    all_goals
      clear hkeep3
      go_wp2_with fail
      go_ret
      exact ⟨rfl, HEND2.out _ (by first | exact hf3' | exact hf3'.drew)⟩
end Go.Proofs.YtbagcjlimdilpabGreat

