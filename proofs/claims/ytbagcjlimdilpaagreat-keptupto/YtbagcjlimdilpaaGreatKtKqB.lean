/- The walk of is: has a heap just this shape? -/
import Derived.Test.YtbagcjlimdilpaaGreatKtJ10
namespace Go.Proofs.YtbagcjlimdilpaaGreat
open Go.RowKit Go.Maps

theorem aoCells_get : ∀ (l : List Ob) (gs : List Nat) (i : Nat) (hi : i < l.length) (hg : i < gs.length) (j : Nat), j < 4 → (aoCells l gs)[i * 4 + j]? = (aoCell l[i] gs[i])[j]?
  | x :: l, g :: gs, 0, _, _, j, hj => by
    simp only [aoCells, List.zipWith_cons_cons, List.flatten_cons, Nat.zero_mul, Nat.zero_add, List.getElem_cons_zero]
    rw [List.getElem?_append_left (by simpa [aoCell] using hj)]
  | x :: l, g :: gs, i + 1, hi, hg, j, hj => by
    have ih := aoCells_get l gs i (by simpa using hi) (by simpa using hg) j hj
    simp only [aoCells, List.zipWith_cons_cons, List.flatten_cons, List.getElem_cons_succ] at ih ⊢
    rw [List.getElem?_append_right (by simp [aoCell]; omega), ← ih]
    congr 1
    simp [aoCell]
    omega
/-- the i-th object as it is told -/
theorem ToldO.at' {B : Nat} {w : World} {v : Value} {now : List Int} {l : List Ob} {gs : List Nat} (h : ToldO B w v now l gs) (i : Nat) (hi : i < l.length) : ∃ g c, v = .slice (some ⟨g, 0, none⟩) l.length c ∧ g < w.heap.size ∧ ∃ gi, gi < w.heap.size ∧
    w.cell? ⟨g, i * 4, none⟩ = some (.int .i64 (((l[i]).block + 1 : Nat) : Int)) ∧ w.cell? ⟨g, i * 4 + 1, none⟩ = some (.int .i64 (l[i]).span) ∧ w.cell? ⟨g, i * 4 + 2, none⟩ = some (.int .i64 (l[i]).ptrs) ∧
    w.cell? ⟨g, i * 4 + 3, none⟩ = some (.slice (some ⟨gi, 0, none⟩) (8 * (l[i]).span - 1) (8 * (l[i]).span - 1)) ∧ RowU w (some ⟨gi, 0, none⟩) (objW now l[i]) := by
  have hg : i < gs.length := by rw [← h.len]; exact hi
  rcases h.own.2 with ⟨_, hn⟩ | ⟨g, cap, cur, rfl, hb, hh, hnc, hcm, hcs, htk⟩
  · omega
  · have hc : ∀ j, j < 4 → w.cell? ⟨g, i * 4 + j, none⟩ = (aoCell l[i] gs[i])[j]? := fun j hj => by
      rw [← aoCells_get l gs i hi hg j hj, ← htk, (block_cells hh).1]
      rw [List.getElem?_take_of_lt (by omega)]
      simp
    exact ⟨g, cap, rfl, lt_of_block hh, gs[i], h.lt _ (List.getElem_mem hg), (hc 0 (by omega)).trans rfl, (hc 1 (by omega)).trans rfl, (hc 2 (by omega)).trans rfl, (hc 3 (by omega)).trans rfl, Row.rowU (h.rows i hi hg)⟩
/-- the shape of some words -/
def things (now : List Int) : List Th := (objs now).map (fun o => (o, objW now o))
theorem things_len (now : List Int) : (things now).length = (objs now).length := by simp [things]
/-- a shape as a value -/
abbrev shV (v : Value) (r0 r1 r2 r3 : Int) : Value := .agg #[v, .int .i64 r0, .int .i64 r1, .int .i64 r2, .int .i64 r3]
/-- four roots -/
def root4 (r0 r1 r2 r3 : Int) (k : Nat) : Int := if k = 0 then r0 else if k = 1 then r1 else if k = 2 then r2 else r3
theorem root_cells {w : World} {sb : Nat} {v : Value} {r0 r1 r2 r3 : Int} (h : w.heap[sb]? = some (.cells #[v, .int .i64 r0, .int .i64 r1, .int .i64 r2, .int .i64 r3] 37 (0, 0))) (k : Nat) (hk : k < 4) : w.cell? ⟨sb, 1 + k, none⟩ = some (.int .i64 (root4 r0 r1 r2 r3 k)) := by
  rw [(block_cells h).1]
  match k, hk with
  | 0, _ => rfl
  | 1, _ => rfl
  | 2, _ => rfl
  | 3, _ => rfl

/-- the shape is the heap's -/
def IsIt (now : List Int) (l : List Th) (r0 r1 r2 r3 : Int) : Prop := l = things now ∧ ∀ k, k < 4 → wrap64 (wd now (3 + k)) = root4 r0 r1 r2 r3 k
set_option maxHeartbeats 1000000 in
set_option maxRecDepth 100000 in
theorem kis_any (hb tb cb mb g : Nat) (vs : Value) (ws now : List Int) (st : List St) (vt : Value) (l : List Th) (us : List Value) (r0 r1 r2 r3 : Int) (w : World) (h : PH hb tb cb mb g vs ws now st w) (ht : ThAt w vt l us) :
    Calls Tryz.prog 19 #[.pointer (some ⟨hb, 0, none⟩), shV vt r0 r1 r2 r3] w fun e w' => ∃ b, e = .returned (.bool b) ∧ (b = true ↔ IsIt now l r0 r1 r2 r3) ∧ Fr New w w' := by
  have HO : Hid (∀ w1, Fr New w w1 → Calls Tryz.prog 45 #[.pointer (some ⟨hb, 0, none⟩)] w1 fun e w' => ∃ v gs, e = .returned v ∧ ToldO w1.heap.size w' v now (objs now) gs ∧ Fr New w1 w') := fun w1 hf => hobjs_any hb tb cb mb g vs ws now st w1 (h.new hf)
  have HRT : Hid (∀ w1, Fr New w w1 → ∀ k : Nat, k < 4 → Calls Tryz.prog 41 #[.pointer (some ⟨hb, 0, none⟩), .int .i64 (k : Int)] w1 fun e w' => e = .returned (.tuple #[.int .i64 (wrap64 (wd now (3 + k))), .int .i64 0]) ∧ w' = w1) := fun w1 hf k hk => by
    have := hroot_any hb tb cb mb g vs ws now st (k : Int) w1 (h.new hf)
    unfold rootS at this
    rwa [if_neg (by omega), Int.toNat_natCast] at this
  have HT : Hid (∀ w1, Fr New w w1 → ThAt w1 vt l us) := fun w1 hf => ht.new hf
  have hl32 := objs_len now
  have hlt32 := ht.n
  have HFIT : Hid (∀ x ∈ l, x.2.length = 8 * x.1.span - 1 ∧ 1 ≤ x.1.span ∧ x.1.span ≤ 4 ∧ x.1.ptrs < 8 * x.1.span ∧ x.1.block < 32) := ht.fit
  have HIN : Hid (∀ o ∈ objs now, 1 ≤ o.span ∧ o.span ≤ 4 ∧ o.ptrs < 8 * o.span ∧ o.block < 32) := fun o ho => by
    have := objs_in ho
    have := nblk_le now.length
    exact ⟨by omega, by omega, by omega, by omega⟩
  obtain ⟨av, cv, rfl⟩ := ht.slice
  obtain ⟨lo, hlo⟩ : ∃ lo, lo = objs now := ⟨_, rfl⟩
  have HTH : Hid (things now = lo.map (fun o => (o, objW now o))) := by rw [hlo]; rfl
  rw [← hlo] at HO hl32 HIN
  clear h ht hlo
  by_cases hlen : lo.length = l.length
  · have hdl : ((lo.length : Int) != (l.length : Int)) = false := by simp; omega
    go_enter Tryz.func19, Tryz.ntmps19
    go_wp2_with (first
      | (go_at_call 45; refine (HO.out _ ((Fr.refl New w).alloc _)).mono ?_; rintro e w1 ⟨v1, gs, rfl, hT1, hf1⟩; obtain ⟨a1, c1, rfl⟩ := own_slice hT1.own; have hcs : w1.cell? ⟨w.heap.size, 0, none⟩ = some (.slice av l.length cv) := ((block_cells (hf1.heap (Go.Deep.blk_alloc_new w _) id)).1 0).trans rfl)
      | fail)
    have hsb : (w.alloc (.cells #[.slice av l.length cv, .int .i64 r0, .int .i64 r1, .int .i64 r2, .int .i64 r3] 37)).heap[w.heap.size]? = some (.cells #[.slice av l.length cv, .int .i64 r0, .int .i64 r1, .int .i64 r2, .int .i64 r3] 37 (0, 0)) := Go.Deep.blk_alloc_new w _
    obtain ⟨sb, hsbe⟩ : ∃ sb, sb = w.heap.size := ⟨_, rfl⟩
    rw [← hsbe] at hsb
    rw [← hsbe]
    have HSB : Hid (∀ wr, Fr New w1 wr → wr.heap[sb]? = some (.cells #[.slice av l.length cv, .int .i64 r0, .int .i64 r1, .int .i64 r2, .int .i64 r3] 37 (0, 0))) := fun wr hf => (hf1.same hf).heap hsb id
    have HFW : Hid (∀ wr, Fr New w1 wr → Fr New w wr) := fun wr hf => (((Fr.refl New w).alloc _).same hf1).same hf
    clear hsb hsbe hf1
    go_loopg [6] l.length (fun gh t wr => ∃ i : Nat, i ≤ l.length ∧ gh = l.length - i ∧ t = .int .i64 i ∧ Fr New w1 wr ∧ ∀ j (hj : j < l.length) (hj' : j < lo.length), j < i → l[j] = (lo[j], objW now lo[j]))
    case atStart => exact ⟨0, by omega, rfl, rfl, Fr.refl _ _, fun j hj hj' h => by omega⟩
    case round =>
      obtain ⟨i, hil, rfl, rfl, hf2, hsame⟩ := hrel
      have HSM : Hid (∀ j (hj : j < l.length) (hj' : j < lo.length), j < i → l[j] = (lo[j], objW now lo[j])) := hsame
      clear hsame
      have hsh : wr.cell? ⟨sb, 0, none⟩ = some (.slice av l.length cv) := ((block_cells (HSB.out wr hf2)).1 0).trans rfl
      by_cases hi : i < l.length
      · have hd0 : decide ((i : Int) < (l.length : Int)) = true := by simp; omega
        have hio : i < lo.length := by omega
        obtain ⟨g1, cg1, hv1, hg1, gi1, hgi1, e0, e1, e2, e3, hr1⟩ := (hT1.fr hf2).at' i hio
        obtain ⟨g2, cg2, gi2, ci2, hv2, hg2, d0, d1, d2, d3, hr2, _, _, hgi2⟩ := (HT.out wr (HFW.out wr hf2)).at' i hi
        cases hv1
        cases hv2
        have hin := HIN.out lo[i] (List.getElem_mem _)
        have hfi := HFIT.out l[i] (List.getElem_mem _)
        have HSW : Hid (∀ w', Fr New wr w' → Calls Tryz.prog 28 #[.slice (some ⟨gi1, 0, none⟩) (8 * (lo[i]).span - 1) (8 * (lo[i]).span - 1), .slice (some ⟨gi2, 0, none⟩) (l[i]).2.length ci2] w' fun e w'' => e = .returned (.bool (decide (objW now lo[i] = (l[i]).2))) ∧ ∃ n, w'' = w'.drewN n) := fun w' hf => by
          have := ksame_any (some ⟨gi1, 0, none⟩) (some ⟨gi2, 0, none⟩) (8 * (lo[i]).span - 1) ci2 (objW now lo[i]) (l[i]).2 w' (by rw [objW_len]; unfold maxLen; omega) (rowU_fr hf hr1 (fun _ _ h => h)) (rowU_fr hf hr2 (fun _ _ h => h))
          rwa [objW_len] at this
        obtain ⟨o, ho⟩ : ∃ o, o = lo[i] := ⟨_, rfl⟩
        obtain ⟨x, hx⟩ : ∃ x, x = l[i] := ⟨_, rfl⟩
        rw [← ho] at e0 e1 e2 e3 hin HSW
        rw [← hx] at d0 d1 d2 d3 hfi HSW
        have HEQ : Hid (objW now o = x.2 → o.block = x.1.block → o.span = x.1.span → o.ptrs = x.1.ptrs → ∀ j (hj : j < l.length) (hj' : j < lo.length), j < i + 1 → l[j] = (lo[j], objW now lo[j])) := fun q1 q2 q3 q4 j hj hj' hji => by
          by_cases hj2 : j < i
          · exact HSM.out j hj hj' hj2
          · obtain rfl : j = i := by omega
            rw [← hx, ← ho, q1]
            obtain ⟨⟨xb, xs, xp⟩, xw⟩ := x
            obtain ⟨ob, os, op⟩ := o
            simp only at q2 q3 q4
            rw [q2, q3, q4]
        have HNE : Hid (IsIt now l r0 r1 r2 r3 → objW now o = x.2 ∧ o.block = x.1.block ∧ o.span = x.1.span ∧ o.ptrs = x.1.ptrs) := fun hit => by
          have h1 : l[i]? = some (o, objW now o) := by
            rw [hit.1, HTH.out, List.getElem?_map, List.getElem?_eq_getElem hio, ho]
            rfl
          rw [List.getElem?_eq_getElem hi, ← hx] at h1
          simp only [Option.some.injEq] at h1
          rw [h1]
          exact ⟨rfl, rfl, rfl, rfl⟩
        clear ho hx hr1 hr2 HSM
        obtain ⟨⟨xb, xs, xp⟩, xw⟩ := x
        obtain ⟨ob, os, op⟩ := o
        simp only at e0 e1 e2 e3 d0 d1 d2 d3 hin hfi HSW HEQ HNE
        obtain ⟨B1, hB1⟩ : ∃ B1 : Nat, B1 = ob + 1 := ⟨_, rfl⟩
        obtain ⟨B2, hB2⟩ : ∃ B2 : Nat, B2 = xb + 1 := ⟨_, rfl⟩
        rw [← hB1] at e0
        rw [← hB2] at d0
        have HBB : Hid (B1 = ob + 1 ∧ B2 = xb + 1) := ⟨hB1, hB2⟩
        have hB32 : B1 ≤ 32 ∧ B2 ≤ 32 := by omega
        clear hB1 hB2 hfi hin
        by_cases c1' : objW now ⟨ob, os, op⟩ = xw
        · have hw1 : decide (objW now ⟨ob, os, op⟩ = xw) = true := by simpa using c1'
          have C1 : Hid (objW now ⟨ob, os, op⟩ = xw) := c1'
          clear c1'
          by_cases c2' : B1 = B2
          · have hb1 : ((B1 : Int) != (B2 : Int)) = false := by simp; omega
            have C2 : Hid (B1 = B2) := c2'
            clear c2'
            by_cases c3' : os = xs
            · have hs1 : ((os : Int) != (xs : Int)) = false := by simp; omega
              have C3 : Hid (os = xs) := c3'
              clear c3'
              by_cases c4' : op = xp
              · have hp1 : ((op : Int) != (xp : Int)) = false := by simp; omega
                have C4 : Hid (op = xp) := c4'
                clear c4'
                go_wp2
                go_quiet (first | (go_at_call 28; refine Calls.quiet_of (HSW.out _ ?_); exact ((Fr.refl New wr).alloc _).drewN _) | fail)
                go_wp2
                go_quiet (fail)
                go_wp2
                go_roundg (l.length - (i + 1))
                case measure => omega
                case rel => exact ⟨i + 1, by omega, rfl, by go_num, (hf2.alloc _).drewN _, HEQ.out C1.out (by have := HBB.out; have := C2.out; omega) C3.out C4.out⟩
              · have hp1 : ((op : Int) != (xp : Int)) = true := by simp; omega
                go_wp2
                go_quiet (first | (go_at_call 28; refine Calls.quiet_of (HSW.out _ ?_); exact ((Fr.refl New wr).alloc _).drewN _) | fail)
                go_wp2
                go_quiet (fail)
                go_wp2
                go_ret
                exact ⟨false, rfl, ⟨(fun h => by cases h), fun h => absurd (HNE.out h) (fun hh => c4' hh.2.2.2)⟩, HFW.out _ (((hf2.alloc _).drewN _).drewN _)⟩
            · have hs1 : ((os : Int) != (xs : Int)) = true := by simp; omega
              go_wp2
              go_quiet (first | (go_at_call 28; refine Calls.quiet_of (HSW.out _ ?_); exact ((Fr.refl New wr).alloc _).drewN _) | fail)
              go_wp2
              go_quiet (fail)
              go_wp2
              go_ret
              exact ⟨false, rfl, ⟨(fun h => by cases h), fun h => absurd (HNE.out h) (fun hh => c3' hh.2.2.1)⟩, HFW.out _ (((hf2.alloc _).drewN _).drewN _)⟩
          · have hb1 : ((B1 : Int) != (B2 : Int)) = true := by simp; omega
            go_wp2
            go_quiet (first | (go_at_call 28; refine Calls.quiet_of (HSW.out _ ?_); exact ((Fr.refl New wr).alloc _).drewN _) | fail)
            go_wp2
            go_quiet (fail)
            go_wp2
            go_ret
            exact ⟨false, rfl, ⟨(fun h => by cases h), fun h => absurd (HNE.out h) (fun hh => c2' (by have := HBB.out; omega))⟩, HFW.out _ (((hf2.alloc _).drewN _).drewN _)⟩
        · have hw1 : decide (objW now ⟨ob, os, op⟩ = xw) = false := by simpa using c1'
          go_wp2
          go_quiet (first | (go_at_call 28; refine Calls.quiet_of (HSW.out _ ?_); exact ((Fr.refl New wr).alloc _).drewN _) | fail)
          go_wp2
          go_quiet (fail)
          go_wp2
          go_ret
          exact ⟨false, rfl, ⟨(fun h => by cases h), fun h => absurd (HNE.out h) (fun hh => c1' hh.1)⟩, HFW.out _ (((hf2.alloc _).drewN _).drewN _)⟩
      · obtain rfl : i = l.length := by omega
        have hd0 : decide ((l.length : Int) < (l.length : Int)) = false := by simp
        have HEQ : Hid (l = things now) := by
          rw [HTH.out]
          refine List.ext_getElem (by simp; omega) (fun j h1 h2 => ?_)
          rw [List.getElem_map]
          exact HSM.out j h1 (by omega) h1
        clear HSM hi hil
        go_wp2
        go_loopg [9] 4 (fun gh t wr => ∃ k : Nat, k ≤ 4 ∧ gh = 4 - k ∧ t = .int .i64 k ∧ Fr New w1 wr ∧ ∀ j, j < k → wrap64 (wd now (3 + j)) = root4 r0 r1 r2 r3 j)
        case atStart => exact ⟨0, by omega, rfl, rfl, hf2, fun j hj => by omega⟩
        case round =>
          clear hf2 hsh
          obtain ⟨k, hk4, rfl, rfl, hf3, hro⟩ := hrel
          have HRO : Hid (∀ j, j < k → wrap64 (wd now (3 + j)) = root4 r0 r1 r2 r3 j) := hro
          clear hro
          by_cases hk : k < 4
          · have HR : Hid (Calls Tryz.prog 41 #[.pointer (some ⟨hb, 0, none⟩), .int .i64 (k : Int)] wr fun e w' => e = .returned (.tuple #[.int .i64 (wrap64 (wd now (3 + k))), .int .i64 0]) ∧ w' = wr) := HRT.out wr (HFW.out wr hf3) k hk
            have hrc := root_cells (HSB.out wr hf3) k hk
            obtain ⟨x, hx⟩ : ∃ x, x = wrap64 (wd now (3 + k)) := ⟨_, rfl⟩
            obtain ⟨y, hy⟩ : ∃ y, y = root4 r0 r1 r2 r3 k := ⟨_, rfl⟩
            have HXY : Hid (x = y → ∀ j, j < k + 1 → wrap64 (wd now (3 + j)) = root4 r0 r1 r2 r3 j) := fun e j hj => by
              rcases (show j < k ∨ j = k by omega) with h' | rfl
              · exact HRO.out j h'
              · rw [← hx, ← hy]; exact e
            have HNE : Hid (IsIt now l r0 r1 r2 r3 → x = y) := fun hit => by rw [hx, hy]; exact hit.2 k hk
            rw [← hx] at HR
            rw [← hy] at hrc
            clear hx hy HRO
            by_cases c : x = y
            · have hxy : (x != y) = false := by simpa using c
              have C : Hid (x = y) := c
              clear c
              go_wp2_with (first
                | (go_at_call 41; refine calls_same HR.out ?_)
                | fail)
              go_roundg (4 - (k + 1))
              case measure => omega
              case rel => exact ⟨k + 1, by omega, rfl, by go_num, hf3, HXY.out C.out⟩
            · have hxy : (x != y) = true := by simpa using c
              go_wp2_with (first
                | (go_at_call 41; refine calls_same HR.out ?_)
                | fail)
              go_ret
              exact ⟨false, rfl, ⟨(fun h => by cases h), fun h => absurd (HNE.out h) c⟩, HFW.out _ hf3⟩
          · obtain rfl : k = 4 := by omega
            go_wp2
            go_ret
            exact ⟨true, rfl, ⟨fun _ => ⟨HEQ.out, HRO.out⟩, fun _ => rfl⟩, HFW.out _ hf3⟩
  · have hdl : ((lo.length : Int) != (l.length : Int)) = true := by simp; omega
    go_enter Tryz.func19, Tryz.ntmps19
    go_wp2_with (first
      | (go_at_call 45; refine (HO.out _ ((Fr.refl New w).alloc _)).mono ?_; rintro e w1 ⟨v1, gs, rfl, hT1, hf1⟩; obtain ⟨a1, c1, rfl⟩ := own_slice hT1.own; have hcs : w1.cell? ⟨w.heap.size, 0, none⟩ = some (.slice av l.length cv) := ((block_cells (hf1.heap (Go.Deep.blk_alloc_new w _) id)).1 0).trans rfl)
      | fail)
    go_ret
    refine ⟨false, rfl, ⟨(fun h => by cases h), fun h => absurd ?_ hlen⟩, ((Fr.refl New w).alloc _).same hf1⟩
    rw [h.1, HTH.out, List.length_map]
end Go.Proofs.YtbagcjlimdilpaaGreat
