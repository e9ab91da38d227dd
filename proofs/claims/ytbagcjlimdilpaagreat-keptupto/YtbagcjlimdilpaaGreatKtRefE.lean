/- The walk of the document's Check: it tells the first thing that is wrong, and its place. -/
import Derived.Test.YtbagcjlimdilpaaGreatKtJ1
import Derived.Test.YtbagcjlimdilpaaGreatKtJ4
namespace Go.Proofs.YtbagcjlimdilpaaGreat
open Go.RowKit

theorem lies_objs {w : World} {B : Nat} {v : Value} {ws : List Int} (h : OwnO B w v (objs ws)) : LiesO w v (objs ws) :=
  lies_own h (by have := objs_len ws; omega) (fun o ho => by have := objs_in ho; have := nblk_le ws.length; exact ⟨by omega, by omega, by omega⟩)
theorem within_objs (ws : List Int) : Within ws (objs ws) := fun _ ho => ⟨(objs_in ho).1, (objs_in ho).2.2.2.1⟩

theorem ret_two {c a b : Int} (h : a = b) : Ending.returned (.tuple #[.int .i64 c, .int .i64 a]) = .returned (.tuple #[.int .i64 c, .int .i64 b]) := by rw [h]

set_option maxHeartbeats 2000000 in
set_option maxRecDepth 1000000 in
theorem check_any (a : Option Addr) (cap : Nat) (ws : List Int) (w : World) (hm : ws.length ≤ 1048576) (hcap : ws.length ≤ cap) (hr : RowU w a ws) :
    Calls Tryz.prog 123 #[.slice a ws.length cap] w fun e w' => ∃ c p, e = .returned (.tuple #[.int .i64 c, .int .i64 p]) ∧ CheckIs ws c p ∧ Fr New w w' := by
  have HB : Hid (Calls Tryz.prog 127 #[.int .i64 ws.length] w fun e w' => e = .returned (.int .i64 (nblk ws.length)) ∧ w' = w) := blocks_any _ w (by omega)
  by_cases hn : nblk ws.length = 0
  · have HT : Hid (CheckIs ws 2 0) := .inl ⟨hn, rfl, rfl⟩
    rw [hn] at HB
    clear hn hr
    go_enter Tryz.func123, Tryz.ntmps123
    go_wp2_with (go_at_call 127; refine calls_same HB.out ?_)
    go_ret2
    exact ⟨2, 0, rfl, HT.out, Fr.refl _ _⟩
  obtain ⟨hlen, hn1, hn2⟩ := nblk_some hn
  obtain ⟨sb, so, rfl, hsb, hcw⟩ := rowU_plain hr (by omega)
  have c0 := hcw 0 (by omega)
  have c1 := hcw 1 (by omega)
  have c7 := hcw 7 (by omega)
  have c8 := hcw 8 (by omega)
  have HR : Hid (∀ wr, Fr New w wr → RowU wr (some ⟨sb, so, none⟩) ws) := fun wr hf => rowU_fr hf hr (fun _ _ h => h)
  have HW : Hid (∀ wr, Fr New w wr → ∀ i, i < ws.length → wr.cell? ⟨sb, so + i, none⟩ = some (.int .u64 (wd ws i))) := fun wr hf i hi => hf.cell (hcw i hi) id
  have HS : Hid (Calls Tryz.prog 121 #[.slice (some ⟨sb, so, none⟩) 7 cap] w fun e w' => e = .returned (.int .u64 (sumL (ws.take 7))) ∧ w' = w) := rsum_any _ 7 cap (ws.take 7) w (by simp; omega) (by decide) (rowU_take hr 7)
  have HWK : Hid (Calls Tryz.prog 126 #[.slice (some ⟨sb, so, none⟩) ws.length cap] w fun e w' => ∃ vl vb, e = .returned (.tuple #[vl, vb]) ∧ OwnO w.heap.size w' vl (objs ws) ∧ OwnN w.heap.size w' vb (bads ws) ∧ Fr New w w') := walk_any _ cap ws w hn hr
  have HN0 : Hid (nblk ws.length ≠ 0) := hn
  have HLN : Hid (ws.length = 106 + 8 * nblk ws.length) := hlen
  obtain ⟨n, hnn⟩ : ∃ n, n = nblk ws.length := ⟨_, rfl⟩
  have HNN : Hid (n = nblk ws.length) := hnn
  rw [← hnn] at hn1 hn2 HB
  obtain ⟨x0, hx0⟩ : ∃ x, x = wd ws 0 := ⟨_, rfl⟩
  obtain ⟨x1, hx1⟩ : ∃ x, x = wd ws 1 := ⟨_, rfl⟩
  obtain ⟨x7, hx7⟩ : ∃ x, x = wd ws 7 := ⟨_, rfl⟩
  obtain ⟨x8, hx8⟩ : ∃ x, x = wd ws 8 := ⟨_, rfl⟩
  obtain ⟨sm, hsm⟩ : ∃ x, x = sumL (ws.take 7) := ⟨_, rfl⟩
  have h9 : 114 ≤ ws.length := by omega
  rw [← hx0, Nat.add_zero] at c0
  rw [← hx1] at c1
  rw [← hx7] at c7
  rw [← hx8] at c8
  rw [← hsm] at HS
  have HX : Hid (x0 = wd ws 0 ∧ x1 = wd ws 1 ∧ x7 = wd ws 7 ∧ x8 = wd ws 8 ∧ sm = sumL (ws.take 7)) := ⟨hx0, hx1, hx7, hx8, hsm⟩
  have hw1 : IntKind.u64.wrap (n : Int) = n := by rw [IntKind.wrap_u64]; omega
  clear hlen hn hnn hx0 hx1 hx7 hx8 hsm hr hcw
  by_cases t0 : x0 = 20261114
  case neg =>
    have HT : Hid (CheckIs ws 3 0) := .inr ⟨HN0.out, .inl ⟨by rw [← HX.out.1]; exact t0, rfl, rfl⟩⟩
    have ht : (x0 != 20261114) = true := by simpa using t0
    go_enter Tryz.func123, Tryz.ntmps123
    go_wp2_with (go_at_call 127; refine calls_same HB.out ?_)
    go_ret2
    exact ⟨3, 0, rfl, HT.out, Fr.refl _ _⟩
  case pos =>
  by_cases t1 : x1 = n
  case neg =>
    have HT : Hid (CheckIs ws 3 1) := .inr ⟨HN0.out, .inr ⟨by rw [← HX.out.1]; simpa using t0, .inl ⟨by rw [← HX.out.2.1, ← HNN.out]; exact t1, rfl, rfl⟩⟩⟩
    have ht : (x1 != (n : Int)) = true := by simpa using t1
    go_enter Tryz.func123, Tryz.ntmps123
    go_wp2_with (go_at_call 127; refine calls_same HB.out ?_)
    go_ret2
    exact ⟨3, 1, rfl, HT.out, Fr.refl _ _⟩
  case pos =>
  by_cases t7 : x7 = sm
  case neg =>
    have HT : Hid (CheckIs ws 3 7) := .inr ⟨HN0.out, .inr ⟨by rw [← HX.out.1]; simpa using t0, .inr ⟨by rw [← HX.out.2.1, ← HNN.out]; simpa using t1, .inl ⟨by rw [← HX.out.2.2.1, ← HX.out.2.2.2.2]; exact t7, rfl, rfl⟩⟩⟩⟩
    have ht : (x7 != sm) = true := by simpa using t7
    go_enter Tryz.func123, Tryz.ntmps123
    go_wp2_with (first | (go_at_call 127; refine calls_same HB.out ?_) | (go_at_call 121; refine calls_same HS.out ?_))
    go_ret2
    exact ⟨3, 7, rfl, HT.out, Fr.refl _ _⟩
  case pos =>
  by_cases t8 : x8 = 0
  case neg =>
    have HT : Hid (CheckIs ws 4 8) := .inr ⟨HN0.out, .inr ⟨by rw [← HX.out.1]; simpa using t0, .inr ⟨by rw [← HX.out.2.1, ← HNN.out]; simpa using t1, .inr ⟨by rw [← HX.out.2.2.1, ← HX.out.2.2.2.2]; simpa using t7, .inl ⟨by rw [← HX.out.2.2.2.1]; exact t8, rfl, rfl⟩⟩⟩⟩⟩
    have ht : (x8 != 0) = true := by simpa using t8
    go_enter Tryz.func123, Tryz.ntmps123
    go_wp2_with (first | (go_at_call 127; refine calls_same HB.out ?_) | (go_at_call 121; refine calls_same HS.out ?_))
    go_ret2
    exact ⟨4, 8, rfl, HT.out, Fr.refl _ _⟩
  case pos =>
  have HA0 : Hid (Clear (headT ws)) := by
    intro y hy
    simp only [headT, List.mem_cons, List.not_mem_nil, or_false] at hy
    rcases hy with rfl | rfl | rfl | rfl | rfl
    · exact HN0.out
    · rw [← HX.out.1]; simpa using t0
    · rw [← HX.out.2.1, ← HNN.out]; simpa using t1
    · rw [← HX.out.2.2.1, ← HX.out.2.2.2.2]; simpa using t7
    · rw [← HX.out.2.2.2.1]; simpa using t8
  rcases hbd : bads ws with _ | ⟨p, r⟩
  case cons =>
    have HT : Hid (CheckIs ws 5 p) := check_bad HA0.out hbd
    rw [hbd] at HWK
    clear hbd
    go_enter Tryz.func123, Tryz.ntmps123
    go_wp2_with (first
      | (go_at_call 127; refine calls_same HB.out ?_)
      | (go_at_call 121; refine calls_same HS.out ?_)
      | (go_at_call 126; refine HWK.out.mono ?_; rintro e w1 ⟨vl, vb, rfl, hol, hob, hf1⟩; obtain ⟨gb, cb, rfl, _, _⟩ := hob.form (by simp); have hcb : w1.cell? ⟨gb, 0, none⟩ = some (.int .i64 (p : Int)) := (hob.cellAt 0 (by simp)).trans rfl))
    go_quiet (fail)
    go_wp2
    go_ret2
    exact ⟨5, p, rfl, HT.out, hf1.drewN _⟩
  case nil =>
  have HA : Hid (Clear (headT ws ++ badT ws)) := clear_bad HA0.out hbd
  rw [hbd] at HWK
  clear hbd HA0
  obtain ⟨l, hl⟩ : ∃ l, l = objs ws := ⟨_, rfl⟩
  have HL : Hid (l = objs ws) := hl
  clear hl
  have hn0 : ((n : Int) == 0) = false := by simp; omega
  go_enter Tryz.func123, Tryz.ntmps123
  go_wp2_with (first
    | (go_at_call 127; refine calls_same HB.out ?_)
    | (go_at_call 121; refine calls_same HS.out ?_)
    | (go_at_call 126; refine HWK.out.mono ?_; rintro e w1 ⟨vl, vb, rfl, hol, hob, hf1⟩; have hlo := lies_objs hol; rw [← HL.out] at hlo; obtain ⟨ab, cb, rfl⟩ := own_slice hob; clear hob hol))
  have HV : Hid (∀ wr, Fr New w1 wr → LiesO wr vl l) := fun wr hf => hlo.fr hf (fun _ _ h => h)
  obtain ⟨av, cv, rfl, hll, hbo, hcl⟩ := hlo
  have HC : Hid (0 < l.length → ∃ g, av = some ⟨g, 0, none⟩ ∧ ∀ wr, Fr New w1 wr → ∀ i (hi : i < l.length), wr.cell? ⟨g, i * 3, none⟩ = some (.int .i64 (l[i]).block) ∧ wr.cell? ⟨g, i * 3 + 1, none⟩ = some (.int .i64 (l[i]).span) ∧ wr.cell? ⟨g, i * 3 + 2, none⟩ = some (.int .i64 (l[i]).ptrs)) := by
    intro hp
    obtain ⟨g, e, _, hc⟩ := hcl hp
    exact ⟨g, e, fun wr hf i hi => ⟨hf.cell (hc i hi).1 id, hf.cell (hc i hi).2.1 id, hf.cell (hc i hi).2.2 id⟩⟩
  have HBO : Hid (∀ o ∈ l, o.block ≤ 1048576 ∧ o.span ≤ 4 ∧ o.ptrs < 32) := hbo
  have HIN : Hid (Within ws l) := by rw [HL.out]; exact within_objs ws
  clear hcl hbo HB HS HWK c0 c1 c7 c8
  go_loopg [8] 4 (fun gh t wr => ∃ r : Nat, r ≤ 4 ∧ gh = 4 - r ∧ t = .int .i64 r ∧ wr = w1 ∧ Clear ((List.range r).map (rootT ws l)))
  case atStart => exact ⟨0, by omega, rfl, rfl, rfl, clear_nil⟩
  case round =>
    obtain ⟨r, hr4, rfl, rfl, hwr, hclr⟩ := hrel
    obtain rfl := hwr.symm
    clear hwr
    by_cases hr : r < 4
    · have hc : w1.cell? ⟨sb, so + (3 + r), none⟩ = some (.int .u64 (wd ws (3 + r))) := HW.out w1 hf1 (3 + r) (by omega)
      have HF : Hid (Calls Tryz.prog 130 #[.slice av l.length cv, .int .u64 (wd ws (3 + r))] w1 fun e w' => e = .returned (.int .i64 (findI l (wd ws (3 + r)))) ∧ w' = w1) := find_any _ l _ w1 (HV.out w1 (Fr.refl _ _))
      obtain ⟨h, hh⟩ : ∃ h, h = wd ws (3 + r) := ⟨_, rfl⟩
      rw [← hh] at hc HF
      have HH : Hid (h = wd ws (3 + r)) := hh
      clear hh
      by_cases h0 : h = 0
      · have hnx := clear_range hclr (show ¬ (wd ws (3 + r) ≠ 0 ∧ idx l (wd ws (3 + r)) = none) from fun hx => hx.1 (by rw [← HH.out]; exact h0))
        subst h0
        go_wp2
        go_roundg (4 - (r + 1))
        case measure => omega
        case rel => exact ⟨r + 1, by omega, rfl, by go_num, rfl, hnx⟩
      · have hd0 : (h != 0) = true := by simpa using h0
        rcases hx : idx l h with _ | k
        · have HT : Hid (CheckIs ws 6 ((3 + r : Nat) : Int)) := check_root HA.out hr (by rw [← HL.out]; exact hclr) ⟨by rw [← HH.out]; exact h0, by rw [← HH.out, ← HL.out]; exact hx⟩
          rw [findI_none hx] at HF
          clear hx
          go_wp2_with (go_at_call 130; refine calls_same HF.out ?_)
          go_ret2
          exact ⟨6, ((3 + r : Nat) : Int), by go_num, HT.out, hf1⟩
        · have hnx := clear_range hclr (show ¬ (wd ws (3 + r) ≠ 0 ∧ idx l (wd ws (3 + r)) = none) from fun hx' => by rw [← HH.out, hx] at hx'; cases hx'.2)
          rw [findI_some hx] at HF
          clear hx
          go_wp2_with (go_at_call 130; refine calls_same HF.out ?_)
          go_roundg (4 - (r + 1))
          case measure => omega
          case rel => exact ⟨r + 1, by omega, rfl, by go_num, rfl, hnx⟩
    · obtain rfl : r = 4 := by omega
      have HRC : Hid (Clear ((List.range 4).map (rootT ws (objs ws)))) := by rw [← HL.out]; exact hclr
      clear hclr hr hr4
      go_wp2
      go_loopg [9] l.length (fun gh t wr => ∃ i : Nat, i ≤ l.length ∧ gh = l.length - i ∧ t = .int .i64 i ∧ Fr New w1 wr ∧ Clear ((l.take i).flatMap (ptrsT ws l)))
      case atStart => exact ⟨0, by omega, rfl, rfl, Fr.refl _ _, clear_nil⟩
      case round =>
        obtain ⟨i, hil, rfl, rfl, hf2, hclp⟩ := hrel
        by_cases hi : i < l.length
        · obtain ⟨g, rfl, hcells⟩ := HC.out (by omega)
          obtain ⟨hb1, hb2, hb3⟩ := HBO.out l[i] (List.getElem_mem _)
          obtain ⟨hw1', hw2'⟩ := HIN.out l[i] (List.getElem_mem _)
          obtain ⟨o, ho⟩ : ∃ o, o = l[i] := ⟨_, rfl⟩
          have HO : Hid (o = l[i]) := ho
          have HCI : Hid (∀ w3, Fr New w1 w3 → w3.cell? ⟨g, i * 3, none⟩ = some (.int .i64 o.block) ∧ w3.cell? ⟨g, i * 3 + 1, none⟩ = some (.int .i64 o.span) ∧ w3.cell? ⟨g, i * 3 + 2, none⟩ = some (.int .i64 o.ptrs)) := by rw [ho]; exact fun w3 hf => hcells w3 hf i hi
          rw [← ho] at hb1 hb2 hb3 hw1' hw2'
          clear ho hcells
          go_wp2
          go_loopg [10] o.ptrs (fun gh t wr => ∃ p : Nat, p ≤ o.ptrs ∧ gh = o.ptrs - p ∧ t = .int .i64 p ∧ Fr New w1 wr ∧ Clear ((List.range p).map (ptrT ws l o)))
          case atStart => exact ⟨0, by omega, rfl, rfl, hf2, clear_nil⟩
          case round =>
            obtain ⟨p, hpp, rfl, rfl, hf3, hclq⟩ := hrel
            obtain ⟨e0, e1, e2⟩ := HCI.out wr hf3
            by_cases hp : p < o.ptrs
            · have HPL : Hid (Calls Tryz.prog 129 #[.agg #[.int .i64 o.block, .int .i64 o.span, .int .i64 o.ptrs], .int .i64 p] wr fun e w' => e = .returned (.int .i64 (106 + 8 * (o.block : Int) + 1 + p)) ∧ Fr New wr w') := place_any o p wr hb1 (by omega) (by omega)
              obtain ⟨h, hh⟩ : ∃ h, h = wd ws (pl o p) := ⟨_, rfl⟩
              have HCW : Hid (∀ w3, Fr New w1 w3 → w3.cell? ⟨sb, so + (106 + 8 * o.block + 1 + p), none⟩ = some (.int .u64 h)) := by rw [hh]; exact fun w3 hf => HW.out w3 (hf1.same hf) _ (by omega)
              have HFI : Hid (∀ w3, Fr New w1 w3 → Calls Tryz.prog 130 #[.slice (some ⟨g, 0, none⟩) l.length cv, .int .u64 h] w3 fun e w' => e = .returned (.int .i64 (findI l h)) ∧ w' = w3) := fun w3 hf => find_any _ l _ w3 (HV.out w3 hf)
              have HH : Hid (h = wd ws (pl o p)) := hh
              clear hh
              by_cases h0 : h = 0
              · have hnx := clear_range hclq (show ¬ (wd ws (pl o p) ≠ 0 ∧ idx l (wd ws (pl o p)) = none) from fun hx => hx.1 (by rw [← HH.out]; exact h0))
                subst h0
                go_wp2_with (first
                  | (go_at_call 129; refine HPL.out.mono ?_; rintro e w2 ⟨rfl, hf2'⟩; have hf4 := hf3.same hf2'; have hcw := HCW.out w2 hf4)
                  | fail)
                go_roundg (o.ptrs - (p + 1))
                case measure => omega
                case rel => exact ⟨p + 1, by omega, rfl, by go_num, hf4, hnx⟩
              · have hd0 : (h != 0) = true := by simpa using h0
                rcases hx : idx l h with _ | k
                · have HT : Hid (CheckIs ws 7 ((pl o p : Nat) : Int)) := by
                    have := check_ptr HA.out HRC.out (i := i) (by rw [← HL.out]; exact hi) (by rw [← HL.out]; exact hclp) (p := p)
                    simp only [← HL.out, ← HO.out] at this
                    exact this hp hclq ⟨by rw [← HH.out]; exact h0, by rw [← HH.out]; exact hx⟩
                  have HF2 : Hid (∀ w3, Fr New w1 w3 → Calls Tryz.prog 130 #[.slice (some ⟨g, 0, none⟩) l.length cv, .int .u64 h] w3 fun e w' => e = .returned (.int .i64 (-1)) ∧ w' = w3) := by rw [← findI_none hx]; exact HFI.out
                  clear hx HFI
                  go_wp2_with (first
                    | (go_at_call 129; refine HPL.out.mono ?_; rintro e w2 ⟨rfl, hf2'⟩; have hf4 := hf3.same hf2'; have hcw := HCW.out w2 hf4)
                    | (go_at_call 130; refine calls_same (HF2.out w2 hf4) ?_)
                    | fail)
                  go_ret2
                  exact ⟨7, ((pl o p : Nat) : Int), ret_two (by unfold pl; omega), HT.out, hf1.same hf4⟩
                · have hnx := clear_range hclq (show ¬ (wd ws (pl o p) ≠ 0 ∧ idx l (wd ws (pl o p)) = none) from fun hx' => by rw [← HH.out, hx] at hx'; cases hx'.2)
                  have HF2 : Hid (∀ w3, Fr New w1 w3 → Calls Tryz.prog 130 #[.slice (some ⟨g, 0, none⟩) l.length cv, .int .u64 h] w3 fun e w' => e = .returned (.int .i64 k) ∧ w' = w3) := by rw [← findI_some hx]; exact HFI.out
                  clear hx HFI
                  go_wp2_with (first
                    | (go_at_call 129; refine HPL.out.mono ?_; rintro e w2 ⟨rfl, hf2'⟩; have hf4 := hf3.same hf2'; have hcw := HCW.out w2 hf4)
                    | (go_at_call 130; refine calls_same (HF2.out w2 hf4) ?_)
                    | fail)
                  go_roundg (o.ptrs - (p + 1))
                  case measure => omega
                  case rel => exact ⟨p + 1, by omega, rfl, by go_num, hf4, hnx⟩
            · obtain rfl : p = o.ptrs := by omega
              have hnx := clear_ptrs (ws := ws) (l := l) hi hclp (by rw [← HO.out]; exact hclq)
              go_wp2
              go_roundg (l.length - (i + 1))
              case measure => omega
              case rel => exact ⟨i + 1, by omega, rfl, by go_num, hf3, hnx⟩
        · obtain rfl : i = l.length := by omega
          have HPC : Hid (Clear ((objs ws).flatMap (ptrsT ws (objs ws)))) := by rw [List.take_length] at hclp; rw [← HL.out]; exact hclp
          have HRE : Hid (Calls Tryz.prog 149 #[.slice (some ⟨sb, so, none⟩) ws.length cap, .slice av l.length cv] wr fun e w' => ∃ out : List Bool, e = .returned (.slice (some ⟨wr.heap.size, 0, none⟩) l.length l.length) ∧ BRow w' wr.heap.size out ∧ out.length = l.length ∧ (∀ i, out[i]? = some true ↔ Reach ws l i) ∧ Fr New wr w') :=
            reached_any _ cap ws _ l wr hm (by omega) (HR.out wr (hf1.same hf2)) (HV.out wr hf2) HIN.out
          clear hclp
          go_wp2_with (first
            | (go_at_call 149; refine HRE.out.mono ?_; rintro e w5 ⟨out, rfl, hrow, hol, hreach, hf5⟩; have HRC' : Hid (∀ i, out[i]? = some true ↔ Reach ws l i) := hreach; have HOL : Hid (out.length = l.length) := hol; clear hreach hol)
            | fail)
          have hf6 := hf2.same hf5
          clear HRE hf5
          go_loopg [13] l.length (fun gh t w6 => ∃ i : Nat, i ≤ l.length ∧ gh = l.length - i ∧ t = .int .i64 i ∧ w6 = w5 ∧ Clear ((List.range i).map (leakT ws l)))
          case atStart => exact ⟨0, by omega, rfl, rfl, rfl, clear_nil⟩
          case round =>
            obtain ⟨i, hil', rfl, rfl, hwr, hcll⟩ := hrel
            obtain rfl := hwr.symm
            clear hwr
            by_cases hi' : i < l.length
            · have hio : i < out.length := by rw [HOL.out]; exact hi'
              have hci := hrow.cell i hio
              rcases hoi : out[i] with _ | _
              · rw [hoi] at hci
                obtain ⟨g, rfl, hcells⟩ := HC.out (by omega)
                obtain ⟨e0, e1, e2⟩ := hcells w5 hf6 i hi'
                obtain ⟨hb1, hb2, hb3⟩ := HBO.out l[i] (List.getElem_mem _)
                have HT : Hid (CheckIs ws 8 ((106 + 8 * (l[i]).block : Nat) : Int)) := by
                  have := check_leak HA.out HRC.out HPC.out (i := i) (by rw [← HL.out]; exact hi') (by rw [← HL.out]; exact hcll)
                  simp only [← HL.out] at this
                  refine this (fun hx => ?_)
                  have h2 := (HRC'.out i).2 hx
                  rw [List.getElem?_eq_getElem hio, hoi] at h2
                  cases h2
                obtain ⟨o, ho⟩ : ∃ o, o = l[i] := ⟨_, rfl⟩
                rw [← ho] at e0 e1 e2 hb1 hb2 hb3 HT
                have HPL : Hid (Calls Tryz.prog 129 #[.agg #[.int .i64 o.block, .int .i64 o.span, .int .i64 o.ptrs], .int .i64 (-1)] w5 fun e w' => e = .returned (.int .i64 (106 + 8 * (o.block : Int) + 1 + (-1))) ∧ Fr New w5 w') := place_any o (-1) w5 hb1 (by omega) (by omega)
                clear ho hcells hoi hcll
                go_wp2_with (first
                  | (go_at_call 129; refine HPL.out.mono ?_; rintro e w7 ⟨rfl, hf7⟩)
                  | fail)
                go_ret2
                exact ⟨8, ((106 + 8 * o.block : Nat) : Int), ret_two (by omega), HT.out, hf1.same (hf6.same hf7)⟩
              · rw [hoi] at hci
                have hnx := clear_range hcll (show ¬ ¬ Reach ws l i from fun hx => hx ((HRC'.out i).1 (by rw [List.getElem?_eq_getElem hio, hoi])))
                clear hoi
                go_wp2
                go_roundg (l.length - (i + 1))
                case measure => omega
                case rel => exact ⟨i + 1, by omega, rfl, by go_num, rfl, hnx⟩
            · obtain rfl : i = l.length := by omega
              have HT : Hid (CheckIs ws 0 0) := check_ok HA.out HRC.out HPC.out (by rw [← HL.out]; exact hcll)
              go_wp2
              go_ret2
              exact ⟨0, 0, rfl, HT.out, hf1.same hf6⟩
end Go.Proofs.YtbagcjlimdilpaaGreat
