/- Texts that follow one another, joined. -/
import Derived.Test.YtbagcjlimdilpaaGreatKtJ0
import Derived.Test.YtbagcjlimdilpaaGreatKtJ3
/- The walk of the document's Check: it tells the first thing that is wrong, and its place. -/
namespace Go.Proofs.YtbagcjlimdilpaaGreat
open Go.RowKit

theorem lies_objs {w : World} {B : Nat} {v : Value} {ws : List Int} (h : OwnO B w v (objs ws)) : LiesO w v (objs ws) :=
  lies_own h (by have := objs_len ws; omega) (fun o ho => by have := objs_in ho; have := nblk_le ws.length; exact ⟨by omega, by omega, by omega⟩)
theorem within_objs (ws : List Int) : Within ws (objs ws) := fun _ ho => ⟨(objs_in ho).1, (objs_in ho).2.2.2.1⟩

theorem ret_two {c a b : Int} (h : a = b) : Ending.returned (.tuple #[.int .i64 c, .int .i64 a]) = .returned (.tuple #[.int .i64 c, .int .i64 b]) := by rw [h]

set_option maxHeartbeats 2000000 in
set_option maxRecDepth 1000000 in
theorem check_any (a : Option Addr) (cap : Nat) (ws : List Int) (w : World) (hm : ws.length ≤ 1048576) (hcap : ws.length ≤ cap) (hr : RowU w a ws) :
    Calls Tryz.prog 123 #[.slice a ws.length cap] w fun e w' => ∃ c p, e = .returned (.tuple #[.int .i64 c, .int .i64 p]) ∧ CheckIs ws c p ∧ Fr New w w' := by
  have HB : Hid (Calls Tryz.prog 127 #[.int .i64 ws.length] w fun e w' => e = .returned (.int .i64 (nblk ws.length)) ∧ w' = w) := blocks_any _ w (by omega)
  by_cases hn : nblk ws.length = 0
  · have HT : Hid (CheckIs ws 2 0) := .inl ⟨hn, rfl, rfl⟩
    rw [hn] at HB
    clear hn hr
    go_enter Tryz.func123, Tryz.ntmps123
    go_wp2_with (go_at_call 127; refine calls_same HB.out ?_)
    go_ret2
    exact ⟨2, 0, rfl, HT.out, Fr.refl _ _⟩
  obtain ⟨hlen, hn1, hn2⟩ := nblk_some hn
  obtain ⟨sb, so, rfl, hsb, hcw⟩ := rowU_plain hr (by omega)
  have c0 := hcw 0 (by omega)
  have c1 := hcw 1 (by omega)
  have c7 := hcw 7 (by omega)
  have c8 := hcw 8 (by omega)
  have HR : Hid (∀ wr, Fr New w wr → RowU wr (some ⟨sb, so, none⟩) ws) := fun wr hf => rowU_fr hf hr (fun _ _ h => h)
  have HW : Hid (∀ wr, Fr New w wr → ∀ i, i < ws.length → wr.cell? ⟨sb, so + i, none⟩ = some (.int .u64 (wd ws i))) := fun wr hf i hi => hf.cell (hcw i hi) id
  have HS : Hid (Calls Tryz.prog 121 #[.slice (some ⟨sb, so, none⟩) 7 cap] w fun e w' => e = .returned (.int .u64 (sumL (ws.take 7))) ∧ w' = w) := rsum_any _ 7 cap (ws.take 7) w (by simp; omega) (by decide) (rowU_take hr 7)
  have HWK : Hid (Calls Tryz.prog 126 #[.slice (some ⟨sb, so, none⟩) ws.length cap] w fun e w' => ∃ vl vb, e = .returned (.tuple #[vl, vb]) ∧ OwnO w.heap.size w' vl (objs ws) ∧ OwnN w.heap.size w' vb (bads ws) ∧ Fr New w w') := walk_any _ cap ws w hn hr
  have HN0 : Hid (nblk ws.length ≠ 0) := hn
  have HLN : Hid (ws.length = 106 + 8 * nblk ws.length) := hlen
  obtain ⟨n, hnn⟩ : ∃ n, n = nblk ws.length := ⟨_, rfl⟩
  have HNN : Hid (n = nblk ws.length) := hnn
  rw [← hnn] at hn1 hn2 HB
  obtain ⟨x0, hx0⟩ : ∃ x, x = wd ws 0 := ⟨_, rfl⟩
  obtain ⟨x1, hx1⟩ : ∃ x, x = wd ws 1 := ⟨_, rfl⟩
  obtain ⟨x7, hx7⟩ : ∃ x, x = wd ws 7 := ⟨_, rfl⟩
  obtain ⟨x8, hx8⟩ : ∃ x, x = wd ws 8 := ⟨_, rfl⟩
  obtain ⟨sm, hsm⟩ : ∃ x, x = sumL (ws.take 7) := ⟨_, rfl⟩
  have h9 : 114 ≤ ws.length := by omega
  rw [← hx0, Nat.add_zero] at c0
  rw [← hx1] at c1
  rw [← hx7] at c7
  rw [← hx8] at c8
  rw [← hsm] at HS
  have HX : Hid (x0 = wd ws 0 ∧ x1 = wd ws 1 ∧ x7 = wd ws 7 ∧ x8 = wd ws 8 ∧ sm = sumL (ws.take 7)) := ⟨hx0, hx1, hx7, hx8, hsm⟩
  have hw1 : IntKind.u64.wrap (n : Int) = n := by rw [IntKind.wrap_u64]; omega
  clear hlen hn hnn hx0 hx1 hx7 hx8 hsm hr hcw
  by_cases t0 : x0 = 20261114
  case neg =>
    have HT : Hid (CheckIs ws 3 0) := .inr ⟨HN0.out, .inl ⟨by rw [← HX.out.1]; exact t0, rfl, rfl⟩⟩
    have ht : (x0 != 20261114) = true := by simpa using t0
    go_enter Tryz.func123, Tryz.ntmps123
    go_wp2_with (go_at_call 127; refine calls_same HB.out ?_)
    go_ret2
    exact ⟨3, 0, rfl, HT.out, Fr.refl _ _⟩
  case pos =>
  by_cases t1 : x1 = n
  case neg =>
    have HT : Hid (CheckIs ws 3 1) := .inr ⟨HN0.out, .inr ⟨by rw [← HX.out.1]; simpa using t0, .inl ⟨by rw [← HX.out.2.1, ← HNN.out]; exact t1, rfl, rfl⟩⟩⟩
    have ht : (x1 != (n : Int)) = true := by simpa using t1
    go_enter Tryz.func123, Tryz.ntmps123
    go_wp2_with (go_at_call 127; refine calls_same HB.out ?_)
    go_ret2
    exact ⟨3, 1, rfl, HT.out, Fr.refl _ _⟩
  case pos =>
  by_cases t7 : x7 = sm
  case neg =>
    have HT : Hid (CheckIs ws 3 7) := .inr ⟨HN0.out, .inr ⟨by rw [← HX.out.1]; simpa using t0, .inr ⟨by rw [← HX.out.2.1, ← HNN.out]; simpa using t1, .inl ⟨by rw [← HX.out.2.2.1, ← HX.out.2.2.2.2]; exact t7, rfl, rfl⟩⟩⟩⟩
    have ht : (x7 != sm) = true := by simpa using t7
    go_enter Tryz.func123, Tryz.ntmps123
    go_wp2_with (first | (go_at_call 127; refine calls_same HB.out ?_) | (go_at_call 121; refine calls_same HS.out ?_))
    go_ret2
    exact ⟨3, 7, rfl, HT.out, Fr.refl _ _⟩
  case pos =>
  by_cases t8 : x8 = 0
  case neg =>
    have HT : Hid (CheckIs ws 4 8) := .inr ⟨HN0.out, .inr ⟨by rw [← HX.out.1]; simpa using t0, .inr ⟨by rw [← HX.out.2.1, ← HNN.out]; simpa using t1, .inr ⟨by rw [← HX.out.2.2.1, ← HX.out.2.2.2.2]; simpa using t7, .inl ⟨by rw [← HX.out.2.2.2.1]; exact t8, rfl, rfl⟩⟩⟩⟩⟩
    have ht : (x8 != 0) = true := by simpa using t8
    go_enter Tryz.func123, Tryz.ntmps123
    go_wp2_with (first | (go_at_call 127; refine calls_same HB.out ?_) | (go_at_call 121; refine calls_same HS.out ?_))
    go_ret2
    exact ⟨4, 8, rfl, HT.out, Fr.refl _ _⟩
  case pos =>
  have HA0 : Hid (Clear (headT ws)) := by
    intro y hy
    simp only [headT, List.mem_cons, List.not_mem_nil, or_false] at hy
    rcases hy with rfl | rfl | rfl | rfl | rfl
    · exact HN0.out
    · rw [← HX.out.1]; simpa using t0
    · rw [← HX.out.2.1, ← HNN.out]; simpa using t1
    · rw [← HX.out.2.2.1, ← HX.out.2.2.2.2]; simpa using t7
    · rw [← HX.out.2.2.2.1]; simpa using t8
  rcases hbd : bads ws with _ | ⟨p, r⟩
  case cons =>
    have HT : Hid (CheckIs ws 5 p) := check_bad HA0.out hbd
    rw [hbd] at HWK
    clear hbd
    go_enter Tryz.func123, Tryz.ntmps123
    go_wp2_with (first
      | (go_at_call 127; refine calls_same HB.out ?_)
      | (go_at_call 121; refine calls_same HS.out ?_)
      | (go_at_call 126; refine HWK.out.mono ?_; rintro e w1 ⟨vl, vb, rfl, hol, hob, hf1⟩; obtain ⟨gb, cb, rfl, _, _⟩ := hob.form (by simp); have hcb : w1.cell? ⟨gb, 0, none⟩ = some (.int .i64 (p : Int)) := (hob.cellAt 0 (by simp)).trans rfl))
    go_quiet (fail)
    go_wp2
    go_ret2
    exact ⟨5, p, rfl, HT.out, hf1.drewN _⟩
  case nil =>
  have HA : Hid (Clear (headT ws ++ badT ws)) := clear_bad HA0.out hbd
  rw [hbd] at HWK
  clear hbd HA0
  obtain ⟨l, hl⟩ : ∃ l, l = objs ws := ⟨_, rfl⟩
  have HL : Hid (l = objs ws) := hl
  clear hl
  have hn0 : ((n : Int) == 0) = false := by simp; omega
  go_enter Tryz.func123, Tryz.ntmps123
  go_wp2_with (first
    | (go_at_call 127; refine calls_same HB.out ?_)
    | (go_at_call 121; refine calls_same HS.out ?_)
    | (go_at_call 126; refine HWK.out.mono ?_; rintro e w1 ⟨vl, vb, rfl, hol, hob, hf1⟩; have hlo := lies_objs hol; rw [← HL.out] at hlo; obtain ⟨ab, cb, rfl⟩ := own_slice hob; clear hob hol))
  have HV : Hid (∀ wr, Fr New w1 wr → LiesO wr vl l) := fun wr hf => hlo.fr hf (fun _ _ h => h)
  obtain ⟨av, cv, rfl, hll, hbo, hcl⟩ := hlo
  have HC : Hid (0 < l.length → ∃ g, av = some ⟨g, 0, none⟩ ∧ ∀ wr, Fr New w1 wr → ∀ i (hi : i < l.length), wr.cell? ⟨g, i * 3, none⟩ = some (.int .i64 (l[i]).block) ∧ wr.cell? ⟨g, i * 3 + 1, none⟩ = some (.int .i64 (l[i]).span) ∧ wr.cell? ⟨g, i * 3 + 2, none⟩ = some (.int .i64 (l[i]).ptrs)) := by
    intro hp
    obtain ⟨g, e, _, hc⟩ := hcl hp
    exact ⟨g, e, fun wr hf i hi => ⟨hf.cell (hc i hi).1 id, hf.cell (hc i hi).2.1 id, hf.cell (hc i hi).2.2 id⟩⟩
  have HBO : Hid (∀ o ∈ l, o.block ≤ 1048576 ∧ o.span ≤ 4 ∧ o.ptrs < 32) := hbo
  have HIN : Hid (Within ws l) := by rw [HL.out]; exact within_objs ws
  clear hcl hbo HB HS HWK c0 c1 c7 c8
  go_loopg [8] 4 (fun gh t wr => ∃ r : Nat, r ≤ 4 ∧ gh = 4 - r ∧ t = .int .i64 r ∧ wr = w1 ∧ Clear ((List.range r).map (rootT ws l)))
  case atStart => exact ⟨0, by omega, rfl, rfl, rfl, clear_nil⟩
  case round =>
    obtain ⟨r, hr4, rfl, rfl, hwr, hclr⟩ := hrel
    obtain rfl := hwr.symm
    clear hwr
    by_cases hr : r < 4
    · have hc : w1.cell? ⟨sb, so + (3 + r), none⟩ = some (.int .u64 (wd ws (3 + r))) := HW.out w1 hf1 (3 + r) (by omega)
      have HF : Hid (Calls Tryz.prog 130 #[.slice av l.length cv, .int .u64 (wd ws (3 + r))] w1 fun e w' => e = .returned (.int .i64 (findI l (wd ws (3 + r)))) ∧ w' = w1) := find_any _ l _ w1 (HV.out w1 (Fr.refl _ _))
      obtain ⟨h, hh⟩ : ∃ h, h = wd ws (3 + r) := ⟨_, rfl⟩
      rw [← hh] at hc HF
      have HH : Hid (h = wd ws (3 + r)) := hh
      clear hh
      by_cases h0 : h = 0
      · have hnx := clear_range hclr (show ¬ (wd ws (3 + r) ≠ 0 ∧ idx l (wd ws (3 + r)) = none) from fun hx => hx.1 (by rw [← HH.out]; exact h0))
        subst h0
        go_wp2
        go_roundg (4 - (r + 1))
        case measure => omega
        case rel => exact ⟨r + 1, by omega, rfl, by go_num, rfl, hnx⟩
      · have hd0 : (h != 0) = true := by simpa using h0
        rcases hx : idx l h with _ | k
        · have HT : Hid (CheckIs ws 6 ((3 + r : Nat) : Int)) := check_root HA.out hr (by rw [← HL.out]; exact hclr) ⟨by rw [← HH.out]; exact h0, by rw [← HH.out, ← HL.out]; exact hx⟩
          rw [findI_none hx] at HF
          clear hx
          go_wp2_with (go_at_call 130; refine calls_same HF.out ?_)
          go_ret2
          exact ⟨6, ((3 + r : Nat) : Int), by go_num, HT.out, hf1⟩
        · have hnx := clear_range hclr (show ¬ (wd ws (3 + r) ≠ 0 ∧ idx l (wd ws (3 + r)) = none) from fun hx' => by rw [← HH.out, hx] at hx'; cases hx'.2)
          rw [findI_some hx] at HF
          clear hx
          go_wp2_with (go_at_call 130; refine calls_same HF.out ?_)
          go_roundg (4 - (r + 1))
          case measure => omega
          case rel => exact ⟨r + 1, by omega, rfl, by go_num, rfl, hnx⟩
    · obtain rfl : r = 4 := by omega
      have HRC : Hid (Clear ((List.range 4).map (rootT ws (objs ws)))) := by rw [← HL.out]; exact hclr
      clear hclr hr hr4
      go_wp2
      go_loopg [9] l.length (fun gh t wr => ∃ i : Nat, i ≤ l.length ∧ gh = l.length - i ∧ t = .int .i64 i ∧ Fr New w1 wr ∧ Clear ((l.take i).flatMap (ptrsT ws l)))
      case atStart => exact ⟨0, by omega, rfl, rfl, Fr.refl _ _, clear_nil⟩
      case round =>
        obtain ⟨i, hil, rfl, rfl, hf2, hclp⟩ := hrel
        by_cases hi : i < l.length
        · obtain ⟨g, rfl, hcells⟩ := HC.out (by omega)
          obtain ⟨hb1, hb2, hb3⟩ := HBO.out l[i] (List.getElem_mem _)
          obtain ⟨hw1', hw2'⟩ := HIN.out l[i] (List.getElem_mem _)
          obtain ⟨o, ho⟩ : ∃ o, o = l[i] := ⟨_, rfl⟩
          have HO : Hid (o = l[i]) := ho
          have HCI : Hid (∀ w3, Fr New w1 w3 → w3.cell? ⟨g, i * 3, none⟩ = some (.int .i64 o.block) ∧ w3.cell? ⟨g, i * 3 + 1, none⟩ = some (.int .i64 o.span) ∧ w3.cell? ⟨g, i * 3 + 2, none⟩ = some (.int .i64 o.ptrs)) := by rw [ho]; exact fun w3 hf => hcells w3 hf i hi
          rw [← ho] at hb1 hb2 hb3 hw1' hw2'
          clear ho hcells
          go_wp2
          go_loopg [10] o.ptrs (fun gh t wr => ∃ p : Nat, p ≤ o.ptrs ∧ gh = o.ptrs - p ∧ t = .int .i64 p ∧ Fr New w1 wr ∧ Clear ((List.range p).map (ptrT ws l o)))
          case atStart => exact ⟨0, by omega, rfl, rfl, hf2, clear_nil⟩
          case round =>
            obtain ⟨p, hpp, rfl, rfl, hf3, hclq⟩ := hrel
            obtain ⟨e0, e1, e2⟩ := HCI.out wr hf3
            by_cases hp : p < o.ptrs
            · have HPL : Hid (Calls Tryz.prog 129 #[.agg #[.int .i64 o.block, .int .i64 o.span, .int .i64 o.ptrs], .int .i64 p] wr fun e w' => e = .returned (.int .i64 (106 + 8 * (o.block : Int) + 1 + p)) ∧ Fr New wr w') := place_any o p wr hb1 (by omega) (by omega)
              obtain ⟨h, hh⟩ : ∃ h, h = wd ws (pl o p) := ⟨_, rfl⟩
              have HCW : Hid (∀ w3, Fr New w1 w3 → w3.cell? ⟨sb, so + (106 + 8 * o.block + 1 + p), none⟩ = some (.int .u64 h)) := by rw [hh]; exact fun w3 hf => HW.out w3 (hf1.same hf) _ (by omega)
              have HFI : Hid (∀ w3, Fr New w1 w3 → Calls Tryz.prog 130 #[.slice (some ⟨g, 0, none⟩) l.length cv, .int .u64 h] w3 fun e w' => e = .returned (.int .i64 (findI l h)) ∧ w' = w3) := fun w3 hf => find_any _ l _ w3 (HV.out w3 hf)
              have HH : Hid (h = wd ws (pl o p)) := hh
              clear hh
              by_cases h0 : h = 0
              · have hnx := clear_range hclq (show ¬ (wd ws (pl o p) ≠ 0 ∧ idx l (wd ws (pl o p)) = none) from fun hx => hx.1 (by rw [← HH.out]; exact h0))
                subst h0
                go_wp2_with (first
                  | (go_at_call 129; refine HPL.out.mono ?_; rintro e w2 ⟨rfl, hf2'⟩; have hf4 := hf3.same hf2'; have hcw := HCW.out w2 hf4)
                  | fail)
                go_roundg (o.ptrs - (p + 1))
                case measure => omega
                case rel => exact ⟨p + 1, by omega, rfl, by go_num, hf4, hnx⟩
              · have hd0 : (h != 0) = true := by simpa using h0
                rcases hx : idx l h with _ | k
                · have HT : Hid (CheckIs ws 7 ((pl o p : Nat) : Int)) := by
                    have := check_ptr HA.out HRC.out (i := i) (by rw [← HL.out]; exact hi) (by rw [← HL.out]; exact hclp) (p := p)
                    simp only [← HL.out, ← HO.out] at this
                    exact this hp hclq ⟨by rw [← HH.out]; exact h0, by rw [← HH.out]; exact hx⟩
                  have HF2 : Hid (∀ w3, Fr New w1 w3 → Calls Tryz.prog 130 #[.slice (some ⟨g, 0, none⟩) l.length cv, .int .u64 h] w3 fun e w' => e = .returned (.int .i64 (-1)) ∧ w' = w3) := by rw [← findI_none hx]; exact HFI.out
                  clear hx HFI
                  go_wp2_with (first
                    | (go_at_call 129; refine HPL.out.mono ?_; rintro e w2 ⟨rfl, hf2'⟩; have hf4 := hf3.same hf2'; have hcw := HCW.out w2 hf4)
                    | (go_at_call 130; refine calls_same (HF2.out w2 hf4) ?_)
                    | fail)
                  go_ret2
                  exact ⟨7, ((pl o p : Nat) : Int), ret_two (by unfold pl; omega), HT.out, hf1.same hf4⟩
                · have hnx := clear_range hclq (show ¬ (wd ws (pl o p) ≠ 0 ∧ idx l (wd ws (pl o p)) = none) from fun hx' => by rw [← HH.out, hx] at hx'; cases hx'.2)
                  have HF2 : Hid (∀ w3, Fr New w1 w3 → Calls Tryz.prog 130 #[.slice (some ⟨g, 0, none⟩) l.length cv, .int .u64 h] w3 fun e w' => e = .returned (.int .i64 k) ∧ w' = w3) := by rw [← findI_some hx]; exact HFI.out
                  clear hx HFI
                  go_wp2_with (first
                    | (go_at_call 129; refine HPL.out.mono ?_; rintro e w2 ⟨rfl, hf2'⟩; have hf4 := hf3.same hf2'; have hcw := HCW.out w2 hf4)
                    | (go_at_call 130; refine calls_same (HF2.out w2 hf4) ?_)
                    | fail)
                  go_roundg (o.ptrs - (p + 1))
                  case measure => omega
                  case rel => exact ⟨p + 1, by omega, rfl, by go_num, hf4, hnx⟩
            · obtain rfl : p = o.ptrs := by omega
              have hnx := clear_ptrs (ws := ws) (l := l) hi hclp (by rw [← HO.out]; exact hclq)
              go_wp2
              go_roundg (l.length - (i + 1))
              case measure => omega
              case rel => exact ⟨i + 1, by omega, rfl, by go_num, hf3, hnx⟩
        · obtain rfl : i = l.length := by omega
          have HPC : Hid (Clear ((objs ws).flatMap (ptrsT ws (objs ws)))) := by rw [List.take_length] at hclp; rw [← HL.out]; exact hclp
          have HRE : Hid (Calls Tryz.prog 149 #[.slice (some ⟨sb, so, none⟩) ws.length cap, .slice av l.length cv] wr fun e w' => ∃ out : List Bool, e = .returned (.slice (some ⟨wr.heap.size, 0, none⟩) l.length l.length) ∧ BRow w' wr.heap.size out ∧ out.length = l.length ∧ (∀ i, out[i]? = some true ↔ Reach ws l i) ∧ Fr New wr w') :=
            reached_any _ cap ws _ l wr hm (by omega) (HR.out wr (hf1.same hf2)) (HV.out wr hf2) HIN.out
          clear hclp
          go_wp2_with (first
            | (go_at_call 149; refine HRE.out.mono ?_; rintro e w5 ⟨out, rfl, hrow, hol, hreach, hf5⟩; have HRC' : Hid (∀ i, out[i]? = some true ↔ Reach ws l i) := hreach; have HOL : Hid (out.length = l.length) := hol; clear hreach hol)
            | fail)
          have hf6 := hf2.same hf5
          clear HRE hf5
          go_loopg [13] l.length (fun gh t w6 => ∃ i : Nat, i ≤ l.length ∧ gh = l.length - i ∧ t = .int .i64 i ∧ w6 = w5 ∧ Clear ((List.range i).map (leakT ws l)))
          case atStart => exact ⟨0, by omega, rfl, rfl, rfl, clear_nil⟩
          case round =>
            obtain ⟨i, hil', rfl, rfl, hwr, hcll⟩ := hrel
            obtain rfl := hwr.symm
            clear hwr
            by_cases hi' : i < l.length
            · have hio : i < out.length := by rw [HOL.out]; exact hi'
              have hci := hrow.cell i hio
              rcases hoi : out[i] with _ | _
              · rw [hoi] at hci
                obtain ⟨g, rfl, hcells⟩ := HC.out (by omega)
                obtain ⟨e0, e1, e2⟩ := hcells w5 hf6 i hi'
                obtain ⟨hb1, hb2, hb3⟩ := HBO.out l[i] (List.getElem_mem _)
                have HT : Hid (CheckIs ws 8 ((106 + 8 * (l[i]).block : Nat) : Int)) := by
                  have := check_leak HA.out HRC.out HPC.out (i := i) (by rw [← HL.out]; exact hi') (by rw [← HL.out]; exact hcll)
                  simp only [← HL.out] at this
                  refine this (fun hx => ?_)
                  have h2 := (HRC'.out i).2 hx
                  rw [List.getElem?_eq_getElem hio, hoi] at h2
                  cases h2
                obtain ⟨o, ho⟩ : ∃ o, o = l[i] := ⟨_, rfl⟩
                rw [← ho] at e0 e1 e2 hb1 hb2 hb3 HT
                have HPL : Hid (Calls Tryz.prog 129 #[.agg #[.int .i64 o.block, .int .i64 o.span, .int .i64 o.ptrs], .int .i64 (-1)] w5 fun e w' => e = .returned (.int .i64 (106 + 8 * (o.block : Int) + 1 + (-1))) ∧ Fr New w5 w') := place_any o (-1) w5 hb1 (by omega) (by omega)
                clear ho hcells hoi hcll
                go_wp2_with (first
                  | (go_at_call 129; refine HPL.out.mono ?_; rintro e w7 ⟨rfl, hf7⟩)
                  | fail)
                go_ret2
                exact ⟨8, ((106 + 8 * o.block : Nat) : Int), ret_two (by omega), HT.out, hf1.same (hf6.same hf7)⟩
              · rw [hoi] at hci
                have hnx := clear_range hcll (show ¬ ¬ Reach ws l i from fun hx => hx ((HRC'.out i).1 (by rw [List.getElem?_eq_getElem hio, hoi])))
                clear hoi
                go_wp2
                go_roundg (l.length - (i + 1))
                case measure => omega
                case rel => exact ⟨i + 1, by omega, rfl, by go_num, rfl, hnx⟩
            · obtain rfl : i = l.length := by omega
              have HT : Hid (CheckIs ws 0 0) := check_ok HA.out HRC.out HPC.out (by rw [← HL.out]; exact hcll)
              go_wp2
              go_ret2
              exact ⟨0, 0, rfl, HT.out, hf1.same hf6⟩
end Go.Proofs.YtbagcjlimdilpaaGreat
/- The walk of the document's 'asks'. -/
namespace Go.Proofs.YtbagcjlimdilpaaGreat
open Go.RowKit

theorem wd_U {ws : List Int} (hU : ∀ z ∈ ws, U z) (i : Nat) : U (wd ws i) := by
  unfold wd
  by_cases hl : i < ws.length
  · rw [List.getD_eq_getElem?_getD, List.getElem?_eq_getElem hl]; exact hU _ (List.getElem_mem _)
  · rw [List.getD_eq_getElem?_getD, List.getElem?_eq_none (by omega)]; exact ⟨by decide, by decide⟩

theorem two_one (x y : Int) : ∀ u ∈ [Value.int .u64 x, Value.int .u64 y], u.oneCell' = true := by
  intro u hu
  simp only [List.mem_cons, List.not_mem_nil, or_false] at hu
  rcases hu with rfl | rfl <;> rfl

set_option maxHeartbeats 1000000 in
set_option maxRecDepth 1000000 in
theorem asks_any (a : Option Addr) (cap : Nat) (ws : List Int) (w : World) (hm : ws.length ≤ 1048576) (h106 : 106 ≤ ws.length) (hU : ∀ z ∈ ws, U z) (hr : RowU w a ws) :
    Calls Tryz.prog 150 #[.slice a ws.length cap] w fun e w' => e = .returned (.tuple #[.int .i64 (asksS ws).1, .bool (asksS ws).2]) ∧ Fr New w w' := by
  obtain ⟨sb, so, rfl, hsb, hcw⟩ := rowU_plain hr (by omega)
  have HW : Hid (∀ wr, Fr New w wr → ∀ i, i < ws.length → wr.cell? ⟨sb, so + i, none⟩ = some (.int .u64 (wd ws i))) := fun wr hf i hi => hf.cell (hcw i hi) id
  have c8 := hcw 8 (by omega)
  have h8U := wd_U hU 8
  obtain ⟨h, hh⟩ : ∃ h, h = wd ws 8 := ⟨_, rfl⟩
  rw [← hh] at c8 h8U
  have HH : Hid (h = wd ws 8) := hh
  obtain ⟨hlo, hhi⟩ := h8U
  have HUU : Hid (∀ z ∈ ws, U z) := hU
  clear hcw hr hh hU
  by_cases h0 : h = 0
  · rw [asks_none (by rw [← HH.out]; exact h0)]
    subst h0
    go_enter Tryz.func150, Tryz.ntmps150
    go_wp2
    go_ret2
    exact ⟨rfl, Fr.refl _ _⟩
  by_cases h48 : 48 < h
  · rw [asks_many (by rw [← HH.out]; exact h0) (by rw [← HH.out]; exact h48)]
    have hd : (h == 0) = false := by simpa using h0
    go_enter Tryz.func150, Tryz.ntmps150
    go_wp2
    go_ret2
    exact ⟨rfl, Fr.refl _ _⟩
  obtain ⟨n, hn⟩ := Int.eq_ofNat_of_zero_le hlo
  have HNN : Hid (h = (n : Int)) := hn
  subst hn
  have hn48 : n ≤ 48 := by omega
  have hd : ((n : Int) == 0) = false := by simpa using h0
  have HNT : Hid ((wd ws 8).toNat = n) := by rw [← HH.out]; exact Int.toNat_natCast n
  have hwL : IntKind.u64.wrap (ws.length : Int) = ws.length := by rw [IntKind.wrap_u64]; omega
  obtain ⟨i0, hi0, hz0, hz1, hz2⟩ := info_parts Tryz.info50
  clear h48 hlo hhi
  go_enter Tryz.func150, Tryz.ntmps150
  go_wp2
  go_loopg [5, 6] n (fun gh v t wr => ∃ i : Nat, i ≤ n ∧ gh = n - i ∧ t = .int .i64 i ∧ Own w.heap.size wr v (logWords ws i) ∧ Fr New w wr ∧ ∀ j, j < i → okAt ws.length (wd ws (10 + 2 * j)) = true)
  case atStart => exact ⟨0, by omega, rfl, rfl, by rw [logWords_zero, ← HH.out]; exact World.ownsRow_lit w #[.int .u64 (n : Int)] 1 (Nat.le_refl _) (by decide) rfl, (Fr.refl _ _).alloc _, fun j hj => by omega⟩
  case round =>
    obtain ⟨i, hin, rfl, rfl, hown, hf, hok⟩ := hrel
    have HOK : Hid (∀ j, j < i → okAt ws.length (wd ws (10 + 2 * j)) = true) := hok
    clear hok
    by_cases hi : i < n
    · have hca := HW.out wr hf (10 + 2 * i) (by omega)
      have hcb := HW.out wr hf (11 + 2 * i) (by omega)
      have haU := wd_U HUU.out (10 + 2 * i)
      obtain ⟨x, hx⟩ : ∃ x, x = wd ws (10 + 2 * i) := ⟨_, rfl⟩
      obtain ⟨y, hy⟩ : ∃ y, y = wd ws (11 + 2 * i) := ⟨_, rfl⟩
      rw [← hx] at hca haU
      rw [← hy] at hcb
      have HXY : Hid (x = wd ws (10 + 2 * i) ∧ y = wd ws (11 + 2 * i)) := ⟨hx, hy⟩
      clear hx hy
      obtain ⟨hx0, hx1⟩ := haU
      have hll := logWords_len ws i
      have HLL : Hid ((logWords ws i).length = 1 + 2 * i) := hll
      clear hll
      rcases hoa : okAt ws.length x with _ | _
      · have HT : Hid (asksS ws = (0, false)) := asks_wrong (by rw [← HH.out]; exact h0) (by rw [← HH.out]; omega) (i := i) (by rw [HNT.out]; exact hi) (by rw [← HXY.out.1]; exact hoa)
        have hwhy : (ws.length : Int) ≤ x ∨ (x < ws.length ∧ 8 ≤ x ∧ x < 106) := by
          by_cases hA : (ws.length : Int) ≤ x
          · exact .inl hA
          · right
            have : ¬ (x < ws.length ∧ (x < 8 ∨ 106 ≤ x)) := fun hh => by rw [okAt_iff.2 hh] at hoa; cases hoa
            omega
        clear hoa
        rcases hwhy with hA | ⟨hA, hB, hC⟩
        · have hdA : decide ((ws.length : Int) ≤ x) = true := by simpa using hA
          go_wp2
          go_ret2
          rw [HT.out]
          exact ⟨rfl, hf⟩
        · have hdA : decide ((ws.length : Int) ≤ x) = false := by simp; omega
          have hdB : decide ((8 : Int) ≤ x) = true := by simpa using hB
          have hdC : decide (x < 106) = true := by simpa using hC
          go_wp2
          go_ret2
          rw [HT.out]
          exact ⟨rfl, hf⟩
      · obtain ⟨hA, hBC⟩ := okAt_iff.1 hoa
        have HOA : Hid (okAt ws.length x = true) := hoa
        clear hoa
        have hdA : decide ((ws.length : Int) ≤ x) = false := by simp; omega
        have hi' := hi0
        rcases hBC with hB | hC
        · have hdB : decide ((8 : Int) ≤ x) = false := by simp; omega
          go_wp2_with (first
            | (at_builtin; refine wpList_append_own _ rfl (.tmp 49) (.tmp 57) 43 rfl w.heap.size 50 i0 (.int .u64 0) 1 8 Tryz.underlying43 hi' hz0 hz1 hz2 rfl (by decide) _ _ _ rfl (hown.alloc _) ⟨wr.heap.size, 0, none⟩ 2 2 [.int .u64 x, .int .u64 y] rfl rfl (World.news_of_block (new_at _ _ _ rfl)) (two_one x y) (by have := HLL.out; unfold maxLen; omega) (by have := HLL.out; omega) (by have := hf.size; simp; omega) ?_; intro v2 w2 ho2 hg2 _)
            | fail)
          have hown2 : Own w.heap.size w2 v2 (logWords ws (i + 1)) := by
            unfold Own
            rw [logWords_succ, ← HXY.out.1, ← HXY.out.2, List.length_append, List.map_append]
            exact ho2
          have hf2 : Fr New w w2 := (hf.alloc _).grown hg2 (fun k hk hv => by have := (hown.lt k hv).1; omega)
          clear ho2 hg2
          go_wp2
          go_roundg (n - (i + 1))
          case measure => omega
          case rel => exact ⟨i + 1, by omega, rfl, by go_num, hown2, hf2, fun j hj => by
            rcases Nat.lt_or_ge j i with hlt | hge
            · exact HOK.out j hlt
            · obtain rfl : j = i := by omega
              rw [← HXY.out.1]; exact HOA.out⟩
        · have hdB : decide ((8 : Int) ≤ x) = true := by simp; omega
          have hdC : decide (x < 106) = false := by simp; omega
          go_wp2_with (first
            | (at_builtin; refine wpList_append_own _ rfl (.tmp 49) (.tmp 57) 43 rfl w.heap.size 50 i0 (.int .u64 0) 1 8 Tryz.underlying43 hi' hz0 hz1 hz2 rfl (by decide) _ _ _ rfl (hown.alloc _) ⟨wr.heap.size, 0, none⟩ 2 2 [.int .u64 x, .int .u64 y] rfl rfl (World.news_of_block (new_at _ _ _ rfl)) (two_one x y) (by have := HLL.out; unfold maxLen; omega) (by have := HLL.out; omega) (by have := hf.size; simp; omega) ?_; intro v2 w2 ho2 hg2 _)
            | fail)
          have hown2 : Own w.heap.size w2 v2 (logWords ws (i + 1)) := by
            unfold Own
            rw [logWords_succ, ← HXY.out.1, ← HXY.out.2, List.length_append, List.map_append]
            exact ho2
          have hf2 : Fr New w w2 := (hf.alloc _).grown hg2 (fun k hk hv => by have := (hown.lt k hv).1; omega)
          clear ho2 hg2
          go_wp2
          go_roundg (n - (i + 1))
          case measure => omega
          case rel => exact ⟨i + 1, by omega, rfl, by go_num, hown2, hf2, fun j hj => by
            rcases Nat.lt_or_ge j i with hlt | hge
            · exact HOK.out j hlt
            · obtain rfl : j = i := by omega
              rw [← HXY.out.1]; exact HOA.out⟩
    · obtain rfl : i = n := by omega
      have HT : Hid (asksS ws = (i, sumL (logWords ws i) == wd ws 9)) := by
        have := asks_right (ws := ws) (by rw [← HH.out]; exact h0) (by rw [← HH.out]; omega) (by rw [HNT.out]; exact HOK.out)
        rw [HNT.out] at this
        exact this
      have hc9 := HW.out wr hf 9 (by omega)
      obtain ⟨av, cv, rfl, hmx, hrow, _⟩ := own_row hown
      have HS : Hid (Calls Tryz.prog 121 #[.slice av (logWords ws i).length cv] wr fun e w' => e = .returned (.int .u64 (sumL (logWords ws i))) ∧ w' = wr) := rsum_any av _ cv (logWords ws i) wr rfl hmx hrow
      obtain ⟨sm, hsm⟩ : ∃ sm, sm = sumL (logWords ws i) := ⟨_, rfl⟩
      obtain ⟨x9, hx9⟩ : ∃ x, x = wd ws 9 := ⟨_, rfl⟩
      rw [← hsm] at HS HT
      rw [← hx9] at hc9 HT
      clear hsm hx9 hown hrow hmx
      go_wp2_with (go_at_call 121; refine calls_same HS.out ?_)
      go_quiet (fail)
      go_wp2
      go_ret2
      rw [HT.out]
      exact ⟨rfl, hf.drewN _⟩
end Go.Proofs.YtbagcjlimdilpaaGreat
/- What the document's Repair keeps in memory while it works, apart from its walk. -/
namespace Go.Proofs.YtbagcjlimdilpaaGreat
open Go.RowKit

/-- the words that are worked on, in a row of their own -/
structure Mem2 (w : World) (g c L : Nat) (cur : List Int) (wr : World) : Prop where
  own : wr.ownsRow w.heap.size 50 1 (.slice (some ⟨g, 0, none⟩) L c) L (cur.map (Value.int .u64))
  len : cur.length = L
  fr : Fr New w wr
theorem Mem2.base {w : World} {g c L : Nat} {cur : List Int} {wr : World} (h : Mem2 w g c L cur wr) : w.heap.size ≤ g := (own_block h.own rfl).1
theorem Mem2.cell {w : World} {g c L : Nat} {cur : List Int} {wr : World} (h : Mem2 w g c L cur wr) (k : Nat) (hk : k < L) : wr.cell? ⟨g, k, none⟩ = some (.int .u64 (wd cur k)) := by
  have hk' : k < cur.length := by rw [h.len]; exact hk
  rw [h.own.cellAt k (by omega)]
  unfold wd
  simp [hk', List.getD]
theorem Mem2.free {w : World} {g c L : Nat} {cur : List Int} {wr : World} (h : Mem2 w g c L cur wr) (k : Nat) : wr.frozen? ⟨g, k, none⟩ = false := h.own.frozenAt k
theorem Mem2.put {w : World} {g c L : Nat} {cur : List Int} {wr : World} (h : Mem2 w g c L cur wr) (k : Nat) (y : Int) : Mem2 w g c L (cur.set k y) (wr.setCell ⟨g, k, none⟩ (.int .u64 y)) :=
  ⟨by rw [List.map_set]; exact (h.own.stored k (.int .u64 y)).1, by simpa using h.len, h.fr.setCell (fun hlt => absurd hlt (by have := h.base; simp; omega)) _⟩
theorem Mem2.grow {w : World} {g c L : Nat} {cur : List Int} {wr w' : World} (h : Mem2 w g c L cur wr) (hf : Fr New wr w') : Mem2 w g c L cur w' := ⟨hf.owns h.own (fun _ _ h => h), h.len, h.fr.same hf⟩
theorem Mem2.rowU {w : World} {g c L : Nat} {cur : List Int} {wr : World} (h : Mem2 w g c L cur wr) : RowU wr (some ⟨g, 0, none⟩) cur := rowU_own h.own
theorem Mem2.cap {w : World} {g c L : Nat} {cur : List Int} {wr : World} (h : Mem2 w g c L cur wr) : L ≤ c := by
  rcases h.own.2 with ⟨h', _⟩ | ⟨g', cap', cur', h', _, _, hc, _⟩
  · cases h'
  · simp only [Value.slice.injEq, Option.some.injEq, Addr.mk.injEq, and_true, true_and] at h'
    omega
/-- a row of another kind stays where a word is put -/
theorem own_put {w wr : World} {g c L : Nat} {cur : List Int} (h : Mem2 w g c L cur wr) (k : Nat) (y : Value) {B : Nat} {e : TypeId} {sz : Nat} {v : Value} {n : Nat} {xs : List Value} (ho : wr.ownsRow B e sz v n xs) (he : e ≠ 50) : (wr.setCell ⟨g, k, none⟩ y).ownsRow B e sz v n xs := by
  have hf : Fr (fun k => k = g) wr (wr.setCell ⟨g, k, none⟩ y) := (Fr.refl (fun k => k = g) wr).setCell (p := ⟨g, k, none⟩) (fun _ => rfl) _
  refine hf.owns ho (fun g' hg' hh => ?_)
  obtain ⟨_, c1, h1⟩ := own_block ho hg'
  obtain ⟨_, c2, h2⟩ := own_block h.own rfl
  exact type_ne h1 h2 he hh
theorem row_put {w wr : World} {g c L : Nat} {cur : List Int} (h : Mem2 w g c L cur wr) (k : Nat) (y : Value) {gb : Nat} {out : List Bool} (ho : BRow wr gb out) : BRow (wr.setCell ⟨g, k, none⟩ y) gb out := by
  have hf : Fr (fun k => k = g) wr (wr.setCell ⟨g, k, none⟩ y) := (Fr.refl (fun k => k = g) wr).setCell (p := ⟨g, k, none⟩) (fun _ => rfl) _
  refine hf.heap ho (fun hh => ?_)
  obtain ⟨_, c2, h2⟩ := own_block h.own rfl
  exact type_ne ho h2 (by decide) hh

/-- the words, the objects and the marks -/
structure Hold (w : World) (g c L : Nat) (cur : List Int) (vl : Value) (l : List Ob) (gb : Nat) (out : List Bool) (wr : World) : Prop where
  mem : Mem2 w g c L cur wr
  obs : OwnO 0 wr vl l
  marks : BRow wr gb out
theorem Hold.put {w : World} {g c L : Nat} {cur : List Int} {vl : Value} {l : List Ob} {gb : Nat} {out : List Bool} {wr : World} (h : Hold w g c L cur vl l gb out wr) (k : Nat) (y : Int) : Hold w g c L (cur.set k y) vl l gb out (wr.setCell ⟨g, k, none⟩ (.int .u64 y)) :=
  ⟨h.mem.put k y, own_put h.mem k _ h.obs (by decide), row_put h.mem k _ h.marks⟩
theorem Hold.grow {w : World} {g c L : Nat} {cur : List Int} {vl : Value} {l : List Ob} {gb : Nat} {out : List Bool} {wr w' : World} (h : Hold w g c L cur vl l gb out wr) (hf : Fr New wr w') : Hold w g c L cur vl l gb out w' :=
  ⟨h.mem.grow hf, hf.owns h.obs (fun _ _ h => h), hf.heap h.marks id⟩

theorem Hold.objAt {w : World} {g c L : Nat} {cur : List Int} {av : Option Addr} {cv : Nat} {l : List Ob} {gb : Nat} {out : List Bool} {wr : World} (h : Hold w g c L cur (.slice av l.length cv) l gb out wr) (i : Nat) (hi : i < l.length) :
    ∃ gl, av = some ⟨gl, 0, none⟩ ∧ wr.cell? ⟨gl, i * 3, none⟩ = some (.int .i64 (l[i]).block) ∧ wr.cell? ⟨gl, i * 3 + 1, none⟩ = some (.int .i64 (l[i]).span) ∧ wr.cell? ⟨gl, i * 3 + 2, none⟩ = some (.int .i64 (l[i]).ptrs) := by
  obtain ⟨gl, c', hv, _, _⟩ := h.obs.form (by omega)
  simp only [Value.slice.injEq] at hv
  have key : ∀ j, j < 3 → wr.cell? ⟨gl, i * 3 + j, none⟩ = (obCells l[i])[j]? := fun j hj => by
    have hv' := hv.1
    subst hv'
    have := h.obs.cellAt (i * 3 + j) (by omega)
    exact this.trans (obsCells_get l i j hi hj)
  exact ⟨gl, hv.1, key 0 (by omega), key 1 (by omega), key 2 (by omega)⟩

theorem own_zero {w : World} {B : Nat} {e : TypeId} {sz : Nat} {v : Value} {n : Nat} {xs : List Value} (h : w.ownsRow B e sz v n xs) : w.ownsRow 0 e sz v n xs := by
  refine ⟨h.1, ?_⟩
  rcases h.2 with h | ⟨g, cap, cur, rfl, _, r⟩
  · exact .inl h
  · exact .inr ⟨g, cap, cur, rfl, Nat.zero_le _, r⟩
theorem emptyU (w : World) : (w.alloc (.cells #[] 50)).ownsRow w.heap.size 50 1 (.slice (some ⟨w.heap.size, 0, none⟩) 0 0) 0 [] := World.ownsRow_made w #[] 0 (Nat.le_refl _) (by decide) (by simp)

theorem copy_news {w : World} {x : Addr} {ws : List Int} (h : RowU w (some x) ws) (o : Obj) : ∀ j u, (ws.map (Value.int .u64))[j]? = some u → (w.alloc o).cell? (x.add j) = some u := by
  intro j u hu
  have hp : 0 < (ws.map (Value.int .u64)).length := by
    rcases Nat.lt_or_ge j (ws.map (Value.int .u64)).length with h | h
    · omega
    · rw [List.getElem?_eq_none h] at hu; cases hu
  obtain ⟨ad, had, hn⟩ := news_row (rowU_fr ((Fr.refl New w).alloc o) h (fun _ _ h => h)) hp
  cases had
  exact hn j u hu
theorem copy_mem {w w1 : World} {g c : Nat} {ws : List Int} (h : w1.ownsRow w.heap.size 50 1 (.slice (some ⟨g, 0, none⟩) (0 + ws.length) c) (0 + ws.length) ([] ++ ws.map (Value.int .u64)))
    (hg : (w.alloc (.cells #[] 50)).grownBy w1 (Value.slice (some ⟨w.heap.size, 0, none⟩) 0 0).ownBlock) : Mem2 w g c ws.length ws w1 :=
  ⟨by simpa using h, rfl, ((Fr.refl New w).alloc _).grown hg (fun k hk hv => by simp [Value.ownBlock] at hv; omega)⟩

theorem walk_mem {w : World} {g c L : Nat} {cur : List Int} {W : World} (M : Mem2 w g c L cur W) (hn : nblk L ≠ 0) :
    Calls Tryz.prog 126 #[.slice (some ⟨g, 0, none⟩) L c] W fun e w' => ∃ vl vb, e = .returned (.tuple #[vl, vb]) ∧ OwnO 0 w' vl (objs cur) ∧ OwnN 0 w' vb (bads cur) ∧ Fr New W w' := by
  have hl := M.len
  subst hl
  refine (walk_any _ c cur W hn M.rowU).mono ?_
  rintro e w' ⟨vl, vb, rfl, h1, h2, h3⟩
  exact ⟨vl, vb, rfl, own_zero h1, own_zero h2, h3⟩
theorem reached_mem {w : World} {g c L : Nat} {cur : List Int} {W : World} (M : Mem2 w g c L cur W) (hm : L ≤ 1048576) (h7 : 7 ≤ L) {vl : Value} (ho : OwnO 0 W vl (objs cur)) :
    Calls Tryz.prog 149 #[.slice (some ⟨g, 0, none⟩) L c, vl] W fun e w' => ∃ out : List Bool, e = .returned (.slice (some ⟨W.heap.size, 0, none⟩) (objs cur).length (objs cur).length) ∧ BRow w' W.heap.size out ∧ out.length = (objs cur).length ∧ (∀ i, out[i]? = some true ↔ Reach cur (objs cur) i) ∧ Fr New W w' := by
  have hl := M.len
  subst hl
  exact reached_any _ c cur vl (objs cur) W hm h7 M.rowU (lies_objs ho) (within_objs cur)
theorem seal_mem {w : World} {g c L : Nat} {cur : List Int} {W : World} (M : Mem2 w g c L cur W) (h8 : 8 ≤ L) (hm : L ≤ 1048576) :
    Calls Tryz.prog 131 #[.slice (some ⟨g, 0, none⟩) L c] W fun e w' => e = .returned (.tuple #[]) ∧ w' = W.setCell ⟨g, 7, none⟩ (.int .u64 (sumL (cur.take 7))) := by
  have hcap := M.cap
  have HS : Hid (Calls Tryz.prog 121 #[.slice (some ⟨g, 0, none⟩) 7 c] W fun e w' => e = .returned (.int .u64 (sumL (cur.take 7))) ∧ w' = W) :=
    rsum_any _ 7 _ (cur.take 7) W (by have := M.len; simp; omega) (by decide) (rowU_take M.rowU 7)
  have hfz := M.free 7
  have hcl := M.cell 7 (by omega)
  go_enter Tryz.func131, Tryz.ntmps131
  go_wp2_with (go_at_call 121; refine calls_same HS.out ?_)
  go_end0
  exact ⟨rfl, rfl⟩

/-- what is put where a record asks for it -/
theorem done_set (ws : List Int) (i : Nat) : (doneS ws i).set (wd ws (10 + 2 * i)).toNat (wd ws (11 + 2 * i)) = doneS ws (i + 1) := rfl
theorem doneS_U {ws : List Int} (hU : ∀ z ∈ ws, U z) (k : Nat) : ∀ z ∈ doneS ws k, U z := by
  induction k with
  | zero => exact hU
  | succ k ih =>
    intro z hz
    rcases List.mem_or_eq_of_mem_set hz with h | rfl
    · exact ih z h
    · exact wd_U hU _
end Go.Proofs.YtbagcjlimdilpaaGreat
/- The walk of the program's Kept.Copy: words in memory of their own. -/
namespace Go.Proofs.YtbagcjlimdilpaaGreat
open Go.RowKit

theorem splice_all {xs ys : List Value} (h : xs.length = ys.length) : splice xs 0 ys = ys := by
  unfold splice
  simp [h]
set_option maxRecDepth 100000 in
theorem kcopy_any (a : Option Addr) (cap : Nat) (ws : List Int) (w : World) (hm : ws.length ≤ 1048576) (hp : 0 < ws.length) (hr : RowU w a ws) :
    Calls Tryz.prog 51 #[.slice a ws.length cap] w fun e w' => e = .returned (.slice (some ⟨w.heap.size, 0, none⟩) ws.length ws.length) ∧ Row w' w.heap.size ws ∧ Fr New w w' := by
  obtain ⟨i0, hi, hz0, hz1, hz2⟩ := info_parts Tryz.info50
  obtain ⟨sb, so, rfl, hsb, hcw⟩ := rowU_plain hr hp
  have HRU : Hid (∀ W, Fr New w W → RowU W (some ⟨sb, so, none⟩) ws) := fun W hf => rowU_fr hf hr (fun _ _ h => h)
  have hmin : Hid ((ws.map (Value.int .u64)).length = Nat.min ws.length ws.length) := by show _ = _; simp
  obtain ⟨L, hL⟩ : ∃ L, L = ws.length := ⟨_, rfl⟩
  have HL : Hid (L = ws.length) := hL
  rw [← hL] at hmin hm hp ⊢
  clear hr hcw hL
  go_enter Tryz.func51, Tryz.ntmps51
  go_wp2_with (first
    | (at_make; refine wpList_make_full _ rfl (.tmp 5) (.tmp 5) 105 rfl w.heap.size 50 i0 (.int .u64 0) 1 Tryz.underlying105 hi hz0 hz1 .i64 .i64 _ _ L rfl rfl (by omega) (by omega) (by rw [hz2]; omega) (by unfold maxLen; omega) (Nat.le_refl _) ?_; intro w1 hown1 hg1; have hr1 := Row.ofOwn hown1 (made_zeros _); have hf1 := (Fr.refl New w).grownNew hg1; clear hown1 hg1)
    | (refine wpList_copy_splice rfl (.tmp 7) (.tmp 8) 105 105 rfl 50 Tryz.underlying105 Tryz.size50 (some ⟨w.heap.size, 0, none⟩) (some ⟨sb, so, none⟩) L L L cap (by rfl) (by rfl) w.heap.size 0 _ 50 hr1 (ws.map (Value.int .u64)) hmin.out (fun hp => ⟨rfl, news_row (HRU.out w1 hf1) hp⟩) (by simp [← HL.out]) (ints_oneU _) w.heap.size w (hf1.below (Nat.le_refl _) (fun _ _ h => h)) (Nat.le_refl _) ?_; intro w4 hr4 hb4; have hR4 : Row w4 w.heap.size ws := (by have hr4' := hr4.out; rw [splice_all (by simp [← HL.out])] at hr4'; exact hr4'); have hF4 : Fr New w w4 := ((Fr.ofBelow hb4).mono (fun j hj h => by omega)))
    | fail)
  go_ret
  exact ⟨rfl, hR4, hF4⟩
end Go.Proofs.YtbagcjlimdilpaaGreat
/- Walks of the program's search for an object: Compare, BinarySearchFunc, Held, Dangling. -/
namespace Go.Proofs.YtbagcjlimdilpaaGreat
open Go.RowKit

/-- a list of objects, as the program keeps it -/
def LiesT (w : World) (v : Value) (l : List Ob) : Prop := ∃ a cap, v = .slice a l.length cap ∧ l.length ≤ 1048576 ∧ (∀ o ∈ l, o.block ≤ 1048576 ∧ o.span ≤ 4 ∧ o.ptrs < 32) ∧
  (0 < l.length → ∃ g, a = some ⟨g, 0, none⟩ ∧ g < w.heap.size ∧ ∀ i (hi : i < l.length), w.cell? ⟨g, i * 4, none⟩ = some (.int .i64 1) ∧ w.cell? ⟨g, i * 4 + 1, none⟩ = some (.int .i64 (((l[i]).block + 1 : Nat) : Int)) ∧ w.cell? ⟨g, i * 4 + 2, none⟩ = some (.int .i64 (l[i]).span) ∧ w.cell? ⟨g, i * 4 + 3, none⟩ = some (.int .i64 (l[i]).ptrs))
theorem LiesT.fr {T : Nat → Prop} {w w' : World} {v : Value} {l : List Ob} (h : LiesT w v l) (hf : Fr T w w') (hn : ∀ g, v.ownBlock = some g → ¬ T g) : LiesT w' v l := by
  obtain ⟨a, c, rfl, hl, hb, hc⟩ := h
  refine ⟨a, c, rfl, hl, hb, fun hp => ?_⟩
  obtain ⟨g, rfl, hg, hcc⟩ := hc hp
  refine ⟨g, rfl, Nat.lt_of_lt_of_le hg hf.size, fun i hi => ?_⟩
  obtain ⟨h1, h2, h3, h4⟩ := hcc i hi
  exact ⟨hf.cell h1 (hn g rfl), hf.cell h2 (hn g rfl), hf.cell h3 (hn g rfl), hf.cell h4 (hn g rfl)⟩

/-- in the order of their handles -/
def Asc (l : List Ob) : Prop := ∀ i j (hi : i < l.length) (hj : j < l.length), i < j → (l[i]).block < (l[j]).block
theorem walkF_ge {ws : List Int} {n f b : Nat} : ∀ o ∈ (walkF ws n f b).1, b ≤ o.block := by
  induction f generalizing b with
  | zero => intro o ho; simp [walkF] at ho
  | succ f ih =>
    intro o ho
    rw [walkF] at ho
    split at ho
    · split at ho
      · rename_i o' hs
        obtain ⟨e1, e2, _⟩ := slot_obs hs
        rcases List.mem_cons.1 ho with rfl | ho
        · omega
        · have := ih o ho; omega
      · have := ih o ho; omega
      · have := ih o ho; omega
    · simp at ho
theorem asc_cons {o : Ob} {l : List Ob} (h : ∀ x ∈ l, o.block < x.block) (hl : Asc l) : Asc (o :: l) := by
  intro i j hi hj hij
  cases j with
  | zero => omega
  | succ j =>
    cases i with
    | zero => simpa using h _ (List.getElem_mem (by simpa using hj))
    | succ i => simpa using hl i j (by simpa using hi) (by simpa using hj) (by omega)
theorem walkF_asc {ws : List Int} {n f b : Nat} : Asc (walkF ws n f b).1 := by
  induction f generalizing b with
  | zero => intro i j hi; simp [walkF] at hi
  | succ f ih =>
    rw [walkF]
    split
    · split
      · rename_i o hs
        obtain ⟨e1, e2, _⟩ := slot_obs hs
        refine asc_cons (fun x hx => ?_) ih
        have := walkF_ge x hx
        omega
      · exact ih
      · exact ih
    · intro i j hi; simp at hi
theorem objs_asc (ws : List Int) : Asc (objs ws) := walkF_asc

/-- what Compare says -/
def cmpI (x y : Int) : Int := if x < y then -1 else if y < x then 1 else 0
theorem nan_any (x : Int) (w : World) : Calls Tryz.prog 146 #[.int .u64 x] w fun e w' => e = .returned (.bool false) ∧ w' = w := by
  go_enter Tryz.func146, Tryz.ntmps146
  go_wp2
  go_ret
  exact ⟨by simp, rfl⟩
theorem compare_any (x y : Int) (w : World) : Calls Tryz.prog 107 #[.int .u64 x, .int .u64 y] w fun e w' => e = .returned (.int .i64 (cmpI x y)) ∧ w' = w := by
  by_cases h1 : x < y
  · have e : cmpI x y = -1 := by unfold cmpI; rw [if_pos h1]
    rw [e]
    clear e
    go_enter Tryz.func107, Tryz.ntmps107
    go_wp2_with (go_at_call 146; refine calls_same (nan_any _ _) ?_)
    go_ret
    exact ⟨rfl, rfl⟩
  · by_cases h2 : y < x
    · have e : cmpI x y = 1 := by unfold cmpI; rw [if_neg h1, if_pos h2]
      rw [e]
      clear e
      go_enter Tryz.func107, Tryz.ntmps107
      go_wp2_with (go_at_call 146; refine calls_same (nan_any _ _) ?_)
      go_ret
      exact ⟨rfl, rfl⟩
    · have e : cmpI x y = 0 := by unfold cmpI; rw [if_neg h1, if_neg h2]
      rw [e]
      clear e
      go_enter Tryz.func107, Tryz.ntmps107
      go_wp2_with (go_at_call 146; refine calls_same (nan_any _ _) ?_)
      go_ret
      exact ⟨rfl, rfl⟩
theorem held1_any (k s p : Int) (B : Nat) (h : Int) (w : World) (hB : B ≤ 1048577) :
    Calls Tryz.prog 106 #[.agg #[.int .i64 k, .int .i64 B, .int .i64 s, .int .i64 p], .int .u64 h] w fun e w' => e = .returned (.int .i64 (cmpI B h)) ∧ Fr New w w' := by
  have hw1 : IntKind.u64.wrap (B : Int) = B := by rw [IntKind.wrap_u64]; omega
  go_enter Tryz.func106, Tryz.ntmps106
  go_wp2_with (go_at_call 107; refine calls_same (compare_any _ _ _) ?_)
  go_ret
  exact ⟨rfl, (Fr.refl _ _).alloc _⟩
theorem cmpI_neg {x y : Int} : cmpI x y < 0 ↔ x < y := by
  unfold cmpI; split
  · simp; assumption
  · split <;> (simp; omega)
theorem cmpI_zero {x y : Int} : cmpI x y = 0 ↔ x = y := by
  unfold cmpI; split
  · simp; omega
  · split
    · simp; omega
    · simp; omega

/-- the handle of the i-th -/
def hnd (l : List Ob) (i : Nat) : Nat := (l.getD i ⟨0, 0, 0⟩).block + 1
theorem hnd_eq {l : List Ob} {i : Nat} (hi : i < l.length) : hnd l i = (l[i]).block + 1 := by unfold hnd; simp [List.getD, hi]
theorem idx_at {l : List Ob} {h : Int} {k : Nat} (ha : Asc l) (hk : k < l.length) (he : (hnd l k : Int) = h) : idx l h = some k := by
  rw [hnd_eq hk] at he
  refine idx_first hk he (fun i hi => ?_)
  have := ha i k (by omega) hk hi
  omega
theorem idx_not {l : List Ob} {h : Int} (hn : ∀ i, i < l.length → (hnd l i : Int) ≠ h) : idx l h = none := by
  refine idx_no (fun i hi => ?_)
  have := hn i hi
  rwa [hnd_eq hi] at this

/-- what the search tells -/
def SearchIs (l : List Ob) (h : Int) (v : Value) : Prop := (∃ k : Nat, idx l h = some k ∧ v = .tuple #[.int .i64 k, .bool true]) ∨ (idx l h = none ∧ ∃ k : Nat, v = .tuple #[.int .i64 k, .bool false])

set_option maxHeartbeats 2000000 in
set_option maxRecDepth 100000 in
theorem bsearch_any (v : Value) (l : List Ob) (h : Int) (w : World) (hv : LiesT w v l) (ha : Asc l) :
    Calls Tryz.prog 105 #[v, .int .u64 h, .func (.func 106) #[] #[]] w fun e w' => ∃ r, e = .returned r ∧ SearchIs l h r ∧ Fr New w w' := by
  obtain ⟨a, cap, rfl, hl, hb, hc⟩ := hv
  have HA : Hid (Asc l) := ha
  have HC : Hid (0 < l.length → ∃ g, a = some ⟨g, 0, none⟩ ∧ ∀ wr, Fr New w wr → ∀ i (hi : i < l.length), ∃ s p : Int, wr.cell? ⟨g, i * 4, none⟩ = some (.int .i64 1) ∧ wr.cell? ⟨g, i * 4 + 1, none⟩ = some (.int .i64 (hnd l i)) ∧ wr.cell? ⟨g, i * 4 + 2, none⟩ = some (.int .i64 s) ∧ wr.cell? ⟨g, i * 4 + 3, none⟩ = some (.int .i64 p)) := by
    intro hp
    obtain ⟨g, e, _, hcc⟩ := hc hp
    refine ⟨g, e, fun wr hf i hi => ⟨_, _, hf.cell (hcc i hi).1 id, ?_, hf.cell (hcc i hi).2.2.1 id, hf.cell (hcc i hi).2.2.2 id⟩⟩
    rw [hnd_eq hi]
    exact hf.cell (hcc i hi).2.1 id
  have HH : Hid (∀ i, i < l.length → hnd l i ≤ 1048577) := fun i hi => by
    rw [hnd_eq hi]
    have := (hb l[i] (List.getElem_mem _)).1
    omega
  have HM : Hid (∀ i j, i < j → j < l.length → hnd l i < hnd l j) := fun i j hij hj => by
    rw [hnd_eq (show i < l.length by omega), hnd_eq hj]
    have := ha i j (by omega) hj hij
    omega
  clear hc hb ha
  go_enter Tryz.func105, Tryz.ntmps105
  go_wp2
  go_loopg [9, 10] l.length (fun gh s9 s10 wr => ∃ lo hi : Nat, s9 = .int .i64 lo ∧ s10 = .int .i64 hi ∧ lo ≤ hi ∧ hi ≤ l.length ∧ gh = hi - lo ∧ Fr New w wr ∧ Hid ((∀ i, i < lo → (hnd l i : Int) < h) ∧ (∀ i, hi ≤ i → i < l.length → h ≤ (hnd l i : Int))))
  case atStart => exact ⟨0, l.length, rfl, rfl, Nat.zero_le _, Nat.le_refl _, by omega, Fr.refl _ _, (⟨fun i hi => by omega, fun i h1 h2 => by omega⟩ : (∀ i, i < 0 → (hnd l i : Int) < h) ∧ (∀ i, l.length ≤ i → i < l.length → h ≤ (hnd l i : Int)))⟩
  case round =>
    obtain ⟨lo, hi, rfl, rfl, hlh, hin, rfl, hf, HI⟩ := hrel
    by_cases hlt : lo < hi
    · obtain ⟨g, rfl, hcells⟩ := HC.out (by omega)
      obtain ⟨m, hm⟩ : ∃ m : Nat, m = (lo + hi) / 2 := ⟨_, rfl⟩
      have hm1 : m < l.length := by omega
      have hmI : ((lo : Int) + hi) / 2 = m := by omega
      have hlm : lo ≤ m := by omega
      have hmh : m < hi := by omega
      have HMM : Hid (m = (lo + hi) / 2) := hm
      clear hm
      obtain ⟨s, p, c0, c1, c2, c3⟩ := hcells wr hf m hm1
      have hB := HH.out m hm1
      obtain ⟨B, hBB⟩ : ∃ B, B = hnd l m := ⟨_, rfl⟩
      rw [← hBB] at c1 hB
      have HBB : Hid (B = hnd l m) := hBB
      clear hBB hcells
      have HK : Hid (Calls Tryz.prog 106 #[.agg #[.int .i64 1, .int .i64 B, .int .i64 s, .int .i64 p], .int .u64 h] wr fun e w' => e = .returned (.int .i64 (cmpI B h)) ∧ Fr New wr w') := held1_any 1 s p B h wr hB
      by_cases hBh : (B : Int) < h
      · have hcn := cmpI_neg.2 hBh
        obtain ⟨q, hq⟩ : ∃ q, q = cmpI B h := ⟨_, rfl⟩
        rw [← hq] at HK hcn
        clear hq
        go_wp2_with (go_at_call 106; refine HK.out.mono ?_; rintro e w' ⟨rfl, hf'⟩)
        go_roundg (hi - (m + 1))
        case measure => omega
        case rel =>
          exact ⟨m + 1, hi, by go_num, rfl, by omega, hin, rfl, hf.same hf', (⟨fun i hi' => by
            rcases Nat.lt_or_ge i m with h' | h'
            · have := HM.out i m h' hm1; rw [← HBB.out] at this; omega
            · obtain rfl : i = m := by omega
              rw [← HBB.out]; exact hBh, HI.out.2⟩ : (∀ i, i < m + 1 → (hnd l i : Int) < h) ∧ (∀ i, hi ≤ i → i < l.length → h ≤ (hnd l i : Int)))⟩
      · have hcn : ¬ cmpI B h < 0 := fun hh => hBh (cmpI_neg.1 hh)
        obtain ⟨q, hq⟩ : ∃ q, q = cmpI B h := ⟨_, rfl⟩
        rw [← hq] at HK hcn
        clear hq
        go_wp2_with (go_at_call 106; refine HK.out.mono ?_; rintro e w' ⟨rfl, hf'⟩)
        go_roundg (m - lo)
        case measure => omega
        case rel =>
          exact ⟨lo, m, rfl, rfl, by omega, by omega, rfl, hf.same hf', (⟨HI.out.1, fun i h1 h2 => by
            rcases Nat.lt_or_ge m i with h' | h'
            · have := HM.out m i h' h2; rw [← HBB.out] at this; omega
            · obtain rfl : i = m := by omega
              rw [← HBB.out]; omega⟩ : (∀ i, i < lo → (hnd l i : Int) < h) ∧ (∀ i, m ≤ i → i < l.length → h ≤ (hnd l i : Int)))⟩
    · obtain rfl : lo = hi := by omega
      by_cases hlast : lo < l.length
      · have hd : decide ((lo : Int) < (l.length : Int)) = true := by simp; omega
        obtain ⟨g, rfl, hcells⟩ := HC.out (by omega)
        obtain ⟨s, p, c0, c1, c2, c3⟩ := hcells wr hf lo hlast
        have hB := HH.out lo hlast
        obtain ⟨B, hBB⟩ : ∃ B, B = hnd l lo := ⟨_, rfl⟩
        rw [← hBB] at c1 hB
        have HBB : Hid (B = hnd l lo) := hBB
        clear hBB hcells
        have HK : Hid (Calls Tryz.prog 106 #[.agg #[.int .i64 1, .int .i64 B, .int .i64 s, .int .i64 p], .int .u64 h] wr fun e w' => e = .returned (.int .i64 (cmpI B h)) ∧ Fr New wr w') := held1_any 1 s p B h wr hB
        by_cases hBh : (B : Int) = h
        · have HT : Hid (SearchIs l h (.tuple #[.int .i64 lo, .bool true])) := .inl ⟨lo, idx_at HA.out hlast (by rw [← HBB.out]; exact hBh), rfl⟩
          have hcn := cmpI_zero.2 hBh
          rw [hcn] at HK
          clear hcn hBh
          go_wp2_with (go_at_call 106; refine HK.out.mono ?_; rintro e w' ⟨rfl, hf'⟩)
          go_ret2
          exact ⟨_, rfl, HT.out, hf.same hf'⟩
        · have HT : Hid (SearchIs l h (.tuple #[.int .i64 lo, .bool false])) := .inr ⟨idx_not (fun i hi he => by
            rcases Nat.lt_or_ge i lo with h' | h'
            · have := HI.out.1 i h'; omega
            · rcases Nat.lt_or_ge lo i with h'' | h''
              · have h1 := HM.out lo i h'' hi
                have h2 := HI.out.2 lo (Nat.le_refl _) hlast
                omega
              · obtain rfl : i = lo := by omega
                rw [← HBB.out] at he; exact hBh he), lo, rfl⟩
          have hcn : (cmpI B h == 0) = false := by simpa using fun hh => hBh (cmpI_zero.1 hh)
          obtain ⟨q, hq⟩ : ∃ q, q = cmpI B h := ⟨_, rfl⟩
          rw [← hq] at HK hcn
          clear hq hBh
          go_wp2_with (go_at_call 106; refine HK.out.mono ?_; rintro e w' ⟨rfl, hf'⟩)
          go_ret2
          exact ⟨_, rfl, HT.out, hf.same hf'⟩
      · have hd : decide ((lo : Int) < (l.length : Int)) = false := by simp; omega
        have HT : Hid (SearchIs l h (.tuple #[.int .i64 lo, .bool false])) := .inr ⟨idx_not (fun i hi he => by
            have := HI.out.1 i (by omega); omega), lo, rfl⟩
        go_wp2
        go_ret2
        exact ⟨_, rfl, HT.out, hf⟩

/-- what Held tells -/
def HeldIs (l : List Ob) (h : Int) (v : Value) : Prop := (∃ k, ∃ hk : k < l.length, idx l h = some k ∧ v = .tuple #[.agg #[.int .i64 1, .int .i64 (((l[k]).block + 1 : Nat) : Int), .int .i64 (l[k]).span, .int .i64 (l[k]).ptrs], .bool true]) ∨
  (idx l h = none ∧ v = .tuple #[.agg #[.int .i64 0, .int .i64 0, .int .i64 0, .int .i64 0], .bool false])
set_option maxRecDepth 100000 in
theorem held_any (v : Value) (l : List Ob) (h : Int) (w : World) (hv : LiesT w v l) (ha : Asc l) :
    Calls Tryz.prog 56 #[v, .int .u64 h] w fun e w' => ∃ r, e = .returned r ∧ HeldIs l h r ∧ Fr New w w' := by
  have HS : Hid (∀ o, Calls Tryz.prog 105 #[v, .int .u64 h, .func (.func 106) #[] #[]] (w.alloc o) fun e w' => ∃ r, e = .returned r ∧ SearchIs l h r ∧ Fr New (w.alloc o) w') := fun o => bsearch_any v l h _ (hv.fr ((Fr.refl New w).alloc o) (fun _ _ h => h)) ha
  have HV : Hid (∀ wr, Fr New w wr → LiesT wr v l) := fun wr hf => hv.fr hf (fun _ _ h => h)
  obtain ⟨a, cap, rfl, hl, hb, hc⟩ := hv
  clear hc hb ha
  have hmf : ∀ (fn : Fn) (first cap : Array Value) (w : World), (Instr.makeFunc fn first cap).run Tryz.prog w = .ok (.func fn first cap) w := fun _ _ _ _ => rfl
  rcases hx : idx l h with _ | k
  · go_enter Tryz.func56, Tryz.ntmps56
    go_wp2_with (go_at_call 105; refine (HS.out _).mono ?_; rintro e w1 ⟨r, rfl, hs, hf1⟩; obtain ⟨hcr, hzr⟩ := block_cells (hf1.heap (k := w.heap.size) (Go.Deep.blk_alloc_new w _) id); obtain ⟨k, rfl⟩ : ∃ k : Nat, r = .tuple #[.int .i64 k, .bool false] := (by rcases hs with ⟨k, hk, _⟩ | ⟨_, hk⟩; (rw [hx] at hk; cases hk); exact hk))
    refine bodyPost_ret (v := .tuple #[.agg #[.int .i64 0, .int .i64 0, .int .i64 0, .int .i64 0], .bool false]) (by simp [results, Tryz.results56, go_sem, hcr]) rfl ⟨_, rfl, .inr ⟨hx, rfl⟩, ?_⟩
    have hf : Fr New w w1 := ((Fr.refl _ _).alloc _).same hf1
    iterate 4 refine Fr.setCell ?_ (fun h => absurd h (by simp)) _
    exact hf
  · have hk := idx_lt hx
    go_enter Tryz.func56, Tryz.ntmps56
    go_wp2_with (go_at_call 105; refine (HS.out _).mono ?_; rintro e w1 ⟨r, rfl, hs, hf1⟩; obtain ⟨hcr, hzr⟩ := block_cells (hf1.heap (k := w.heap.size) (Go.Deep.blk_alloc_new w _) id); obtain rfl : r = .tuple #[.int .i64 k, .bool true] := (by rcases hs with ⟨k', hk', e⟩ | ⟨hk', _⟩; (rw [hx] at hk'; cases hk'; exact e); (rw [hx] at hk'; cases hk')); obtain ⟨a', cap', e', _, _, hcl⟩ := HV.out w1 (((Fr.refl _ _).alloc _).same hf1); cases e'; obtain ⟨g, rfl, hg, hcc⟩ := hcl (by omega); obtain ⟨c0, c1, c2, c3⟩ := hcc k hk; have hd : decide ((k : Int) < (l.length : Int)) = true := (by simp; omega))
    refine bodyPost_ret (v := .tuple #[.agg #[.int .i64 1, .int .i64 (((l[k]).block + 1 : Nat) : Int), .int .i64 (l[k]).span, .int .i64 (l[k]).ptrs], .bool true]) (by simp [results, Tryz.results56, go_sem, hcr]) rfl ⟨_, rfl, .inl ⟨k, hk, hx, rfl⟩, ?_⟩
    have hf : Fr New w w1 := ((Fr.refl _ _).alloc _).same hf1
    iterate 4 refine Fr.setCell ?_ (fun h => absurd h (by simp)) _
    exact hf
end Go.Proofs.YtbagcjlimdilpaaGreat
