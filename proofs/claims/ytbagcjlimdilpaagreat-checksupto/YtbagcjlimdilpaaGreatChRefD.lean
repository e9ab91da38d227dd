/- The walk of the document's 'reached': an object is marked just where it is reached. -/
import Derived.Test.YtbagcjlimdilpaaGreatChJ3
namespace Go.Proofs.YtbagcjlimdilpaaGreat
open Go.RowKit

theorem Tryz.info4 : (Tryz.prog.info? 4).map (fun i => (i.zero, i.size, i.bytes)) = some (some (.bool false), 1, 1) := by kernel_rfl

/-- block g is just those marks -/
def BRow (w : World) (g : Nat) (out : List Bool) : Prop := w.heap[g]? = some (.cells ((out.map Value.bool).toArray) 4 (0, 0))
theorem BRow.cell {w : World} {g : Nat} {out : List Bool} (h : BRow w g out) (k : Nat) (hk : k < out.length) : w.cell? ⟨g, k, none⟩ = some (.bool out[k]) := by
  simp [World.cell?, show w.heap[g]? = _ from h, hk]
theorem BRow.free {w : World} {g : Nat} {out : List Bool} (h : BRow w g out) (k : Nat) : w.frozen? ⟨g, k, none⟩ = false := by
  simp [World.frozen?, show w.heap[g]? = _ from h]
theorem BRow.set {w : World} {g : Nat} {out : List Bool} (h : BRow w g out) (k : Nat) (y : Bool) : BRow (w.setCell ⟨g, k, none⟩ (.bool y)) g (out.set k y) := by
  have := heap_setCell_same w g k _ _ (.bool y) h
  unfold BRow
  rw [this]
  simp [List.map_set]
theorem BRow.ofOwn {w : World} {g base n : Nat} {xs : List Value} {out : List Bool} (h : w.ownsRow base 4 1 (.slice (some ⟨g, 0, none⟩) n n) n xs) (hx : xs = out.map Value.bool) : BRow w g out := by
  rcases h.2 with ⟨h', _⟩ | ⟨g', cap', cur, h', _, hg, _, _, hcs, htk⟩
  · cases h'
  · simp only [Value.slice.injEq, Option.some.injEq, Addr.mk.injEq, and_true, true_and] at h'
    obtain ⟨rfl, rfl⟩ := h'
    unfold BRow
    rw [hg, ← hx, ← htk, List.take_of_length_le (by rw [Array.length_toList, hcs]; exact Nat.le_refl _)]
theorem made_false (n : Nat) : (madeCells (Value.bool false).cells (n * 1)).toList = (List.replicate n false).map Value.bool := by
  rw [Nat.mul_one, List.map_replicate]; exact toList_madeCells_one _ n

/-- what the search keeps in memory -/
structure Mem (w : World) (g : Nat) (out : List Bool) (wr : World) : Prop where
  row : BRow wr g out
  fr : Fr New w wr
theorem Mem.put {w : World} {out : List Bool} {wr : World} (h : Mem w w.heap.size out wr) (k : Nat) : Mem w w.heap.size (out.set k true) (wr.setCell ⟨w.heap.size, k, none⟩ (.bool true)) :=
  ⟨h.row.set k true, h.fr.setCell (fun hlt => absurd hlt (by simp)) _⟩
theorem Mem.grow {w : World} {out : List Bool} {wr w' : World} (h : Mem w w.heap.size out wr) (hf : Fr New wr w') : Mem w w.heap.size out w' := ⟨hf.heap h.row id, h.fr.same hf⟩

/-- the objects lie within the words -/
def Within (ws : List Int) (l : List Ob) : Prop := ∀ o ∈ l, 106 + 8 * (o.block + o.span) ≤ ws.length ∧ o.ptrs < 8 * o.span

set_option maxHeartbeats 2000000 in
set_option maxRecDepth 1000000 in
theorem reached_any (a : Option Addr) (cap : Nat) (ws : List Int) (v : Value) (l : List Ob) (w : World) (hm : ws.length ≤ 1048576) (h7 : 7 ≤ ws.length) (hr : RowU w a ws) (hv : LiesO w v l) (hin : Within ws l) :
    Calls Tryz.prog 149 #[.slice a ws.length cap, v] w fun e w' => ∃ out : List Bool, e = .returned (.slice (some ⟨w.heap.size, 0, none⟩) l.length l.length) ∧ BRow w' w.heap.size out ∧ out.length = l.length ∧ (∀ i, out[i]? = some true ↔ Reach ws l i) ∧ Fr New w w' := by
  have HV : Hid (∀ wr, Fr New w wr → LiesO wr v l) := fun wr hf => hv.fr hf (fun _ _ h => h)
  obtain ⟨av, cv, rfl, hl, hbo, hcl⟩ := hv
  obtain ⟨sb, so, rfl, hsb, hcw⟩ := rowU_plain hr (by omega)
  have HW : Hid (∀ wr, Fr New w wr → ∀ i, i < ws.length → wr.cell? ⟨sb, so + i, none⟩ = some (.int .u64 (wd ws i))) := fun wr hf i hi => hf.cell (hcw i hi) id
  have HC : Hid (0 < l.length → ∃ g, av = some ⟨g, 0, none⟩ ∧ ∀ wr, Fr New w wr → ∀ i (hi : i < l.length), wr.cell? ⟨g, i * 3, none⟩ = some (.int .i64 (l[i]).block) ∧ wr.cell? ⟨g, i * 3 + 1, none⟩ = some (.int .i64 (l[i]).span) ∧ wr.cell? ⟨g, i * 3 + 2, none⟩ = some (.int .i64 (l[i]).ptrs)) := by
    intro hp
    obtain ⟨g, e, _, hc⟩ := hcl hp
    exact ⟨g, e, fun wr hf i hi => ⟨hf.cell (hc i hi).1 id, hf.cell (hc i hi).2.1 id, hf.cell (hc i hi).2.2 id⟩⟩
  have HBO : Hid (∀ o ∈ l, o.block ≤ 1048576 ∧ o.span ≤ 4 ∧ o.ptrs < 32) := hbo
  have HIN : Hid (Within ws l) := hin
  clear hr hcl hcw hbo hin
  obtain ⟨i0, hi, hz0, hz1, hz2⟩ := info_parts Tryz.info4
  go_enter Tryz.func149, Tryz.ntmps149
  go_wp2_with (first
    | (at_make; refine wpList_make_full _ rfl (.tmp 13) (.tmp 13) 124 rfl w.heap.size 4 i0 (.bool false) 1 Tryz.underlying124 hi hz0 hz1 .i64 .i64 _ _ l.length rfl rfl rfl rfl (by rw [hz2]; omega) (by unfold maxLen; omega) (Nat.le_refl _) ?_; intro w1 hown1 hg1; have hm1 : Mem w w.heap.size (List.replicate l.length false) w1 := ⟨BRow.ofOwn hown1 (made_false _), (Fr.refl New w).grownNew hg1⟩; clear hown1 hg1)
    | fail)
  go_loopw [7] (fun t wr => ∃ (r : Nat) (out : List Bool), r ≤ 4 ∧ t = .int .i64 r ∧ Marks ws l r out ∧ Mem w w.heap.size out wr) (fun t _ => 4 - (intOf t).toNat)
  case atStart => exact ⟨0, _, by omega, rfl, marks_none ws l, hm1⟩
  case round =>
    obtain ⟨r, out, hr4, rfl, hM, hmem⟩ := hrel
    clear hm1
    by_cases hr : r < 4
    · have hc := HW.out wr hmem.fr (3 + r) (by omega)
      have hc' : wr.cell? ⟨sb, so + (3 + r), none⟩ = some (.int .u64 (wd ws (3 + r))) := hc
      clear hc
      have HF : Hid (Calls Tryz.prog 130 #[.slice av l.length cv, .int .u64 (wd ws (3 + r))] wr fun e w' => e = .returned (.int .i64 (findI l (wd ws (3 + r)))) ∧ w' = wr) := find_any _ l _ wr (HV.out wr hmem.fr)
      obtain ⟨h, hh⟩ : ∃ h, h = wd ws (3 + r) := ⟨_, rfl⟩
      rw [← hh] at hc' HF
      rcases hx : idx l h with _ | k
      · have hnx := hM.next (fun k hk => by rw [← hh, hx] at hk; cases hk)
        rw [findI_none hx] at HF
        clear hx hh
        go_wp2_with (go_at_call 130; refine calls_same HF.out ?_)
        go_roundw
        case rel => exact ⟨r + 1, out, by omega, by go_num, hnx, hmem⟩
        case measure => simp [intOf]; omega
      · have hk := idx_lt hx
        have hnx := (hM.mark hk (reach_root hr (by rw [← hh]; exact hx))).next (fun k' hk' => by rw [← hh, hx] at hk'; cases hk'; exact (set_true (by rw [hM.len]; exact hk)).2 (.inl rfl))
        rw [findI_some hx] at HF
        have hcl := hmem.row.cell k (by rw [hM.len]; exact hk)
        have hfz := hmem.row.free k
        have hput := hmem.put k
        clear hx hh
        go_wp2_with (go_at_call 130; refine calls_same HF.out ?_)
        go_roundw
        case rel => exact ⟨r + 1, _, by omega, by go_num, hnx, hput⟩
        case measure => simp [intOf]; omega
    · obtain rfl : r = 4 := by omega
      go_wp2
      go_loopg [6] (unmarked out + 1) (fun gh t wr => ∃ (out : List Bool) (m : Bool), t = .bool m ∧ gh = (if m then unmarked out + 1 else 0) ∧ Marks ws l 4 out ∧ (m = false → ∀ i, i < l.length → ∀ p, Spread ws l out i p) ∧ Mem w w.heap.size out wr)
      case atStart => exact ⟨out, true, rfl, rfl, hM, (fun h => by cases h), hmem⟩
      case round =>
        clear hM hmem hr hr4
        obtain ⟨out, m, rfl, rfl, hM, hS, hmem⟩ := hrel
        cases m with
        | false =>
          have hd := hM.done (hS rfl)
          have HD : Hid (∀ i, out[i]? = some true ↔ Reach ws l i) := hd
          have hln := hM.len
          have HLN : Hid (out.length = l.length) := hln
          clear hd hln hS
          go_wp2
          go_ret
          exact ⟨out, rfl, hmem.row, HLN.out, HD.out, hmem.fr⟩
        | true =>
          have hP0 := Pass.start hM
          obtain ⟨U0, hU0⟩ : ∃ U0, U0 = unmarked out := ⟨_, rfl⟩
          rw [← hU0] at hP0
          have HU : Hid (U0 = unmarked out) := hU0
          clear hS hM hU0
          go_wp2
          go_loopg [6, 9] l.length (fun gh t ti wr => ∃ (out : List Bool) (m : Bool) (i : Nat), t = .bool m ∧ ti = .int .i64 i ∧ i ≤ l.length ∧ gh = l.length - i ∧ Pass ws l U0 out m i ∧ Mem w w.heap.size out wr)
          case atStart => exact ⟨out, false, 0, rfl, rfl, by omega, rfl, hP0, hmem⟩
          case round =>
            clear hP0 hmem
            obtain ⟨out', m, i, rfl, rfl, hil, rfl, hP, hmem⟩ := hrel
            by_cases hi : i < l.length
            · obtain ⟨g, rfl, hcells⟩ := HC.out (by omega)
              obtain ⟨hb1, hb2, hb3⟩ := HBO.out l[i] (List.getElem_mem _)
              obtain ⟨hw1, hw2⟩ := HIN.out l[i] (List.getElem_mem _)
              obtain ⟨o, ho⟩ : ∃ o, o = l[i] := ⟨_, rfl⟩
              have HO : Hid (o = l[i]) := ho
              have HCI : Hid (∀ wr, Fr New w wr → wr.cell? ⟨g, i * 3, none⟩ = some (.int .i64 o.block) ∧ wr.cell? ⟨g, i * 3 + 1, none⟩ = some (.int .i64 o.span) ∧ wr.cell? ⟨g, i * 3 + 2, none⟩ = some (.int .i64 o.ptrs)) := by rw [ho]; exact fun wr hf => hcells wr hf i hi
              rw [← ho] at hb1 hb2 hb3 hw1 hw2
              clear ho hcells
              go_wp2
              go_loopg [6, 10] o.ptrs (fun gh t tp wr => ∃ (out : List Bool) (m : Bool) (p : Nat), t = .bool m ∧ tp = .int .i64 p ∧ p ≤ o.ptrs ∧ gh = o.ptrs - p ∧ Pass ws l U0 out m i ∧ (m = false → Spread ws l out i p) ∧ Mem w w.heap.size out wr)
              case atStart => exact ⟨out', m, 0, rfl, rfl, by omega, rfl, hP, fun _ => spread_zero, hmem⟩
              case round =>
                clear hP hmem
                obtain ⟨out, m, p, rfl, rfl, hpp, rfl, hP, hSp, hmem⟩ := hrel
                obtain ⟨e0, e1, e2⟩ := HCI.out wr hmem.fr
                have hio : i < out.length := by rw [hP.marks.len]; exact hi
                have hci := hmem.row.cell i hio
                rcases hoi : out[i] with _ | _
                · rw [hoi] at hci
                  have hnx := hP.next (fun _ p => spread_not (by rw [List.getElem?_eq_getElem hio, hoi]; simp) p)
                  clear hoi hSp hP
                  go_wp2
                  go_roundg (l.length - (i + 1))
                  case measure => omega
                  case rel => exact ⟨out, m, i + 1, rfl, by go_num, by omega, rfl, hnx, hmem⟩
                · rw [hoi] at hci
                  by_cases hp : p < o.ptrs
                  · have hd : decide ((p : Int) < (o.ptrs : Int)) = true := by simp; omega
                    have HPL : Hid (Calls Tryz.prog 129 #[.agg #[.int .i64 o.block, .int .i64 o.span, .int .i64 o.ptrs], .int .i64 p] wr fun e w' => e = .returned (.int .i64 (106 + 8 * (o.block : Int) + 1 + p)) ∧ Fr New wr w') := place_any o p wr hb1 (by omega) (by omega)
                    obtain ⟨h, hh⟩ : ∃ h, h = wd ws (106 + 8 * o.block + 1 + p) := ⟨_, rfl⟩
                    have HCW : Hid (∀ wr, Fr New w wr → wr.cell? ⟨sb, so + (106 + 8 * o.block + 1 + p), none⟩ = some (.int .u64 h)) := by rw [hh]; exact fun wr hf => HW.out wr hf _ (by omega)
                    have HFI : Hid (∀ wr, Fr New w wr → Calls Tryz.prog 130 #[.slice (some ⟨g, 0, none⟩) l.length cv, .int .u64 h] wr fun e w' => e = .returned (.int .i64 (findI l h)) ∧ w' = wr) := fun wr hf => find_any _ l _ wr (HV.out wr hf)
                    have hpl : ∀ (hi' : i < l.length), wd ws (pl l[i] p) = h := fun _ => by rw [← HO.out]; exact hh.symm
                    have HOI : Hid (out[i]? = some true) := (List.getElem?_eq_getElem hio).trans (by rw [hoi])
                    have hpi : p < (l[i]).ptrs := by rw [← HO.out]; exact hp
                    clear hh hoi
                    rcases hx : idx l h with _ | k
                    · have hsp : m = false → Spread ws l out i (p + 1) := fun hm => spread_more (hSp hm) (fun hi' k hk => by rw [hpl hi', hx] at hk; cases hk)
                      have HF2 : Hid (∀ wr, Fr New w wr → Calls Tryz.prog 130 #[.slice (some ⟨g, 0, none⟩) l.length cv, .int .u64 h] wr fun e w' => e = .returned (.int .i64 (-1)) ∧ w' = wr) := by rw [← findI_none hx]; exact HFI.out
                      clear hx hpl hSp HFI hpi
                      go_wp2_with (first
                        | (go_at_call 129; refine HPL.out.mono ?_; rintro e w2 ⟨rfl, hf2⟩; have hm2 := hmem.grow hf2; have hcw := HCW.out w2 hm2.fr)
                        | (go_at_call 130; refine calls_same (HF2.out w2 hm2.fr) ?_)
                        | fail)
                      go_roundg (o.ptrs - (p + 1))
                      case measure => omega
                      case rel => exact ⟨out, m, p + 1, rfl, by go_num, by omega, rfl, hP, hsp, hm2⟩
                    · have hk := idx_lt hx
                      have hko : k < out.length := by rw [hP.marks.len]; exact hk
                      have HF2 : Hid (∀ wr, Fr New w wr → Calls Tryz.prog 130 #[.slice (some ⟨g, 0, none⟩) l.length cv, .int .u64 h] wr fun e w' => e = .returned (.int .i64 k) ∧ w' = wr) := by rw [← findI_some hx]; exact HFI.out
                      rcases hok : out[k] with _ | _
                      · have hP2 := hP.mark hk (reach_step hi (hP.marks.sound i HOI.out) hpi (by rw [hpl hi]; exact hx)) ((List.getElem?_eq_getElem hko).trans (by rw [hok]))
                        have HK : Hid (∀ w2, Fr New wr w2 → w2.cell? ⟨w.heap.size, k, none⟩ = some (.bool false) ∧ w2.frozen? ⟨w.heap.size, k, none⟩ = false) := fun w2 hf => ⟨((hmem.grow hf).row.cell k hko).trans (by rw [hok]), (hmem.grow hf).row.free k⟩
                        clear hx hpl hSp HFI hpi hok
                        go_wp2_with (first
                          | (go_at_call 129; refine HPL.out.mono ?_; rintro e w2 ⟨rfl, hf2⟩; have hm2 := hmem.grow hf2; have hcw := HCW.out w2 hm2.fr; obtain ⟨hck, hfk⟩ := HK.out w2 hf2; have hput := hm2.put k)
                          | (go_at_call 130; refine calls_same (HF2.out w2 hm2.fr) ?_)
                          | fail)
                        go_roundg (o.ptrs - (p + 1))
                        case measure => omega
                        case rel => exact ⟨_, true, p + 1, rfl, by go_num, by omega, rfl, hP2, (fun h => by cases h), hput⟩
                      · have hsp : m = false → Spread ws l out i (p + 1) := fun hm => spread_more (hSp hm) (fun hi' k' hk' => by rw [hpl hi', hx] at hk'; cases hk'; exact (List.getElem?_eq_getElem hko).trans (by rw [hok]))
                        have HK : Hid (∀ w2, Fr New wr w2 → w2.cell? ⟨w.heap.size, k, none⟩ = some (.bool true)) := fun w2 hf => ((hmem.grow hf).row.cell k hko).trans (by rw [hok])
                        clear hx hpl hSp HFI hpi hok
                        go_wp2_with (first
                          | (go_at_call 129; refine HPL.out.mono ?_; rintro e w2 ⟨rfl, hf2⟩; have hm2 := hmem.grow hf2; have hcw := HCW.out w2 hm2.fr; have hck := HK.out w2 hf2)
                          | (go_at_call 130; refine calls_same (HF2.out w2 hm2.fr) ?_)
                          | fail)
                        go_roundg (o.ptrs - (p + 1))
                        case measure => omega
                        case rel => exact ⟨out, m, p + 1, rfl, by go_num, by omega, rfl, hP, hsp, hm2⟩
                  · have hd : decide ((p : Int) < (o.ptrs : Int)) = false := by simp; omega
                    have hnx := hP.next (fun hm p' => spread_all (hSp hm) hi (by rw [← HO.out]; omega) p')
                    clear hoi hSp hP
                    go_wp2
                    go_roundg (l.length - (i + 1))
                    case measure => omega
                    case rel => exact ⟨out, m, i + 1, rfl, by go_num, by omega, rfl, hnx, hmem⟩
            · obtain rfl : i = l.length := by omega
              cases m with
              | true =>
                have hy := hP.yes rfl
                have hM := hP.marks
                rw [HU.out] at hy
                go_wp2
                go_roundg (unmarked out' + 1)
                case measure => simp; omega
                case rel => exact ⟨out', true, rfl, rfl, hM, (fun h => by cases h), hmem⟩
              | false =>
                obtain ⟨hn, hS⟩ := hP.no rfl
                have hM := hP.marks
                go_wp2
                go_roundg 0
                case measure => simp
                case rel => exact ⟨out', false, rfl, rfl, hM, fun _ => hS, hmem⟩
end Go.Proofs.YtbagcjlimdilpaaGreat
