/- Texts that follow one another, joined. -/
import Derived.Test.YtbagcjlimdilpaaGreatHhJ3
import Derived.Test.YtbagcjlimdilpaaGreatHhJ0
/- The walk of the document's 'reached': an object is marked just where it is reached. -/
namespace Go.Proofs.YtbagcjlimdilpaaGreat
open Go.RowKit

theorem Tryz.info4 : (Tryz.prog.info? 4).map (fun i => (i.zero, i.size, i.bytes)) = some (some (.bool false), 1, 1) := by kernel_rfl

/-- block g is just those marks -/
def BRow (w : World) (g : Nat) (out : List Bool) : Prop := w.heap[g]? = some (.cells ((out.map Value.bool).toArray) 4 (0, 0))
theorem BRow.cell {w : World} {g : Nat} {out : List Bool} (h : BRow w g out) (k : Nat) (hk : k < out.length) : w.cell? ⟨g, k, none⟩ = some (.bool out[k]) := by
  simp [World.cell?, show w.heap[g]? = _ from h, hk]
theorem BRow.free {w : World} {g : Nat} {out : List Bool} (h : BRow w g out) (k : Nat) : w.frozen? ⟨g, k, none⟩ = false := by
  simp [World.frozen?, show w.heap[g]? = _ from h]
theorem BRow.set {w : World} {g : Nat} {out : List Bool} (h : BRow w g out) (k : Nat) (y : Bool) : BRow (w.setCell ⟨g, k, none⟩ (.bool y)) g (out.set k y) := by
  have := heap_setCell_same w g k _ _ (.bool y) h
  unfold BRow
  rw [this]
  simp [List.map_set]
theorem BRow.ofOwn {w : World} {g base n : Nat} {xs : List Value} {out : List Bool} (h : w.ownsRow base 4 1 (.slice (some ⟨g, 0, none⟩) n n) n xs) (hx : xs = out.map Value.bool) : BRow w g out := by
  rcases h.2 with ⟨h', _⟩ | ⟨g', cap', cur, h', _, hg, _, _, hcs, htk⟩
  · cases h'
  · simp only [Value.slice.injEq, Option.some.injEq, Addr.mk.injEq, and_true, true_and] at h'
    obtain ⟨rfl, rfl⟩ := h'
    unfold BRow
    rw [hg, ← hx, ← htk, List.take_of_length_le (by rw [Array.length_toList, hcs]; exact Nat.le_refl _)]
theorem made_false (n : Nat) : (madeCells (Value.bool false).cells (n * 1)).toList = (List.replicate n false).map Value.bool := by
  rw [Nat.mul_one, List.map_replicate]; exact toList_madeCells_one _ n

/-- what the search keeps in memory -/
structure Mem (w : World) (g : Nat) (out : List Bool) (wr : World) : Prop where
  row : BRow wr g out
  fr : Fr New w wr
theorem Mem.put {w : World} {out : List Bool} {wr : World} (h : Mem w w.heap.size out wr) (k : Nat) : Mem w w.heap.size (out.set k true) (wr.setCell ⟨w.heap.size, k, none⟩ (.bool true)) :=
  ⟨h.row.set k true, h.fr.setCell (fun hlt => absurd hlt (by simp)) _⟩
theorem Mem.grow {w : World} {out : List Bool} {wr w' : World} (h : Mem w w.heap.size out wr) (hf : Fr New wr w') : Mem w w.heap.size out w' := ⟨hf.heap h.row id, h.fr.same hf⟩

/-- the objects lie within the words -/
def Within (ws : List Int) (l : List Ob) : Prop := ∀ o ∈ l, 106 + 8 * (o.block + o.span) ≤ ws.length ∧ o.ptrs < 8 * o.span

set_option maxHeartbeats 2000000 in
set_option maxRecDepth 1000000 in
theorem reached_any (a : Option Addr) (cap : Nat) (ws : List Int) (v : Value) (l : List Ob) (w : World) (hm : ws.length ≤ 1048576) (h7 : 7 ≤ ws.length) (hr : RowU w a ws) (hv : LiesO w v l) (hin : Within ws l) :
    Calls Tryz.prog 149 #[.slice a ws.length cap, v] w fun e w' => ∃ out : List Bool, e = .returned (.slice (some ⟨w.heap.size, 0, none⟩) l.length l.length) ∧ BRow w' w.heap.size out ∧ out.length = l.length ∧ (∀ i, out[i]? = some true ↔ Reach ws l i) ∧ Fr New w w' := by
  have HV : Hid (∀ wr, Fr New w wr → LiesO wr v l) := fun wr hf => hv.fr hf (fun _ _ h => h)
  obtain ⟨av, cv, rfl, hl, hbo, hcl⟩ := hv
  obtain ⟨sb, so, rfl, hsb, hcw⟩ := rowU_plain hr (by omega)
  have HW : Hid (∀ wr, Fr New w wr → ∀ i, i < ws.length → wr.cell? ⟨sb, so + i, none⟩ = some (.int .u64 (wd ws i))) := fun wr hf i hi => hf.cell (hcw i hi) id
  have HC : Hid (0 < l.length → ∃ g, av = some ⟨g, 0, none⟩ ∧ ∀ wr, Fr New w wr → ∀ i (hi : i < l.length), wr.cell? ⟨g, i * 3, none⟩ = some (.int .i64 (l[i]).block) ∧ wr.cell? ⟨g, i * 3 + 1, none⟩ = some (.int .i64 (l[i]).span) ∧ wr.cell? ⟨g, i * 3 + 2, none⟩ = some (.int .i64 (l[i]).ptrs)) := by
    intro hp
    obtain ⟨g, e, _, hc⟩ := hcl hp
    exact ⟨g, e, fun wr hf i hi => ⟨hf.cell (hc i hi).1 id, hf.cell (hc i hi).2.1 id, hf.cell (hc i hi).2.2 id⟩⟩
  have HBO : Hid (∀ o ∈ l, o.block ≤ 1048576 ∧ o.span ≤ 4 ∧ o.ptrs < 32) := hbo
  have HIN : Hid (Within ws l) := hin
  clear hr hcl hcw hbo hin
  obtain ⟨i0, hi, hz0, hz1, hz2⟩ := info_parts Tryz.info4
  go_enter Tryz.func149, Tryz.ntmps149
  go_wp2_with (first
    | (at_make; refine wpList_make_full _ rfl (.tmp 13) (.tmp 13) 124 rfl w.heap.size 4 i0 (.bool false) 1 Tryz.underlying124 hi hz0 hz1 .i64 .i64 _ _ l.length rfl rfl rfl rfl (by rw [hz2]; omega) (by unfold maxLen; omega) (Nat.le_refl _) ?_; intro w1 hown1 hg1; have hm1 : Mem w w.heap.size (List.replicate l.length false) w1 := ⟨BRow.ofOwn hown1 (made_false _), (Fr.refl New w).grownNew hg1⟩; clear hown1 hg1)
    | fail)
  go_loopw [7] (fun t wr => ∃ (r : Nat) (out : List Bool), r ≤ 4 ∧ t = .int .i64 r ∧ Marks ws l r out ∧ Mem w w.heap.size out wr) (fun t _ => 4 - (intOf t).toNat)
  case atStart => exact ⟨0, _, by omega, rfl, marks_none ws l, hm1⟩
  case round =>
    obtain ⟨r, out, hr4, rfl, hM, hmem⟩ := hrel
    clear hm1
    by_cases hr : r < 4
    · have hc := HW.out wr hmem.fr (3 + r) (by omega)
      have hc' : wr.cell? ⟨sb, so + (3 + r), none⟩ = some (.int .u64 (wd ws (3 + r))) := hc
      clear hc
      have HF : Hid (Calls Tryz.prog 130 #[.slice av l.length cv, .int .u64 (wd ws (3 + r))] wr fun e w' => e = .returned (.int .i64 (findI l (wd ws (3 + r)))) ∧ w' = wr) := find_any _ l _ wr (HV.out wr hmem.fr)
      obtain ⟨h, hh⟩ : ∃ h, h = wd ws (3 + r) := ⟨_, rfl⟩
      rw [← hh] at hc' HF
      rcases hx : idx l h with _ | k
      · have hnx := hM.next (fun k hk => by rw [← hh, hx] at hk; cases hk)
        rw [findI_none hx] at HF
        clear hx hh
        go_wp2_with (go_at_call 130; refine calls_same HF.out ?_)
        go_roundw
        case rel => exact ⟨r + 1, out, by omega, by go_num, hnx, hmem⟩
        case measure => simp [intOf]; omega
      · have hk := idx_lt hx
        have hnx := (hM.mark hk (reach_root hr (by rw [← hh]; exact hx))).next (fun k' hk' => by rw [← hh, hx] at hk'; cases hk'; exact (set_true (by rw [hM.len]; exact hk)).2 (.inl rfl))
        rw [findI_some hx] at HF
        have hcl := hmem.row.cell k (by rw [hM.len]; exact hk)
        have hfz := hmem.row.free k
        have hput := hmem.put k
        clear hx hh
        go_wp2_with (go_at_call 130; refine calls_same HF.out ?_)
        go_roundw
        case rel => exact ⟨r + 1, _, by omega, by go_num, hnx, hput⟩
        case measure => simp [intOf]; omega
    · obtain rfl : r = 4 := by omega
      go_wp2
      go_loopg [6] (unmarked out + 1) (fun gh t wr => ∃ (out : List Bool) (m : Bool), t = .bool m ∧ gh = (if m then unmarked out + 1 else 0) ∧ Marks ws l 4 out ∧ (m = false → ∀ i, i < l.length → ∀ p, Spread ws l out i p) ∧ Mem w w.heap.size out wr)
      case atStart => exact ⟨out, true, rfl, rfl, hM, (fun h => by cases h), hmem⟩
      case round =>
        clear hM hmem hr hr4
        obtain ⟨out, m, rfl, rfl, hM, hS, hmem⟩ := hrel
        cases m with
        | false =>
          have hd := hM.done (hS rfl)
          have HD : Hid (∀ i, out[i]? = some true ↔ Reach ws l i) := hd
          have hln := hM.len
          have HLN : Hid (out.length = l.length) := hln
          clear hd hln hS
          go_wp2
          go_ret
          exact ⟨out, rfl, hmem.row, HLN.out, HD.out, hmem.fr⟩
        | true =>
          have hP0 := Pass.start hM
          obtain ⟨U0, hU0⟩ : ∃ U0, U0 = unmarked out := ⟨_, rfl⟩
          rw [← hU0] at hP0
          have HU : Hid (U0 = unmarked out) := hU0
          clear hS hM hU0
          go_wp2
          go_loopg [6, 9] l.length (fun gh t ti wr => ∃ (out : List Bool) (m : Bool) (i : Nat), t = .bool m ∧ ti = .int .i64 i ∧ i ≤ l.length ∧ gh = l.length - i ∧ Pass ws l U0 out m i ∧ Mem w w.heap.size out wr)
          case atStart => exact ⟨out, false, 0, rfl, rfl, by omega, rfl, hP0, hmem⟩
          case round =>
            clear hP0 hmem
            obtain ⟨out', m, i, rfl, rfl, hil, rfl, hP, hmem⟩ := hrel
            by_cases hi : i < l.length
            · obtain ⟨g, rfl, hcells⟩ := HC.out (by omega)
              obtain ⟨hb1, hb2, hb3⟩ := HBO.out l[i] (List.getElem_mem _)
              obtain ⟨hw1, hw2⟩ := HIN.out l[i] (List.getElem_mem _)
              obtain ⟨o, ho⟩ : ∃ o, o = l[i] := ⟨_, rfl⟩
              have HO : Hid (o = l[i]) := ho
              have HCI : Hid (∀ wr, Fr New w wr → wr.cell? ⟨g, i * 3, none⟩ = some (.int .i64 o.block) ∧ wr.cell? ⟨g, i * 3 + 1, none⟩ = some (.int .i64 o.span) ∧ wr.cell? ⟨g, i * 3 + 2, none⟩ = some (.int .i64 o.ptrs)) := by rw [ho]; exact fun wr hf => hcells wr hf i hi
              rw [← ho] at hb1 hb2 hb3 hw1 hw2
              clear ho hcells
              go_wp2
              go_loopg [6, 10] o.ptrs (fun gh t tp wr => ∃ (out : List Bool) (m : Bool) (p : Nat), t = .bool m ∧ tp = .int .i64 p ∧ p ≤ o.ptrs ∧ gh = o.ptrs - p ∧ Pass ws l U0 out m i ∧ (m = false → Spread ws l out i p) ∧ Mem w w.heap.size out wr)
              case atStart => exact ⟨out', m, 0, rfl, rfl, by omega, rfl, hP, fun _ => spread_zero, hmem⟩
              case round =>
                clear hP hmem
                obtain ⟨out, m, p, rfl, rfl, hpp, rfl, hP, hSp, hmem⟩ := hrel
                obtain ⟨e0, e1, e2⟩ := HCI.out wr hmem.fr
                have hio : i < out.length := by rw [hP.marks.len]; exact hi
                have hci := hmem.row.cell i hio
                rcases hoi : out[i] with _ | _
                · rw [hoi] at hci
                  have hnx := hP.next (fun _ p => spread_not (by rw [List.getElem?_eq_getElem hio, hoi]; simp) p)
                  clear hoi hSp hP
                  go_wp2
                  go_roundg (l.length - (i + 1))
                  case measure => omega
                  case rel => exact ⟨out, m, i + 1, rfl, by go_num, by omega, rfl, hnx, hmem⟩
                · rw [hoi] at hci
                  by_cases hp : p < o.ptrs
                  · have hd : decide ((p : Int) < (o.ptrs : Int)) = true := by simp; omega
                    have HPL : Hid (Calls Tryz.prog 129 #[.agg #[.int .i64 o.block, .int .i64 o.span, .int .i64 o.ptrs], .int .i64 p] wr fun e w' => e = .returned (.int .i64 (106 + 8 * (o.block : Int) + 1 + p)) ∧ Fr New wr w') := place_any o p wr hb1 (by omega) (by omega)
                    obtain ⟨h, hh⟩ : ∃ h, h = wd ws (106 + 8 * o.block + 1 + p) := ⟨_, rfl⟩
                    have HCW : Hid (∀ wr, Fr New w wr → wr.cell? ⟨sb, so + (106 + 8 * o.block + 1 + p), none⟩ = some (.int .u64 h)) := by rw [hh]; exact fun wr hf => HW.out wr hf _ (by omega)
                    have HFI : Hid (∀ wr, Fr New w wr → Calls Tryz.prog 130 #[.slice (some ⟨g, 0, none⟩) l.length cv, .int .u64 h] wr fun e w' => e = .returned (.int .i64 (findI l h)) ∧ w' = wr) := fun wr hf => find_any _ l _ wr (HV.out wr hf)
                    have hpl : ∀ (hi' : i < l.length), wd ws (pl l[i] p) = h := fun _ => by rw [← HO.out]; exact hh.symm
                    have HOI : Hid (out[i]? = some true) := (List.getElem?_eq_getElem hio).trans (by rw [hoi])
                    have hpi : p < (l[i]).ptrs := by rw [← HO.out]; exact hp
                    clear hh hoi
                    rcases hx : idx l h with _ | k
                    · have hsp : m = false → Spread ws l out i (p + 1) := fun hm => spread_more (hSp hm) (fun hi' k hk => by rw [hpl hi', hx] at hk; cases hk)
                      have HF2 : Hid (∀ wr, Fr New w wr → Calls Tryz.prog 130 #[.slice (some ⟨g, 0, none⟩) l.length cv, .int .u64 h] wr fun e w' => e = .returned (.int .i64 (-1)) ∧ w' = wr) := by rw [← findI_none hx]; exact HFI.out
                      clear hx hpl hSp HFI hpi
                      go_wp2_with (first
                        | (go_at_call 129; refine HPL.out.mono ?_; rintro e w2 ⟨rfl, hf2⟩; have hm2 := hmem.grow hf2; have hcw := HCW.out w2 hm2.fr)
                        | (go_at_call 130; refine calls_same (HF2.out w2 hm2.fr) ?_)
                        | fail)
                      go_roundg (o.ptrs - (p + 1))
                      case measure => omega
                      case rel => exact ⟨out, m, p + 1, rfl, by go_num, by omega, rfl, hP, hsp, hm2⟩
                    · have hk := idx_lt hx
                      have hko : k < out.length := by rw [hP.marks.len]; exact hk
                      have HF2 : Hid (∀ wr, Fr New w wr → Calls Tryz.prog 130 #[.slice (some ⟨g, 0, none⟩) l.length cv, .int .u64 h] wr fun e w' => e = .returned (.int .i64 k) ∧ w' = wr) := by rw [← findI_some hx]; exact HFI.out
                      rcases hok : out[k] with _ | _
                      · have hP2 := hP.mark hk (reach_step hi (hP.marks.sound i HOI.out) hpi (by rw [hpl hi]; exact hx)) ((List.getElem?_eq_getElem hko).trans (by rw [hok]))
                        have HK : Hid (∀ w2, Fr New wr w2 → w2.cell? ⟨w.heap.size, k, none⟩ = some (.bool false) ∧ w2.frozen? ⟨w.heap.size, k, none⟩ = false) := fun w2 hf => ⟨((hmem.grow hf).row.cell k hko).trans (by rw [hok]), (hmem.grow hf).row.free k⟩
                        clear hx hpl hSp HFI hpi hok
                        go_wp2_with (first
                          | (go_at_call 129; refine HPL.out.mono ?_; rintro e w2 ⟨rfl, hf2⟩; have hm2 := hmem.grow hf2; have hcw := HCW.out w2 hm2.fr; obtain ⟨hck, hfk⟩ := HK.out w2 hf2; have hput := hm2.put k)
                          | (go_at_call 130; refine calls_same (HF2.out w2 hm2.fr) ?_)
                          | fail)
                        go_roundg (o.ptrs - (p + 1))
                        case measure => omega
                        case rel => exact ⟨_, true, p + 1, rfl, by go_num, by omega, rfl, hP2, (fun h => by cases h), hput⟩
                      · have hsp : m = false → Spread ws l out i (p + 1) := fun hm => spread_more (hSp hm) (fun hi' k' hk' => by rw [hpl hi', hx] at hk'; cases hk'; exact (List.getElem?_eq_getElem hko).trans (by rw [hok]))
                        have HK : Hid (∀ w2, Fr New wr w2 → w2.cell? ⟨w.heap.size, k, none⟩ = some (.bool true)) := fun w2 hf => ((hmem.grow hf).row.cell k hko).trans (by rw [hok])
                        clear hx hpl hSp HFI hpi hok
                        go_wp2_with (first
                          | (go_at_call 129; refine HPL.out.mono ?_; rintro e w2 ⟨rfl, hf2⟩; have hm2 := hmem.grow hf2; have hcw := HCW.out w2 hm2.fr; have hck := HK.out w2 hf2)
                          | (go_at_call 130; refine calls_same (HF2.out w2 hm2.fr) ?_)
                          | fail)
                        go_roundg (o.ptrs - (p + 1))
                        case measure => omega
                        case rel => exact ⟨out, m, p + 1, rfl, by go_num, by omega, rfl, hP, hsp, hm2⟩
                  · have hd : decide ((p : Int) < (o.ptrs : Int)) = false := by simp; omega
                    have hnx := hP.next (fun hm p' => spread_all (hSp hm) hi (by rw [← HO.out]; omega) p')
                    clear hoi hSp hP
                    go_wp2
                    go_roundg (l.length - (i + 1))
                    case measure => omega
                    case rel => exact ⟨out, m, i + 1, rfl, by go_num, by omega, rfl, hnx, hmem⟩
            · obtain rfl : i = l.length := by omega
              cases m with
              | true =>
                have hy := hP.yes rfl
                have hM := hP.marks
                rw [HU.out] at hy
                go_wp2
                go_roundg (unmarked out' + 1)
                case measure => simp; omega
                case rel => exact ⟨out', true, rfl, rfl, hM, (fun h => by cases h), hmem⟩
              | false =>
                obtain ⟨hn, hS⟩ := hP.no rfl
                have hM := hP.marks
                go_wp2
                go_roundg 0
                case measure => simp
                case rel => exact ⟨out', false, rfl, rfl, hM, fun _ => hS, hmem⟩
end Go.Proofs.YtbagcjlimdilpaaGreat
/- The walk of the document's Check: it tells the first thing that is wrong, and its place. -/
namespace Go.Proofs.YtbagcjlimdilpaaGreat
open Go.RowKit

theorem lies_objs {w : World} {B : Nat} {v : Value} {ws : List Int} (h : OwnO B w v (objs ws)) : LiesO w v (objs ws) :=
  lies_own h (by have := objs_len ws; omega) (fun o ho => by have := objs_in ho; have := nblk_le ws.length; exact ⟨by omega, by omega, by omega⟩)
theorem within_objs (ws : List Int) : Within ws (objs ws) := fun _ ho => ⟨(objs_in ho).1, (objs_in ho).2.2.2.1⟩

theorem ret_two {c a b : Int} (h : a = b) : Ending.returned (.tuple #[.int .i64 c, .int .i64 a]) = .returned (.tuple #[.int .i64 c, .int .i64 b]) := by rw [h]

set_option maxHeartbeats 2000000 in
set_option maxRecDepth 1000000 in
theorem check_any (a : Option Addr) (cap : Nat) (ws : List Int) (w : World) (hm : ws.length ≤ 1048576) (hcap : ws.length ≤ cap) (hr : RowU w a ws) :
    Calls Tryz.prog 123 #[.slice a ws.length cap] w fun e w' => ∃ c p, e = .returned (.tuple #[.int .i64 c, .int .i64 p]) ∧ CheckIs ws c p ∧ Fr New w w' := by
  have HB : Hid (Calls Tryz.prog 127 #[.int .i64 ws.length] w fun e w' => e = .returned (.int .i64 (nblk ws.length)) ∧ w' = w) := blocks_any _ w (by omega)
  by_cases hn : nblk ws.length = 0
  · have HT : Hid (CheckIs ws 2 0) := .inl ⟨hn, rfl, rfl⟩
    rw [hn] at HB
    clear hn hr
    go_enter Tryz.func123, Tryz.ntmps123
    go_wp2_with (go_at_call 127; refine calls_same HB.out ?_)
    go_ret2
    exact ⟨2, 0, rfl, HT.out, Fr.refl _ _⟩
  obtain ⟨hlen, hn1, hn2⟩ := nblk_some hn
  obtain ⟨sb, so, rfl, hsb, hcw⟩ := rowU_plain hr (by omega)
  have c0 := hcw 0 (by omega)
  have c1 := hcw 1 (by omega)
  have c7 := hcw 7 (by omega)
  have c8 := hcw 8 (by omega)
  have HR : Hid (∀ wr, Fr New w wr → RowU wr (some ⟨sb, so, none⟩) ws) := fun wr hf => rowU_fr hf hr (fun _ _ h => h)
  have HW : Hid (∀ wr, Fr New w wr → ∀ i, i < ws.length → wr.cell? ⟨sb, so + i, none⟩ = some (.int .u64 (wd ws i))) := fun wr hf i hi => hf.cell (hcw i hi) id
  have HS : Hid (Calls Tryz.prog 121 #[.slice (some ⟨sb, so, none⟩) 7 cap] w fun e w' => e = .returned (.int .u64 (sumL (ws.take 7))) ∧ w' = w) := rsum_any _ 7 cap (ws.take 7) w (by simp; omega) (by decide) (rowU_take hr 7)
  have HWK : Hid (Calls Tryz.prog 126 #[.slice (some ⟨sb, so, none⟩) ws.length cap] w fun e w' => ∃ vl vb, e = .returned (.tuple #[vl, vb]) ∧ OwnO w.heap.size w' vl (objs ws) ∧ OwnN w.heap.size w' vb (bads ws) ∧ Fr New w w') := walk_any _ cap ws w hn hr
  have HN0 : Hid (nblk ws.length ≠ 0) := hn
  have HLN : Hid (ws.length = 106 + 8 * nblk ws.length) := hlen
  obtain ⟨n, hnn⟩ : ∃ n, n = nblk ws.length := ⟨_, rfl⟩
  have HNN : Hid (n = nblk ws.length) := hnn
  rw [← hnn] at hn1 hn2 HB
  obtain ⟨x0, hx0⟩ : ∃ x, x = wd ws 0 := ⟨_, rfl⟩
  obtain ⟨x1, hx1⟩ : ∃ x, x = wd ws 1 := ⟨_, rfl⟩
  obtain ⟨x7, hx7⟩ : ∃ x, x = wd ws 7 := ⟨_, rfl⟩
  obtain ⟨x8, hx8⟩ : ∃ x, x = wd ws 8 := ⟨_, rfl⟩
  obtain ⟨sm, hsm⟩ : ∃ x, x = sumL (ws.take 7) := ⟨_, rfl⟩
  have h9 : 114 ≤ ws.length := by omega
  rw [← hx0, Nat.add_zero] at c0
  rw [← hx1] at c1
  rw [← hx7] at c7
  rw [← hx8] at c8
  rw [← hsm] at HS
  have HX : Hid (x0 = wd ws 0 ∧ x1 = wd ws 1 ∧ x7 = wd ws 7 ∧ x8 = wd ws 8 ∧ sm = sumL (ws.take 7)) := ⟨hx0, hx1, hx7, hx8, hsm⟩
  have hw1 : IntKind.u64.wrap (n : Int) = n := by rw [IntKind.wrap_u64]; omega
  clear hlen hn hnn hx0 hx1 hx7 hx8 hsm hr hcw
  by_cases t0 : x0 = 20261114
  case neg =>
    have HT : Hid (CheckIs ws 3 0) := .inr ⟨HN0.out, .inl ⟨by rw [← HX.out.1]; exact t0, rfl, rfl⟩⟩
    have ht : (x0 != 20261114) = true := by simpa using t0
    go_enter Tryz.func123, Tryz.ntmps123
    go_wp2_with (go_at_call 127; refine calls_same HB.out ?_)
    go_ret2
    exact ⟨3, 0, rfl, HT.out, Fr.refl _ _⟩
  case pos =>
  by_cases t1 : x1 = n
  case neg =>
    have HT : Hid (CheckIs ws 3 1) := .inr ⟨HN0.out, .inr ⟨by rw [← HX.out.1]; simpa using t0, .inl ⟨by rw [← HX.out.2.1, ← HNN.out]; exact t1, rfl, rfl⟩⟩⟩
    have ht : (x1 != (n : Int)) = true := by simpa using t1
    go_enter Tryz.func123, Tryz.ntmps123
    go_wp2_with (go_at_call 127; refine calls_same HB.out ?_)
    go_ret2
    exact ⟨3, 1, rfl, HT.out, Fr.refl _ _⟩
  case pos =>
  by_cases t7 : x7 = sm
  case neg =>
    have HT : Hid (CheckIs ws 3 7) := .inr ⟨HN0.out, .inr ⟨by rw [← HX.out.1]; simpa using t0, .inr ⟨by rw [← HX.out.2.1, ← HNN.out]; simpa using t1, .inl ⟨by rw [← HX.out.2.2.1, ← HX.out.2.2.2.2]; exact t7, rfl, rfl⟩⟩⟩⟩
    have ht : (x7 != sm) = true := by simpa using t7
    go_enter Tryz.func123, Tryz.ntmps123
    go_wp2_with (first | (go_at_call 127; refine calls_same HB.out ?_) | (go_at_call 121; refine calls_same HS.out ?_))
    go_ret2
    exact ⟨3, 7, rfl, HT.out, Fr.refl _ _⟩
  case pos =>
  by_cases t8 : x8 = 0
  case neg =>
    have HT : Hid (CheckIs ws 4 8) := .inr ⟨HN0.out, .inr ⟨by rw [← HX.out.1]; simpa using t0, .inr ⟨by rw [← HX.out.2.1, ← HNN.out]; simpa using t1, .inr ⟨by rw [← HX.out.2.2.1, ← HX.out.2.2.2.2]; simpa using t7, .inl ⟨by rw [← HX.out.2.2.2.1]; exact t8, rfl, rfl⟩⟩⟩⟩⟩
    have ht : (x8 != 0) = true := by simpa using t8
    go_enter Tryz.func123, Tryz.ntmps123
    go_wp2_with (first | (go_at_call 127; refine calls_same HB.out ?_) | (go_at_call 121; refine calls_same HS.out ?_))
    go_ret2
    exact ⟨4, 8, rfl, HT.out, Fr.refl _ _⟩
  case pos =>
  have HA0 : Hid (Clear (headT ws)) := by
    intro y hy
    simp only [headT, List.mem_cons, List.not_mem_nil, or_false] at hy
    rcases hy with rfl | rfl | rfl | rfl | rfl
    · exact HN0.out
    · rw [← HX.out.1]; simpa using t0
    · rw [← HX.out.2.1, ← HNN.out]; simpa using t1
    · rw [← HX.out.2.2.1, ← HX.out.2.2.2.2]; simpa using t7
    · rw [← HX.out.2.2.2.1]; simpa using t8
  rcases hbd : bads ws with _ | ⟨p, r⟩
  case cons =>
    have HT : Hid (CheckIs ws 5 p) := check_bad HA0.out hbd
    rw [hbd] at HWK
    clear hbd
    go_enter Tryz.func123, Tryz.ntmps123
    go_wp2_with (first
      | (go_at_call 127; refine calls_same HB.out ?_)
      | (go_at_call 121; refine calls_same HS.out ?_)
      | (go_at_call 126; refine HWK.out.mono ?_; rintro e w1 ⟨vl, vb, rfl, hol, hob, hf1⟩; obtain ⟨gb, cb, rfl, _, _⟩ := hob.form (by simp); have hcb : w1.cell? ⟨gb, 0, none⟩ = some (.int .i64 (p : Int)) := (hob.cellAt 0 (by simp)).trans rfl))
    go_quiet (fail)
    go_wp2
    go_ret2
    exact ⟨5, p, rfl, HT.out, hf1.drewN _⟩
  case nil =>
  have HA : Hid (Clear (headT ws ++ badT ws)) := clear_bad HA0.out hbd
  rw [hbd] at HWK
  clear hbd HA0
  obtain ⟨l, hl⟩ : ∃ l, l = objs ws := ⟨_, rfl⟩
  have HL : Hid (l = objs ws) := hl
  clear hl
  have hn0 : ((n : Int) == 0) = false := by simp; omega
  go_enter Tryz.func123, Tryz.ntmps123
  go_wp2_with (first
    | (go_at_call 127; refine calls_same HB.out ?_)
    | (go_at_call 121; refine calls_same HS.out ?_)
    | (go_at_call 126; refine HWK.out.mono ?_; rintro e w1 ⟨vl, vb, rfl, hol, hob, hf1⟩; have hlo := lies_objs hol; rw [← HL.out] at hlo; obtain ⟨ab, cb, rfl⟩ := own_slice hob; clear hob hol))
  have HV : Hid (∀ wr, Fr New w1 wr → LiesO wr vl l) := fun wr hf => hlo.fr hf (fun _ _ h => h)
  obtain ⟨av, cv, rfl, hll, hbo, hcl⟩ := hlo
  have HC : Hid (0 < l.length → ∃ g, av = some ⟨g, 0, none⟩ ∧ ∀ wr, Fr New w1 wr → ∀ i (hi : i < l.length), wr.cell? ⟨g, i * 3, none⟩ = some (.int .i64 (l[i]).block) ∧ wr.cell? ⟨g, i * 3 + 1, none⟩ = some (.int .i64 (l[i]).span) ∧ wr.cell? ⟨g, i * 3 + 2, none⟩ = some (.int .i64 (l[i]).ptrs)) := by
    intro hp
    obtain ⟨g, e, _, hc⟩ := hcl hp
    exact ⟨g, e, fun wr hf i hi => ⟨hf.cell (hc i hi).1 id, hf.cell (hc i hi).2.1 id, hf.cell (hc i hi).2.2 id⟩⟩
  have HBO : Hid (∀ o ∈ l, o.block ≤ 1048576 ∧ o.span ≤ 4 ∧ o.ptrs < 32) := hbo
  have HIN : Hid (Within ws l) := by rw [HL.out]; exact within_objs ws
  clear hcl hbo HB HS HWK c0 c1 c7 c8
  go_loopg [8] 4 (fun gh t wr => ∃ r : Nat, r ≤ 4 ∧ gh = 4 - r ∧ t = .int .i64 r ∧ wr = w1 ∧ Clear ((List.range r).map (rootT ws l)))
  case atStart => exact ⟨0, by omega, rfl, rfl, rfl, clear_nil⟩
  case round =>
    obtain ⟨r, hr4, rfl, rfl, hwr, hclr⟩ := hrel
    obtain rfl := hwr.symm
    clear hwr
    by_cases hr : r < 4
    · have hc : w1.cell? ⟨sb, so + (3 + r), none⟩ = some (.int .u64 (wd ws (3 + r))) := HW.out w1 hf1 (3 + r) (by omega)
      have HF : Hid (Calls Tryz.prog 130 #[.slice av l.length cv, .int .u64 (wd ws (3 + r))] w1 fun e w' => e = .returned (.int .i64 (findI l (wd ws (3 + r)))) ∧ w' = w1) := find_any _ l _ w1 (HV.out w1 (Fr.refl _ _))
      obtain ⟨h, hh⟩ : ∃ h, h = wd ws (3 + r) := ⟨_, rfl⟩
      rw [← hh] at hc HF
      have HH : Hid (h = wd ws (3 + r)) := hh
      clear hh
      by_cases h0 : h = 0
      · have hnx := clear_range hclr (show ¬ (wd ws (3 + r) ≠ 0 ∧ idx l (wd ws (3 + r)) = none) from fun hx => hx.1 (by rw [← HH.out]; exact h0))
        subst h0
        go_wp2
        go_roundg (4 - (r + 1))
        case measure => omega
        case rel => exact ⟨r + 1, by omega, rfl, by go_num, rfl, hnx⟩
      · have hd0 : (h != 0) = true := by simpa using h0
        rcases hx : idx l h with _ | k
        · have HT : Hid (CheckIs ws 6 ((3 + r : Nat) : Int)) := check_root HA.out hr (by rw [← HL.out]; exact hclr) ⟨by rw [← HH.out]; exact h0, by rw [← HH.out, ← HL.out]; exact hx⟩
          rw [findI_none hx] at HF
          clear hx
          go_wp2_with (go_at_call 130; refine calls_same HF.out ?_)
          go_ret2
          exact ⟨6, ((3 + r : Nat) : Int), by go_num, HT.out, hf1⟩
        · have hnx := clear_range hclr (show ¬ (wd ws (3 + r) ≠ 0 ∧ idx l (wd ws (3 + r)) = none) from fun hx' => by rw [← HH.out, hx] at hx'; cases hx'.2)
          rw [findI_some hx] at HF
          clear hx
          go_wp2_with (go_at_call 130; refine calls_same HF.out ?_)
          go_roundg (4 - (r + 1))
          case measure => omega
          case rel => exact ⟨r + 1, by omega, rfl, by go_num, rfl, hnx⟩
    · obtain rfl : r = 4 := by omega
      have HRC : Hid (Clear ((List.range 4).map (rootT ws (objs ws)))) := by rw [← HL.out]; exact hclr
      clear hclr hr hr4
      go_wp2
      go_loopg [9] l.length (fun gh t wr => ∃ i : Nat, i ≤ l.length ∧ gh = l.length - i ∧ t = .int .i64 i ∧ Fr New w1 wr ∧ Clear ((l.take i).flatMap (ptrsT ws l)))
      case atStart => exact ⟨0, by omega, rfl, rfl, Fr.refl _ _, clear_nil⟩
      case round =>
        obtain ⟨i, hil, rfl, rfl, hf2, hclp⟩ := hrel
        by_cases hi : i < l.length
        · obtain ⟨g, rfl, hcells⟩ := HC.out (by omega)
          obtain ⟨hb1, hb2, hb3⟩ := HBO.out l[i] (List.getElem_mem _)
          obtain ⟨hw1', hw2'⟩ := HIN.out l[i] (List.getElem_mem _)
          obtain ⟨o, ho⟩ : ∃ o, o = l[i] := ⟨_, rfl⟩
          have HO : Hid (o = l[i]) := ho
          have HCI : Hid (∀ w3, Fr New w1 w3 → w3.cell? ⟨g, i * 3, none⟩ = some (.int .i64 o.block) ∧ w3.cell? ⟨g, i * 3 + 1, none⟩ = some (.int .i64 o.span) ∧ w3.cell? ⟨g, i * 3 + 2, none⟩ = some (.int .i64 o.ptrs)) := by rw [ho]; exact fun w3 hf => hcells w3 hf i hi
          rw [← ho] at hb1 hb2 hb3 hw1' hw2'
          clear ho hcells
          go_wp2
          go_loopg [10] o.ptrs (fun gh t wr => ∃ p : Nat, p ≤ o.ptrs ∧ gh = o.ptrs - p ∧ t = .int .i64 p ∧ Fr New w1 wr ∧ Clear ((List.range p).map (ptrT ws l o)))
          case atStart => exact ⟨0, by omega, rfl, rfl, hf2, clear_nil⟩
          case round =>
            obtain ⟨p, hpp, rfl, rfl, hf3, hclq⟩ := hrel
            obtain ⟨e0, e1, e2⟩ := HCI.out wr hf3
            by_cases hp : p < o.ptrs
            · have HPL : Hid (Calls Tryz.prog 129 #[.agg #[.int .i64 o.block, .int .i64 o.span, .int .i64 o.ptrs], .int .i64 p] wr fun e w' => e = .returned (.int .i64 (106 + 8 * (o.block : Int) + 1 + p)) ∧ Fr New wr w') := place_any o p wr hb1 (by omega) (by omega)
              obtain ⟨h, hh⟩ : ∃ h, h = wd ws (pl o p) := ⟨_, rfl⟩
              have HCW : Hid (∀ w3, Fr New w1 w3 → w3.cell? ⟨sb, so + (106 + 8 * o.block + 1 + p), none⟩ = some (.int .u64 h)) := by rw [hh]; exact fun w3 hf => HW.out w3 (hf1.same hf) _ (by omega)
              have HFI : Hid (∀ w3, Fr New w1 w3 → Calls Tryz.prog 130 #[.slice (some ⟨g, 0, none⟩) l.length cv, .int .u64 h] w3 fun e w' => e = .returned (.int .i64 (findI l h)) ∧ w' = w3) := fun w3 hf => find_any _ l _ w3 (HV.out w3 hf)
              have HH : Hid (h = wd ws (pl o p)) := hh
              clear hh
              by_cases h0 : h = 0
              · have hnx := clear_range hclq (show ¬ (wd ws (pl o p) ≠ 0 ∧ idx l (wd ws (pl o p)) = none) from fun hx => hx.1 (by rw [← HH.out]; exact h0))
                subst h0
                go_wp2_with (first
                  | (go_at_call 129; refine HPL.out.mono ?_; rintro e w2 ⟨rfl, hf2'⟩; have hf4 := hf3.same hf2'; have hcw := HCW.out w2 hf4)
                  | fail)
                go_roundg (o.ptrs - (p + 1))
                case measure => omega
                case rel => exact ⟨p + 1, by omega, rfl, by go_num, hf4, hnx⟩
              · have hd0 : (h != 0) = true := by simpa using h0
                rcases hx : idx l h with _ | k
                · have HT : Hid (CheckIs ws 7 ((pl o p : Nat) : Int)) := by
                    have := check_ptr HA.out HRC.out (i := i) (by rw [← HL.out]; exact hi) (by rw [← HL.out]; exact hclp) (p := p)
                    simp only [← HL.out, ← HO.out] at this
                    exact this hp hclq ⟨by rw [← HH.out]; exact h0, by rw [← HH.out]; exact hx⟩
                  have HF2 : Hid (∀ w3, Fr New w1 w3 → Calls Tryz.prog 130 #[.slice (some ⟨g, 0, none⟩) l.length cv, .int .u64 h] w3 fun e w' => e = .returned (.int .i64 (-1)) ∧ w' = w3) := by rw [← findI_none hx]; exact HFI.out
                  clear hx HFI
                  go_wp2_with (first
                    | (go_at_call 129; refine HPL.out.mono ?_; rintro e w2 ⟨rfl, hf2'⟩; have hf4 := hf3.same hf2'; have hcw := HCW.out w2 hf4)
                    | (go_at_call 130; refine calls_same (HF2.out w2 hf4) ?_)
                    | fail)
                  go_ret2
                  exact ⟨7, ((pl o p : Nat) : Int), ret_two (by unfold pl; omega), HT.out, hf1.same hf4⟩
                · have hnx := clear_range hclq (show ¬ (wd ws (pl o p) ≠ 0 ∧ idx l (wd ws (pl o p)) = none) from fun hx' => by rw [← HH.out, hx] at hx'; cases hx'.2)
                  have HF2 : Hid (∀ w3, Fr New w1 w3 → Calls Tryz.prog 130 #[.slice (some ⟨g, 0, none⟩) l.length cv, .int .u64 h] w3 fun e w' => e = .returned (.int .i64 k) ∧ w' = w3) := by rw [← findI_some hx]; exact HFI.out
                  clear hx HFI
                  go_wp2_with (first
                    | (go_at_call 129; refine HPL.out.mono ?_; rintro e w2 ⟨rfl, hf2'⟩; have hf4 := hf3.same hf2'; have hcw := HCW.out w2 hf4)
                    | (go_at_call 130; refine calls_same (HF2.out w2 hf4) ?_)
                    | fail)
                  go_roundg (o.ptrs - (p + 1))
                  case measure => omega
                  case rel => exact ⟨p + 1, by omega, rfl, by go_num, hf4, hnx⟩
            · obtain rfl : p = o.ptrs := by omega
              have hnx := clear_ptrs (ws := ws) (l := l) hi hclp (by rw [← HO.out]; exact hclq)
              go_wp2
              go_roundg (l.length - (i + 1))
              case measure => omega
              case rel => exact ⟨i + 1, by omega, rfl, by go_num, hf3, hnx⟩
        · obtain rfl : i = l.length := by omega
          have HPC : Hid (Clear ((objs ws).flatMap (ptrsT ws (objs ws)))) := by rw [List.take_length] at hclp; rw [← HL.out]; exact hclp
          have HRE : Hid (Calls Tryz.prog 149 #[.slice (some ⟨sb, so, none⟩) ws.length cap, .slice av l.length cv] wr fun e w' => ∃ out : List Bool, e = .returned (.slice (some ⟨wr.heap.size, 0, none⟩) l.length l.length) ∧ BRow w' wr.heap.size out ∧ out.length = l.length ∧ (∀ i, out[i]? = some true ↔ Reach ws l i) ∧ Fr New wr w') :=
            reached_any _ cap ws _ l wr hm (by omega) (HR.out wr (hf1.same hf2)) (HV.out wr hf2) HIN.out
          clear hclp
          go_wp2_with (first
            | (go_at_call 149; refine HRE.out.mono ?_; rintro e w5 ⟨out, rfl, hrow, hol, hreach, hf5⟩; have HRC' : Hid (∀ i, out[i]? = some true ↔ Reach ws l i) := hreach; have HOL : Hid (out.length = l.length) := hol; clear hreach hol)
            | fail)
          have hf6 := hf2.same hf5
          clear HRE hf5
          go_loopg [13] l.length (fun gh t w6 => ∃ i : Nat, i ≤ l.length ∧ gh = l.length - i ∧ t = .int .i64 i ∧ w6 = w5 ∧ Clear ((List.range i).map (leakT ws l)))
          case atStart => exact ⟨0, by omega, rfl, rfl, rfl, clear_nil⟩
          case round =>
            obtain ⟨i, hil', rfl, rfl, hwr, hcll⟩ := hrel
            obtain rfl := hwr.symm
            clear hwr
            by_cases hi' : i < l.length
            · have hio : i < out.length := by rw [HOL.out]; exact hi'
              have hci := hrow.cell i hio
              rcases hoi : out[i] with _ | _
              · rw [hoi] at hci
                obtain ⟨g, rfl, hcells⟩ := HC.out (by omega)
                obtain ⟨e0, e1, e2⟩ := hcells w5 hf6 i hi'
                obtain ⟨hb1, hb2, hb3⟩ := HBO.out l[i] (List.getElem_mem _)
                have HT : Hid (CheckIs ws 8 ((106 + 8 * (l[i]).block : Nat) : Int)) := by
                  have := check_leak HA.out HRC.out HPC.out (i := i) (by rw [← HL.out]; exact hi') (by rw [← HL.out]; exact hcll)
                  simp only [← HL.out] at this
                  refine this (fun hx => ?_)
                  have h2 := (HRC'.out i).2 hx
                  rw [List.getElem?_eq_getElem hio, hoi] at h2
                  cases h2
                obtain ⟨o, ho⟩ : ∃ o, o = l[i] := ⟨_, rfl⟩
                rw [← ho] at e0 e1 e2 hb1 hb2 hb3 HT
                have HPL : Hid (Calls Tryz.prog 129 #[.agg #[.int .i64 o.block, .int .i64 o.span, .int .i64 o.ptrs], .int .i64 (-1)] w5 fun e w' => e = .returned (.int .i64 (106 + 8 * (o.block : Int) + 1 + (-1))) ∧ Fr New w5 w') := place_any o (-1) w5 hb1 (by omega) (by omega)
                clear ho hcells hoi hcll
                go_wp2_with (first
                  | (go_at_call 129; refine HPL.out.mono ?_; rintro e w7 ⟨rfl, hf7⟩)
                  | fail)
                go_ret2
                exact ⟨8, ((106 + 8 * o.block : Nat) : Int), ret_two (by omega), HT.out, hf1.same (hf6.same hf7)⟩
              · rw [hoi] at hci
                have hnx := clear_range hcll (show ¬ ¬ Reach ws l i from fun hx => hx ((HRC'.out i).1 (by rw [List.getElem?_eq_getElem hio, hoi])))
                clear hoi
                go_wp2
                go_roundg (l.length - (i + 1))
                case measure => omega
                case rel => exact ⟨i + 1, by omega, rfl, by go_num, rfl, hnx⟩
            · obtain rfl : i = l.length := by omega
              have HT : Hid (CheckIs ws 0 0) := check_ok HA.out HRC.out HPC.out (by rw [← HL.out]; exact hcll)
              go_wp2
              go_ret2
              exact ⟨0, 0, rfl, HT.out, hf1.same hf6⟩
end Go.Proofs.YtbagcjlimdilpaaGreat
/- The walk of the document's 'asks'. -/
namespace Go.Proofs.YtbagcjlimdilpaaGreat
open Go.RowKit

theorem wd_U {ws : List Int} (hU : ∀ z ∈ ws, U z) (i : Nat) : U (wd ws i) := by
  unfold wd
  by_cases hl : i < ws.length
  · rw [List.getD_eq_getElem?_getD, List.getElem?_eq_getElem hl]; exact hU _ (List.getElem_mem _)
  · rw [List.getD_eq_getElem?_getD, List.getElem?_eq_none (by omega)]; exact ⟨by decide, by decide⟩

theorem two_one (x y : Int) : ∀ u ∈ [Value.int .u64 x, Value.int .u64 y], u.oneCell' = true := by
  intro u hu
  simp only [List.mem_cons, List.not_mem_nil, or_false] at hu
  rcases hu with rfl | rfl <;> rfl

set_option maxHeartbeats 1000000 in
set_option maxRecDepth 1000000 in
theorem asks_any (a : Option Addr) (cap : Nat) (ws : List Int) (w : World) (hm : ws.length ≤ 1048576) (h106 : 106 ≤ ws.length) (hU : ∀ z ∈ ws, U z) (hr : RowU w a ws) :
    Calls Tryz.prog 150 #[.slice a ws.length cap] w fun e w' => e = .returned (.tuple #[.int .i64 (asksS ws).1, .bool (asksS ws).2]) ∧ Fr New w w' := by
  obtain ⟨sb, so, rfl, hsb, hcw⟩ := rowU_plain hr (by omega)
  have HW : Hid (∀ wr, Fr New w wr → ∀ i, i < ws.length → wr.cell? ⟨sb, so + i, none⟩ = some (.int .u64 (wd ws i))) := fun wr hf i hi => hf.cell (hcw i hi) id
  have c8 := hcw 8 (by omega)
  have h8U := wd_U hU 8
  obtain ⟨h, hh⟩ : ∃ h, h = wd ws 8 := ⟨_, rfl⟩
  rw [← hh] at c8 h8U
  have HH : Hid (h = wd ws 8) := hh
  obtain ⟨hlo, hhi⟩ := h8U
  have HUU : Hid (∀ z ∈ ws, U z) := hU
  clear hcw hr hh hU
  by_cases h0 : h = 0
  · rw [asks_none (by rw [← HH.out]; exact h0)]
    subst h0
    go_enter Tryz.func150, Tryz.ntmps150
    go_wp2
    go_ret2
    exact ⟨rfl, Fr.refl _ _⟩
  by_cases h48 : 48 < h
  · rw [asks_many (by rw [← HH.out]; exact h0) (by rw [← HH.out]; exact h48)]
    have hd : (h == 0) = false := by simpa using h0
    go_enter Tryz.func150, Tryz.ntmps150
    go_wp2
    go_ret2
    exact ⟨rfl, Fr.refl _ _⟩
  obtain ⟨n, hn⟩ := Int.eq_ofNat_of_zero_le hlo
  have HNN : Hid (h = (n : Int)) := hn
  subst hn
  have hn48 : n ≤ 48 := by omega
  have hd : ((n : Int) == 0) = false := by simpa using h0
  have HNT : Hid ((wd ws 8).toNat = n) := by rw [← HH.out]; exact Int.toNat_natCast n
  have hwL : IntKind.u64.wrap (ws.length : Int) = ws.length := by rw [IntKind.wrap_u64]; omega
  obtain ⟨i0, hi0, hz0, hz1, hz2⟩ := info_parts Tryz.info50
  clear h48 hlo hhi
  go_enter Tryz.func150, Tryz.ntmps150
  go_wp2
  go_loopg [5, 6] n (fun gh v t wr => ∃ i : Nat, i ≤ n ∧ gh = n - i ∧ t = .int .i64 i ∧ Own w.heap.size wr v (logWords ws i) ∧ Fr New w wr ∧ ∀ j, j < i → okAt ws.length (wd ws (10 + 2 * j)) = true)
  case atStart => exact ⟨0, by omega, rfl, rfl, by rw [logWords_zero, ← HH.out]; exact World.ownsRow_lit w #[.int .u64 (n : Int)] 1 (Nat.le_refl _) (by decide) rfl, (Fr.refl _ _).alloc _, fun j hj => by omega⟩
  case round =>
    obtain ⟨i, hin, rfl, rfl, hown, hf, hok⟩ := hrel
    have HOK : Hid (∀ j, j < i → okAt ws.length (wd ws (10 + 2 * j)) = true) := hok
    clear hok
    by_cases hi : i < n
    · have hca := HW.out wr hf (10 + 2 * i) (by omega)
      have hcb := HW.out wr hf (11 + 2 * i) (by omega)
      have haU := wd_U HUU.out (10 + 2 * i)
      obtain ⟨x, hx⟩ : ∃ x, x = wd ws (10 + 2 * i) := ⟨_, rfl⟩
      obtain ⟨y, hy⟩ : ∃ y, y = wd ws (11 + 2 * i) := ⟨_, rfl⟩
      rw [← hx] at hca haU
      rw [← hy] at hcb
      have HXY : Hid (x = wd ws (10 + 2 * i) ∧ y = wd ws (11 + 2 * i)) := ⟨hx, hy⟩
      clear hx hy
      obtain ⟨hx0, hx1⟩ := haU
      have hll := logWords_len ws i
      have HLL : Hid ((logWords ws i).length = 1 + 2 * i) := hll
      clear hll
      rcases hoa : okAt ws.length x with _ | _
      · have HT : Hid (asksS ws = (0, false)) := asks_wrong (by rw [← HH.out]; exact h0) (by rw [← HH.out]; omega) (i := i) (by rw [HNT.out]; exact hi) (by rw [← HXY.out.1]; exact hoa)
        have hwhy : (ws.length : Int) ≤ x ∨ (x < ws.length ∧ 8 ≤ x ∧ x < 106) := by
          by_cases hA : (ws.length : Int) ≤ x
          · exact .inl hA
          · right
            have : ¬ (x < ws.length ∧ (x < 8 ∨ 106 ≤ x)) := fun hh => by rw [okAt_iff.2 hh] at hoa; cases hoa
            omega
        clear hoa
        rcases hwhy with hA | ⟨hA, hB, hC⟩
        · have hdA : decide ((ws.length : Int) ≤ x) = true := by simpa using hA
          go_wp2
          go_ret2
          rw [HT.out]
          exact ⟨rfl, hf⟩
        · have hdA : decide ((ws.length : Int) ≤ x) = false := by simp; omega
          have hdB : decide ((8 : Int) ≤ x) = true := by simpa using hB
          have hdC : decide (x < 106) = true := by simpa using hC
          go_wp2
          go_ret2
          rw [HT.out]
          exact ⟨rfl, hf⟩
      · obtain ⟨hA, hBC⟩ := okAt_iff.1 hoa
        have HOA : Hid (okAt ws.length x = true) := hoa
        clear hoa
        have hdA : decide ((ws.length : Int) ≤ x) = false := by simp; omega
        have hi' := hi0
        rcases hBC with hB | hC
        · have hdB : decide ((8 : Int) ≤ x) = false := by simp; omega
          go_wp2_with (first
            | (at_builtin; refine wpList_append_own _ rfl (.tmp 49) (.tmp 57) 43 rfl w.heap.size 50 i0 (.int .u64 0) 1 8 Tryz.underlying43 hi' hz0 hz1 hz2 rfl (by decide) _ _ _ rfl (hown.alloc _) ⟨wr.heap.size, 0, none⟩ 2 2 [.int .u64 x, .int .u64 y] rfl rfl (World.news_of_block (new_at _ _ _ rfl)) (two_one x y) (by have := HLL.out; unfold maxLen; omega) (by have := HLL.out; omega) (by have := hf.size; simp; omega) ?_; intro v2 w2 ho2 hg2 _)
            | fail)
          have hown2 : Own w.heap.size w2 v2 (logWords ws (i + 1)) := by
            unfold Own
            rw [logWords_succ, ← HXY.out.1, ← HXY.out.2, List.length_append, List.map_append]
            exact ho2
          have hf2 : Fr New w w2 := (hf.alloc _).grown hg2 (fun k hk hv => by have := (hown.lt k hv).1; omega)
          clear ho2 hg2
          go_wp2
          go_roundg (n - (i + 1))
          case measure => omega
          case rel => exact ⟨i + 1, by omega, rfl, by go_num, hown2, hf2, fun j hj => by
            rcases Nat.lt_or_ge j i with hlt | hge
            · exact HOK.out j hlt
            · obtain rfl : j = i := by omega
              rw [← HXY.out.1]; exact HOA.out⟩
        · have hdB : decide ((8 : Int) ≤ x) = true := by simp; omega
          have hdC : decide (x < 106) = false := by simp; omega
          go_wp2_with (first
            | (at_builtin; refine wpList_append_own _ rfl (.tmp 49) (.tmp 57) 43 rfl w.heap.size 50 i0 (.int .u64 0) 1 8 Tryz.underlying43 hi' hz0 hz1 hz2 rfl (by decide) _ _ _ rfl (hown.alloc _) ⟨wr.heap.size, 0, none⟩ 2 2 [.int .u64 x, .int .u64 y] rfl rfl (World.news_of_block (new_at _ _ _ rfl)) (two_one x y) (by have := HLL.out; unfold maxLen; omega) (by have := HLL.out; omega) (by have := hf.size; simp; omega) ?_; intro v2 w2 ho2 hg2 _)
            | fail)
          have hown2 : Own w.heap.size w2 v2 (logWords ws (i + 1)) := by
            unfold Own
            rw [logWords_succ, ← HXY.out.1, ← HXY.out.2, List.length_append, List.map_append]
            exact ho2
          have hf2 : Fr New w w2 := (hf.alloc _).grown hg2 (fun k hk hv => by have := (hown.lt k hv).1; omega)
          clear ho2 hg2
          go_wp2
          go_roundg (n - (i + 1))
          case measure => omega
          case rel => exact ⟨i + 1, by omega, rfl, by go_num, hown2, hf2, fun j hj => by
            rcases Nat.lt_or_ge j i with hlt | hge
            · exact HOK.out j hlt
            · obtain rfl : j = i := by omega
              rw [← HXY.out.1]; exact HOA.out⟩
    · obtain rfl : i = n := by omega
      have HT : Hid (asksS ws = (i, sumL (logWords ws i) == wd ws 9)) := by
        have := asks_right (ws := ws) (by rw [← HH.out]; exact h0) (by rw [← HH.out]; omega) (by rw [HNT.out]; exact HOK.out)
        rw [HNT.out] at this
        exact this
      have hc9 := HW.out wr hf 9 (by omega)
      obtain ⟨av, cv, rfl, hmx, hrow, _⟩ := own_row hown
      have HS : Hid (Calls Tryz.prog 121 #[.slice av (logWords ws i).length cv] wr fun e w' => e = .returned (.int .u64 (sumL (logWords ws i))) ∧ w' = wr) := rsum_any av _ cv (logWords ws i) wr rfl hmx hrow
      obtain ⟨sm, hsm⟩ : ∃ sm, sm = sumL (logWords ws i) := ⟨_, rfl⟩
      obtain ⟨x9, hx9⟩ : ∃ x, x = wd ws 9 := ⟨_, rfl⟩
      rw [← hsm] at HS HT
      rw [← hx9] at hc9 HT
      clear hsm hx9 hown hrow hmx
      go_wp2_with (go_at_call 121; refine calls_same HS.out ?_)
      go_quiet (fail)
      go_wp2
      go_ret2
      rw [HT.out]
      exact ⟨rfl, hf.drewN _⟩
end Go.Proofs.YtbagcjlimdilpaaGreat
/- What the document's Repair keeps in memory while it works, apart from its walk. -/
namespace Go.Proofs.YtbagcjlimdilpaaGreat
open Go.RowKit

/-- the words that are worked on, in a row of their own -/
structure Mem2 (w : World) (g c L : Nat) (cur : List Int) (wr : World) : Prop where
  own : wr.ownsRow w.heap.size 50 1 (.slice (some ⟨g, 0, none⟩) L c) L (cur.map (Value.int .u64))
  len : cur.length = L
  fr : Fr New w wr
theorem Mem2.base {w : World} {g c L : Nat} {cur : List Int} {wr : World} (h : Mem2 w g c L cur wr) : w.heap.size ≤ g := (own_block h.own rfl).1
theorem Mem2.cell {w : World} {g c L : Nat} {cur : List Int} {wr : World} (h : Mem2 w g c L cur wr) (k : Nat) (hk : k < L) : wr.cell? ⟨g, k, none⟩ = some (.int .u64 (wd cur k)) := by
  have hk' : k < cur.length := by rw [h.len]; exact hk
  rw [h.own.cellAt k (by omega)]
  unfold wd
  simp [hk', List.getD]
theorem Mem2.free {w : World} {g c L : Nat} {cur : List Int} {wr : World} (h : Mem2 w g c L cur wr) (k : Nat) : wr.frozen? ⟨g, k, none⟩ = false := h.own.frozenAt k
theorem Mem2.put {w : World} {g c L : Nat} {cur : List Int} {wr : World} (h : Mem2 w g c L cur wr) (k : Nat) (y : Int) : Mem2 w g c L (cur.set k y) (wr.setCell ⟨g, k, none⟩ (.int .u64 y)) :=
  ⟨by rw [List.map_set]; exact (h.own.stored k (.int .u64 y)).1, by simpa using h.len, h.fr.setCell (fun hlt => absurd hlt (by have := h.base; simp; omega)) _⟩
theorem Mem2.grow {w : World} {g c L : Nat} {cur : List Int} {wr w' : World} (h : Mem2 w g c L cur wr) (hf : Fr New wr w') : Mem2 w g c L cur w' := ⟨hf.owns h.own (fun _ _ h => h), h.len, h.fr.same hf⟩
theorem Mem2.rowU {w : World} {g c L : Nat} {cur : List Int} {wr : World} (h : Mem2 w g c L cur wr) : RowU wr (some ⟨g, 0, none⟩) cur := rowU_own h.own
theorem Mem2.cap {w : World} {g c L : Nat} {cur : List Int} {wr : World} (h : Mem2 w g c L cur wr) : L ≤ c := by
  rcases h.own.2 with ⟨h', _⟩ | ⟨g', cap', cur', h', _, _, hc, _⟩
  · cases h'
  · simp only [Value.slice.injEq, Option.some.injEq, Addr.mk.injEq, and_true, true_and] at h'
    omega
/-- a row of another kind stays where a word is put -/
theorem own_put {w wr : World} {g c L : Nat} {cur : List Int} (h : Mem2 w g c L cur wr) (k : Nat) (y : Value) {B : Nat} {e : TypeId} {sz : Nat} {v : Value} {n : Nat} {xs : List Value} (ho : wr.ownsRow B e sz v n xs) (he : e ≠ 50) : (wr.setCell ⟨g, k, none⟩ y).ownsRow B e sz v n xs := by
  have hf : Fr (fun k => k = g) wr (wr.setCell ⟨g, k, none⟩ y) := (Fr.refl (fun k => k = g) wr).setCell (p := ⟨g, k, none⟩) (fun _ => rfl) _
  refine hf.owns ho (fun g' hg' hh => ?_)
  obtain ⟨_, c1, h1⟩ := own_block ho hg'
  obtain ⟨_, c2, h2⟩ := own_block h.own rfl
  exact type_ne h1 h2 he hh
theorem row_put {w wr : World} {g c L : Nat} {cur : List Int} (h : Mem2 w g c L cur wr) (k : Nat) (y : Value) {gb : Nat} {out : List Bool} (ho : BRow wr gb out) : BRow (wr.setCell ⟨g, k, none⟩ y) gb out := by
  have hf : Fr (fun k => k = g) wr (wr.setCell ⟨g, k, none⟩ y) := (Fr.refl (fun k => k = g) wr).setCell (p := ⟨g, k, none⟩) (fun _ => rfl) _
  refine hf.heap ho (fun hh => ?_)
  obtain ⟨_, c2, h2⟩ := own_block h.own rfl
  exact type_ne ho h2 (by decide) hh

/-- the words, the objects and the marks -/
structure Hold (w : World) (g c L : Nat) (cur : List Int) (vl : Value) (l : List Ob) (gb : Nat) (out : List Bool) (wr : World) : Prop where
  mem : Mem2 w g c L cur wr
  obs : OwnO 0 wr vl l
  marks : BRow wr gb out
theorem Hold.put {w : World} {g c L : Nat} {cur : List Int} {vl : Value} {l : List Ob} {gb : Nat} {out : List Bool} {wr : World} (h : Hold w g c L cur vl l gb out wr) (k : Nat) (y : Int) : Hold w g c L (cur.set k y) vl l gb out (wr.setCell ⟨g, k, none⟩ (.int .u64 y)) :=
  ⟨h.mem.put k y, own_put h.mem k _ h.obs (by decide), row_put h.mem k _ h.marks⟩
theorem Hold.grow {w : World} {g c L : Nat} {cur : List Int} {vl : Value} {l : List Ob} {gb : Nat} {out : List Bool} {wr w' : World} (h : Hold w g c L cur vl l gb out wr) (hf : Fr New wr w') : Hold w g c L cur vl l gb out w' :=
  ⟨h.mem.grow hf, hf.owns h.obs (fun _ _ h => h), hf.heap h.marks id⟩

theorem Hold.objAt {w : World} {g c L : Nat} {cur : List Int} {av : Option Addr} {cv : Nat} {l : List Ob} {gb : Nat} {out : List Bool} {wr : World} (h : Hold w g c L cur (.slice av l.length cv) l gb out wr) (i : Nat) (hi : i < l.length) :
    ∃ gl, av = some ⟨gl, 0, none⟩ ∧ wr.cell? ⟨gl, i * 3, none⟩ = some (.int .i64 (l[i]).block) ∧ wr.cell? ⟨gl, i * 3 + 1, none⟩ = some (.int .i64 (l[i]).span) ∧ wr.cell? ⟨gl, i * 3 + 2, none⟩ = some (.int .i64 (l[i]).ptrs) := by
  obtain ⟨gl, c', hv, _, _⟩ := h.obs.form (by omega)
  simp only [Value.slice.injEq] at hv
  have key : ∀ j, j < 3 → wr.cell? ⟨gl, i * 3 + j, none⟩ = (obCells l[i])[j]? := fun j hj => by
    have hv' := hv.1
    subst hv'
    have := h.obs.cellAt (i * 3 + j) (by omega)
    exact this.trans (obsCells_get l i j hi hj)
  exact ⟨gl, hv.1, key 0 (by omega), key 1 (by omega), key 2 (by omega)⟩

theorem own_zero {w : World} {B : Nat} {e : TypeId} {sz : Nat} {v : Value} {n : Nat} {xs : List Value} (h : w.ownsRow B e sz v n xs) : w.ownsRow 0 e sz v n xs := by
  refine ⟨h.1, ?_⟩
  rcases h.2 with h | ⟨g, cap, cur, rfl, _, r⟩
  · exact .inl h
  · exact .inr ⟨g, cap, cur, rfl, Nat.zero_le _, r⟩
theorem emptyU (w : World) : (w.alloc (.cells #[] 50)).ownsRow w.heap.size 50 1 (.slice (some ⟨w.heap.size, 0, none⟩) 0 0) 0 [] := World.ownsRow_made w #[] 0 (Nat.le_refl _) (by decide) (by simp)

theorem copy_news {w : World} {x : Addr} {ws : List Int} (h : RowU w (some x) ws) (o : Obj) : ∀ j u, (ws.map (Value.int .u64))[j]? = some u → (w.alloc o).cell? (x.add j) = some u := by
  intro j u hu
  have hp : 0 < (ws.map (Value.int .u64)).length := by
    rcases Nat.lt_or_ge j (ws.map (Value.int .u64)).length with h | h
    · omega
    · rw [List.getElem?_eq_none h] at hu; cases hu
  obtain ⟨ad, had, hn⟩ := news_row (rowU_fr ((Fr.refl New w).alloc o) h (fun _ _ h => h)) hp
  cases had
  exact hn j u hu
theorem copy_mem {w w1 : World} {g c : Nat} {ws : List Int} (h : w1.ownsRow w.heap.size 50 1 (.slice (some ⟨g, 0, none⟩) (0 + ws.length) c) (0 + ws.length) ([] ++ ws.map (Value.int .u64)))
    (hg : (w.alloc (.cells #[] 50)).grownBy w1 (Value.slice (some ⟨w.heap.size, 0, none⟩) 0 0).ownBlock) : Mem2 w g c ws.length ws w1 :=
  ⟨by simpa using h, rfl, ((Fr.refl New w).alloc _).grown hg (fun k hk hv => by simp [Value.ownBlock] at hv; omega)⟩

theorem walk_mem {w : World} {g c L : Nat} {cur : List Int} {W : World} (M : Mem2 w g c L cur W) (hn : nblk L ≠ 0) :
    Calls Tryz.prog 126 #[.slice (some ⟨g, 0, none⟩) L c] W fun e w' => ∃ vl vb, e = .returned (.tuple #[vl, vb]) ∧ OwnO 0 w' vl (objs cur) ∧ OwnN 0 w' vb (bads cur) ∧ Fr New W w' := by
  have hl := M.len
  subst hl
  refine (walk_any _ c cur W hn M.rowU).mono ?_
  rintro e w' ⟨vl, vb, rfl, h1, h2, h3⟩
  exact ⟨vl, vb, rfl, own_zero h1, own_zero h2, h3⟩
theorem reached_mem {w : World} {g c L : Nat} {cur : List Int} {W : World} (M : Mem2 w g c L cur W) (hm : L ≤ 1048576) (h7 : 7 ≤ L) {vl : Value} (ho : OwnO 0 W vl (objs cur)) :
    Calls Tryz.prog 149 #[.slice (some ⟨g, 0, none⟩) L c, vl] W fun e w' => ∃ out : List Bool, e = .returned (.slice (some ⟨W.heap.size, 0, none⟩) (objs cur).length (objs cur).length) ∧ BRow w' W.heap.size out ∧ out.length = (objs cur).length ∧ (∀ i, out[i]? = some true ↔ Reach cur (objs cur) i) ∧ Fr New W w' := by
  have hl := M.len
  subst hl
  exact reached_any _ c cur vl (objs cur) W hm h7 M.rowU (lies_objs ho) (within_objs cur)
theorem seal_mem {w : World} {g c L : Nat} {cur : List Int} {W : World} (M : Mem2 w g c L cur W) (h8 : 8 ≤ L) (hm : L ≤ 1048576) :
    Calls Tryz.prog 131 #[.slice (some ⟨g, 0, none⟩) L c] W fun e w' => e = .returned (.tuple #[]) ∧ w' = W.setCell ⟨g, 7, none⟩ (.int .u64 (sumL (cur.take 7))) := by
  have hcap := M.cap
  have HS : Hid (Calls Tryz.prog 121 #[.slice (some ⟨g, 0, none⟩) 7 c] W fun e w' => e = .returned (.int .u64 (sumL (cur.take 7))) ∧ w' = W) :=
    rsum_any _ 7 _ (cur.take 7) W (by have := M.len; simp; omega) (by decide) (rowU_take M.rowU 7)
  have hfz := M.free 7
  have hcl := M.cell 7 (by omega)
  go_enter Tryz.func131, Tryz.ntmps131
  go_wp2_with (go_at_call 121; refine calls_same HS.out ?_)
  go_end0
  exact ⟨rfl, rfl⟩

/-- what is put where a record asks for it -/
theorem done_set (ws : List Int) (i : Nat) : (doneS ws i).set (wd ws (10 + 2 * i)).toNat (wd ws (11 + 2 * i)) = doneS ws (i + 1) := rfl
theorem doneS_U {ws : List Int} (hU : ∀ z ∈ ws, U z) (k : Nat) : ∀ z ∈ doneS ws k, U z := by
  induction k with
  | zero => exact hU
  | succ k ih =>
    intro z hz
    rcases List.mem_or_eq_of_mem_set hz with h | rfl
    · exact ih z h
    · exact wd_U hU _
end Go.Proofs.YtbagcjlimdilpaaGreat
