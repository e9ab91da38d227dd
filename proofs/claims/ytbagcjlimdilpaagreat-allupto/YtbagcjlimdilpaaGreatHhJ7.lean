/- Texts that follow one another, joined. -/
import Derived.Test.YtbagcjlimdilpaaGreatHhPgF
import Derived.Test.YtbagcjlimdilpaaGreatHhJ4
/- The walk of the program's survey: all objects, and the wrong headers. -/
namespace Go.Proofs.YtbagcjlimdilpaaGreat
open Go.RowKit

theorem thsCells_get (l : List Ob) (i j : Nat) (hi : i < l.length) (hj : j < 4) : (thsCells l)[i * 4 + j]? = (thCells l[i])[j]? := by
  induction l generalizing i with
  | nil => simp at hi
  | cons e r ih =>
    simp only [thsCells, List.flatMap_cons]
    cases i with
    | zero => rw [List.getElem?_append_left (by simp [thCells]; omega)]; simp
    | succ i =>
      rw [List.getElem?_append_right (by simp [thCells]; omega)]
      have := ih i (by simpa using hi)
      rw [show (i + 1) * 4 + j - (thCells e).length = i * 4 + j by simp [thCells]; omega]
      exact this
theorem liesT_own {w : World} {B : Nat} {v : Value} {l : List Ob} (h : OwnT B w v l) (hl : l.length ≤ 1048576) (hb : ∀ o ∈ l, o.block ≤ 1048576 ∧ o.span ≤ 4 ∧ o.ptrs < 32) : LiesT w v l := by
  obtain ⟨a, c, rfl⟩ := own_slice h
  refine ⟨a, c, rfl, hl, hb, fun hp => ?_⟩
  obtain ⟨g, c', hv, _, hg⟩ := h.form hp
  cases hv
  have key : ∀ i (hi : i < l.length) j, j < 4 → w.cell? ⟨g, i * 4 + j, none⟩ = (thCells l[i])[j]? := fun i hi j hj => (h.cellAt (i * 4 + j) (by omega)).trans (thsCells_get l i j hi hj)
  exact ⟨g, rfl, hg, fun i hi => ⟨key i hi 0 (by omega), key i hi 1 (by omega), key i hi 2 (by omega), key i hi 3 (by omega)⟩⟩
theorem liesT_objs {w : World} {B : Nat} {v : Value} {ws : List Int} (h : OwnT B w v (objs ws)) : LiesT w v (objs ws) :=
  liesT_own h (by have := objs_len ws; omega) (fun o ho => by have := objs_in ho; have := nblk_le ws.length; exact ⟨by omega, by omega, by omega⟩)
theorem bdsCells_get (l : List Nat) (i j : Nat) (hi : i < l.length) (hj : j < 4) : (bdsCells l)[i * 4 + j]? = (bdCells l[i])[j]? := by
  induction l generalizing i with
  | nil => simp at hi
  | cons e r ih =>
    simp only [bdsCells, List.flatMap_cons]
    cases i with
    | zero => rw [List.getElem?_append_left (by simp [bdCells]; omega)]; simp
    | succ i =>
      rw [List.getElem?_append_right (by simp [bdCells]; omega)]
      have := ih i (by simpa using hi)
      rw [show (i + 1) * 4 + j - (bdCells e).length = i * 4 + j by simp [bdCells]; omega]
      exact this
/-- the wrong headers' things, as they lie -/
def LiesB (w : World) (v : Value) (l : List Nat) : Prop := ∃ a cap, v = .slice a l.length cap ∧
  (0 < l.length → ∃ g, a = some ⟨g, 0, none⟩ ∧ ∀ i (hi : i < l.length), w.cell? ⟨g, i * 4, none⟩ = some (.int .i64 2) ∧ w.cell? ⟨g, i * 4 + 1, none⟩ = some (.int .i64 (((l[i] - 106) / 8 + 1 : Nat) : Int)) ∧ w.cell? ⟨g, i * 4 + 2, none⟩ = some (.int .i64 1) ∧ w.cell? ⟨g, i * 4 + 3, none⟩ = some (.int .i64 0))
theorem liesB_own {w : World} {B : Nat} {v : Value} {l : List Nat} (h : OwnB B w v l) : LiesB w v l := by
  obtain ⟨a, c, rfl⟩ := own_slice h
  refine ⟨a, c, rfl, fun hp => ?_⟩
  obtain ⟨g, c', hv, _, hg⟩ := h.form hp
  cases hv
  have key : ∀ i (hi : i < l.length) j, j < 4 → w.cell? ⟨g, i * 4 + j, none⟩ = (bdCells l[i])[j]? := fun i hi j hj => (h.cellAt (i * 4 + j) (by omega)).trans (bdsCells_get l i j hi hj)
  exact ⟨g, rfl, fun i hi => ⟨key i hi 0 (by omega), key i hi 1 (by omega), key i hi 2 (by omega), key i hi 3 (by omega)⟩⟩

theorem Surv.fin {w0 : World} {H : Nat} {os : List Ob} {bs : List Nat} {vl vb : Value} {w1 : World} (h : Surv w0 H os bs vl vb w1) :
    OwnT w0.heap.size ((w1.setCell ⟨w0.heap.size, 0, none⟩ vl).setCell ⟨w0.heap.size + 1, 0, none⟩ vb).drew vl os ∧ OwnB w0.heap.size ((w1.setCell ⟨w0.heap.size, 0, none⟩ vl).setCell ⟨w0.heap.size + 1, 0, none⟩ vb).drew vb bs ∧
      Fr New w0 ((w1.setCell ⟨w0.heap.size, 0, none⟩ vl).setCell ⟨w0.heap.size + 1, 0, none⟩ vb).drew ∧
      ((w1.setCell ⟨w0.heap.size, 0, none⟩ vl).setCell ⟨w0.heap.size + 1, 0, none⟩ vb).cell? ⟨w0.heap.size, 0, none⟩ = some vl ∧ ((w1.setCell ⟨w0.heap.size, 0, none⟩ vl).setCell ⟨w0.heap.size + 1, 0, none⟩ vb).cell? ⟨w0.heap.size + 1, 0, none⟩ = some vb := by
  have hF : Fr (fun k => k = w0.heap.size ∨ k = w0.heap.size + 1) w1 ((w1.setCell ⟨w0.heap.size, 0, none⟩ vl).setCell ⟨w0.heap.size + 1, 0, none⟩ vb).drew :=
    (((Fr.refl (fun k => k = w0.heap.size ∨ k = w0.heap.size + 1) w1).setCell (p := ⟨w0.heap.size, 0, none⟩) (fun _ => .inl rfl) vl).setCell (p := ⟨w0.heap.size + 1, 0, none⟩) (fun _ => .inr rfl) vb).drew
  have hne : ∀ {B : Nat} {v : Value} {n : Nat} {ys : List Value}, w1.ownsRow B 115 4 v n ys → ∀ g, v.ownBlock = some g → ¬ (g = w0.heap.size ∨ g = w0.heap.size + 1) := fun hw g hg he => by
    obtain ⟨_, c, hc⟩ := own_block hw hg
    rcases he with he | he
    · exact type_ne hc h.cl (by decide) he
    · exact type_ne hc h.cb (by decide) he
  have c1 : (w1.setCell ⟨w0.heap.size, 0, none⟩ vl).heap[w0.heap.size]? = some (.cells #[vl] 111 (0, 0)) := (heap_setCell_same w1 _ 0 _ _ _ h.cl).trans (by simp)
  have c2 : ((w1.setCell ⟨w0.heap.size, 0, none⟩ vl).setCell ⟨w0.heap.size + 1, 0, none⟩ vb).heap[w0.heap.size]? = some (.cells #[vl] 111 (0, 0)) := (Go.Deep.blk_setCell_other _ _ _ _ (by simp)).trans c1
  have c3 : (w1.setCell ⟨w0.heap.size, 0, none⟩ vl).heap[w0.heap.size + 1]? = some (.cells #[vb] 110 (0, 0)) := (Go.Deep.blk_setCell_other _ _ _ _ (by simp)).trans h.cb
  have c4 : ((w1.setCell ⟨w0.heap.size, 0, none⟩ vl).setCell ⟨w0.heap.size + 1, 0, none⟩ vb).heap[w0.heap.size + 1]? = some (.cells #[vb] 110 (0, 0)) := (heap_setCell_same _ _ 0 _ _ _ c3).trans (by simp)
  exact ⟨hF.owns h.l (hne h.l), hF.owns h.b (hne h.b), h.fr.trans hF (fun j hj he => by omega), ((block_cells c2).1 0).trans rfl, ((block_cells c4).1 0).trans rfl⟩

set_option maxHeartbeats 1000000 in
set_option maxRecDepth 100000 in
theorem survey_row (t : Nat) (x : Value) (fL fR : Nat) (y : Value) (n : Nat) (ws : List Int) (w : World) (hn : nblk ws.length = n) (hn0 : n ≠ 0) (hrow : RowAt w t x fL fR y ws) :
    Calls Tryz.prog 99 #[.iface t x] w fun e w' => ∃ vl vb, e = .returned (.tuple #[vl, vb]) ∧ OwnT w.heap.size w' vl (objs ws) ∧ OwnB w.heap.size w' vb (bads ws) ∧ Fr New w w' := by
  obtain ⟨hlen, hn1, hn2⟩ := nblk_some (len := ws.length) (by omega)
  rw [hn] at hlen hn1 hn2
  have HWK : Hid (∀ W, Walk2 w ws n 0 [] [] W → Calls Tryz.prog 115 #[Value.iface t x, .func (.func 140) #[] #[.pointer (some ⟨w.heap.size, 0, none⟩), .pointer (some ⟨w.heap.size + 1, 0, none⟩)]] W fun e w' => e = .returned (.tuple #[]) ∧ ∃ vl vb, Surv w w'.heap.size (objs ws) (bads ws) vl vb w') := fun W hW => by
    unfold objs bads
    rw [hn]
    exact walk2_any w t x fL fR y ws.length n ws W rfl hlen hn2 hrow hW
  have HS0 : Hid (Walk2 w ws n 0 [] [] ((w.alloc (.cells #[.slice none 0 0] 111)).alloc (.cells #[.slice none 0 0] 110))) :=
    ⟨⟨.slice none 0 0, .slice none 0 0, ⟨(Go.Deep.blk_alloc_lt _ _ _ (by simp)).trans (Go.Deep.blk_alloc_new w _), new_at2 w _ _, World.ownsRow_nil _ _ _ _, World.ownsRow_nil _ _ _ _, (fun g h => by cases h), (fun g h => by cases h), (fun g h => by cases h), by simp, ((Fr.refl _ _).alloc _).alloc _⟩⟩, by simp, by simp, by simp⟩
  have hmf : ∀ (fn : Fn) (first cap : Array Value) (w : World), (Instr.makeFunc fn first cap).run Tryz.prog w = .ok (.func fn first cap) w := fun _ _ _ _ => rfl
  have hL := hn1
  clear hlen hn hn0 hrow hL
  go_enter Tryz.func99, Tryz.ntmps99
  go_upto_region 2 with (go_at_call 115; refine (HWK.out _ HS0.out).mono ?_; rintro e w1 ⟨rfl, vl, vb, hS⟩; obtain ⟨hcl, hzl⟩ := block_cells hS.cl; obtain ⟨hcb, hzb⟩ := block_cells hS.cb; obtain ⟨al, cl, rfl⟩ := own_slice hS.l; obtain ⟨ab, cb, rfl⟩ := own_slice hS.b)
  have hl0 : w1.cell? ⟨w.heap.size, 0, none⟩ = some (.slice al (objs ws).length cl) := (hcl 0).trans rfl
  have hb0 : w1.cell? ⟨w.heap.size + 1, 0, none⟩ = some (.slice ab (bads ws).length cb) := (hcb 0).trans rfl
  clear hcl hcb
  go_region
  all_goals (try go_wp2)
  all_goals
    obtain ⟨f1, f2, f3, f4, f5⟩ := hS.fin
    exact bodyPost_ret (v := .tuple #[.slice al (objs ws).length cl, .slice ab (bads ws).length cb]) (by simp [results, Tryz.results99, go_sem, f4, f5]) rfl ⟨_, _, rfl, f1, f2, f3⟩
theorem survey_any (sb so c n : Nat) (ws : List Int) (w : World) (hn : nblk ws.length = n) (hn0 : n ≠ 0) (hcw : ∀ i, i < ws.length → w.cell? ⟨sb, so + i, none⟩ = some (.int .u64 (wd ws i))) :
    Calls Tryz.prog 99 #[rowV (some ⟨sb, so, none⟩) ws.length c] w fun e w' => ∃ vl vb, e = .returned (.tuple #[vl, vb]) ∧ OwnT w.heap.size w' vl (objs ws) ∧ OwnB w.heap.size w' vb (bads ws) ∧ Fr New w w' :=
  survey_row _ _ _ _ _ n ws w hn hn0 (kept_row rfl hcw)
end Go.Proofs.YtbagcjlimdilpaaGreat
/- Walks of the program's log: summed, Asked, Redo. -/
namespace Go.Proofs.YtbagcjlimdilpaaGreat
open Go.RowKit

theorem logWords_flat (ws : List Int) (n : Nat) : logWords ws n = wd ws 8 :: (List.range (2 * n)).map (fun j => wd ws (10 + j)) := by
  induction n with
  | zero => rfl
  | succ n ih =>
    rw [logWords_succ, ih, show 2 * (n + 1) = 2 * n + 1 + 1 by omega, List.range_succ, List.range_succ]
    simp [show 10 + (2 * n + 1) = 11 + 2 * n by omega]
theorem beq_swap (a b : Int) : (a == b) = (b == a) := by
  by_cases h : a = b
  · subst h; rfl
  · rw [beq_eq_false_iff_ne.2 h, beq_eq_false_iff_ne.2 (Ne.symm h)]
/-- the log's words, up to the i-th behind its head -/
def logL (ws : List Int) (i : Nat) : List Int := wd ws 8 :: (List.range i).map (fun j => wd ws (10 + j))
theorem logL_succ (ws : List Int) (i : Nat) : logL ws (i + 1) = logL ws i ++ [wd ws (10 + i)] := by simp [logL, List.range_succ]
theorem logL_len (ws : List Int) (i : Nat) : (logL ws i).length = 1 + i := by simp [logL]; omega

set_option maxHeartbeats 1000000 in
set_option maxRecDepth 100000 in
theorem summed_row (rt : Nat) (rx : Value) (fL fR : Nat) (ry : Value) (n : Nat) (ws : List Int) (w : World) (hL : 114 ≤ ws.length) (hn : n ≤ 48) (hrow : RowAt w rt rx fL fR ry ws) :
    Calls Tryz.prog 136 #[.iface rt rx, .int .i64 n] w fun e w' => e = .returned (.bool (sumL (logWords ws n) == wd ws 9)) ∧ Fr New w w' := by
  have HRD : Hid (∀ wr, Fr New w wr → ∀ i, i < ws.length → Calls Tryz.prog fR #[ry, .int .i64 (i : Nat)] wr fun e w'' => e = .returned (.int .u64 (wd ws i)) ∧ w'' = wr) := hrow.read
  have HM : Hid (∀ w', Fr New w w' → (method 356 rt rx "Read").run Tryz.prog w' = .ok (fR, ry) w') := hrow.mread
  have hmr0 := HM.out w (Fr.refl _ _)
  have hcf := hrow.cread
  obtain ⟨i0, hi0, hz0, hz1, hz2⟩ := info_parts Tryz.info50
  have HE : Hid (logWords ws n = logL ws (2 * n)) := logWords_flat ws n
  rw [HE.out]
  have HS0 : Hid (∀ x, x = wd ws 8 → Own w.heap.size (w.alloc (.cells #[.int .u64 x] 50)) (.slice (some ⟨w.heap.size, 0, none⟩) 1 1) (logL ws 0)) := fun x hx => by
    have : logL ws 0 = [x] := by simp [logL, hx]
    rw [this]
    exact World.ownsRow_lit w #[.int .u64 x] 1 (Nat.le_refl _) (by decide) rfl
  have R8 := HRD.out w (Fr.refl _ _) 8 (by omega)
  have HR8 : Hid (Calls Tryz.prog fR #[ry, .int .i64 ((8 : Nat) : Int)] w fun e w'' => e = .returned (.int .u64 (wd ws 8)) ∧ w'' = w) := R8
  obtain ⟨x8, hx8⟩ : ∃ x, x = wd ws 8 := ⟨_, rfl⟩
  rw [← hx8] at HR8
  have hS0 := HS0.out x8 hx8
  clear hrow R8 hx8 HS0
  go_enter Tryz.func136, Tryz.ntmps136
  go_wp2_with (refine calls_same HR8.out ?_)
  go_loopg [5, 12] (2 * n) (fun gh v t wr => ∃ i : Nat, i ≤ 2 * n ∧ gh = 2 * n - i ∧ t = .int .i64 i ∧ Own w.heap.size wr v (logL ws i) ∧ Fr New w wr)
  case atStart => exact ⟨0, by omega, rfl, rfl, hS0, (Fr.refl _ _).alloc _⟩
  case round =>
    clear hS0
    obtain ⟨i, hi2, rfl, rfl, hown, hf⟩ := hrel
    have hll := logL_len ws i
    have HLL : Hid ((logL ws i).length = 1 + i) := hll
    clear hll
    have hmr := HM.out wr hf
    by_cases hi : i < 2 * n
    · have HR : Hid (Calls Tryz.prog fR #[ry, .int .i64 ((10 + i : Nat) : Int)] wr fun e w'' => e = .returned (.int .u64 (wd ws (10 + i))) ∧ w'' = wr) := HRD.out wr hf (10 + i) (by omega)
      have hsc := logL_succ ws i
      obtain ⟨x, hx⟩ : ∃ x, x = wd ws (10 + i) := ⟨_, rfl⟩
      rw [← hx] at HR hsc
      have HSC : Hid (logL ws (i + 1) = logL ws i ++ [x]) := hsc
      clear hx hsc
      go_wp2_with (first
        | (refine calls_same HR.out ?_)
        | (at_builtin; refine wpList_append_own _ rfl (.tmp 15) (.tmp 20) 43 rfl w.heap.size 50 i0 (.int .u64 0) 1 8 Tryz.underlying43 hi0 hz0 hz1 hz2 rfl (by decide) _ _ _ rfl (hown.alloc _) ⟨wr.heap.size, 0, none⟩ 1 1 [.int .u64 x] rfl rfl (World.news_of_block (Go.Deep.blk_alloc_new wr _)) (by intro u hu; simp at hu; subst hu; rfl) (by have := HLL.out; unfold maxLen; omega) (by have := HLL.out; omega) (by have := hf.size; simp; omega) ?_; intro v2 w2 ho2 hg2 _)
        | fail)
      have hown2 : Own w.heap.size w2 v2 (logL ws (i + 1)) := by
        unfold Own
        rw [HSC.out, List.length_append, List.map_append]
        exact ho2
      have hf2 : Fr New w w2 := (hf.alloc _).grown hg2 (fun k hk hv => by have := (hown.lt k hv).1; omega)
      clear ho2 hg2
      go_roundg (2 * n - (i + 1))
      case measure => omega
      case rel => exact ⟨i + 1, by omega, rfl, by go_num, hown2, hf2⟩
    · obtain rfl : i = 2 * n := by omega
      have HR : Hid (Calls Tryz.prog fR #[ry, .int .i64 ((9 : Nat) : Int)] wr fun e w'' => e = .returned (.int .u64 (wd ws 9)) ∧ w'' = wr) := HRD.out wr hf 9 (by omega)
      obtain ⟨av, cv, rfl, hmx, hrw, _⟩ := own_row hown
      have HSM : Hid (Calls Tryz.prog 63 #[.slice av (logL ws (2 * n)).length cv] wr fun e w' => e = .returned (.int .u64 (sumL (logL ws (2 * n)))) ∧ w' = wr) := lsum_any av _ cv _ wr rfl hmx hrw
      obtain ⟨sm, hsm⟩ : ∃ sm, sm = sumL (logL ws (2 * n)) := ⟨_, rfl⟩
      obtain ⟨x9, hx9⟩ : ∃ x, x = wd ws 9 := ⟨_, rfl⟩
      rw [← hsm] at HSM
      rw [← hx9] at HR
      have HQ : Hid ((sumL (logL ws (2 * n)) == wd ws 9) = (x9 == sm)) := by show _ = _; rw [← hsm, ← hx9]; exact beq_swap sm x9
      clear hsm hx9 hown hrw hmx
      go_wp2_with (first
        | (refine calls_same HR.out ?_)
        | (go_at_call 63; refine calls_same HSM.out ?_)
        | fail)
      go_ret
      rw [HQ.out]
      exact ⟨rfl, hf⟩

theorem asks_sum {ws : List Int} (h0 : wd ws 8 ≠ 0) (h : wd ws 8 ≤ 48) (hs : (sumL (logWords ws (wd ws 8).toNat) == wd ws 9) = false) : (asksS ws).2 = false := by
  unfold asksS
  rw [if_neg h0, if_neg (by omega)]
  split
  · exact hs
  · rfl
theorem Tryz.info199 : (Tryz.prog.info? 199).map (fun i => (i.zero, i.size, i.bytes)) = some (some (.agg #[.int .i64 0, .int .u64 0]), 2, 16) := by kernel_rfl
/-- the log's records, as cells -/
def recCells (ws : List Int) (n : Nat) : List Value := (List.range n).flatMap (fun i => [.int .i64 (wd ws (10 + 2 * i)), .int .u64 (wd ws (11 + 2 * i))])
theorem recCells_succ (ws : List Int) (n : Nat) : recCells ws (n + 1) = recCells ws n ++ [.int .i64 (wd ws (10 + 2 * n)), .int .u64 (wd ws (11 + 2 * n))] := by simp [recCells, List.range_succ]
theorem recCells_len (ws : List Int) (n : Nat) : (recCells ws n).length = n * 2 := by
  induction n with
  | zero => rfl
  | succ n ih => rw [recCells_succ, List.length_append, ih]; simp; omega
theorem recCells_get (ws : List Int) {n i : Nat} (hi : i < n) : (recCells ws n)[i * 2]? = some (.int .i64 (wd ws (10 + 2 * i))) ∧ (recCells ws n)[i * 2 + 1]? = some (.int .u64 (wd ws (11 + 2 * i))) := by
  induction n with
  | zero => omega
  | succ n ih =>
    rw [recCells_succ]
    have hl := recCells_len ws n
    by_cases h : i < n
    · obtain ⟨h1, h2⟩ := ih h
      rw [List.getElem?_append_left (by omega), List.getElem?_append_left (by omega)]
      exact ⟨h1, h2⟩
    · obtain rfl : i = n := by omega
      rw [List.getElem?_append_right (by omega), List.getElem?_append_right (by omega), hl, Nat.sub_self, show i * 2 + 1 - i * 2 = 1 by omega]
      exact ⟨rfl, rfl⟩
abbrev OwnR (base : Nat) (w : World) (v : Value) (ws : List Int) (n : Nat) : Prop := w.ownsRow base 199 2 v n (recCells ws n)
theorem rec_one (x y : Int) : ∀ u ∈ [Value.int .i64 x, Value.int .u64 y], u.oneCell' = true := by
  intro u hu
  simp only [List.mem_cons, List.not_mem_nil, or_false] at hu
  rcases hu with rfl | rfl <;> rfl

set_option maxHeartbeats 2000000 in
set_option maxRecDepth 100000 in
theorem asked_row (rt : Nat) (rx : Value) (fL fR : Nat) (ry : Value) (ws : List Int) (w : World) (hL : 114 ≤ ws.length) (hL2 : ws.length ≤ 1048576) (hU : ∀ z ∈ ws, U z) (hrow : RowAt w rt rx fL fR ry ws) :
    Calls Tryz.prog 96 #[.iface rt rx] w fun e w' => ∃ v, e = .returned (.tuple #[v, .bool (asksS ws).2]) ∧ ((asksS ws).2 = true → OwnR w.heap.size w' v ws (asksS ws).1) ∧ ((asksS ws).2 = false → v = .slice none 0 0) ∧ Fr New w w' := by
  have HRD : Hid (∀ wr, Fr New w wr → ∀ i, i < ws.length → Calls Tryz.prog fR #[ry, .int .i64 (i : Nat)] wr fun e w'' => e = .returned (.int .u64 (wd ws i)) ∧ w'' = wr) := hrow.read
  have HM : Hid (∀ w', Fr New w w' → (method 356 rt rx "Read").run Tryz.prog w' = .ok (fR, ry) w') := hrow.mread
  have HML : Hid (∀ w', Fr New w w' → (method 356 rt rx "Len").run Tryz.prog w' = .ok (fL, ry) w') := hrow.mlen
  have HLN : Hid (∀ w', Fr New w w' → Calls Tryz.prog fL #[ry] w' fun e w'' => e = .returned (.int .i64 ws.length) ∧ w'' = w') := hrow.len
  have hmr0 := HM.out w (Fr.refl _ _)
  have hcf := hrow.cread
  have hcl := hrow.clen
  have HSM : Hid (∀ n, n ≤ 48 → Calls Tryz.prog 136 #[Value.iface rt rx, .int .i64 (n : Nat)] w fun e w' => e = .returned (.bool (sumL (logWords ws n) == wd ws 9)) ∧ Fr New w w') := fun n hn => summed_row rt rx fL fR ry n ws w hL hn hrow
  have HUU : Hid (∀ z ∈ ws, U z) := hU
  have HLG : Hid (∀ p w, Calls Tryz.prog 137 #[.int .u64 p, .int .i64 ws.length] w fun e w' => e = .returned (.bool (okAt ws.length p)) ∧ w' = w) := fun p w => logged_any p ws.length w (by omega) hL2
  obtain ⟨i0, hi0, hz0, hz1, hz2⟩ := info_parts Tryz.info199
  have HR8 : Hid (Calls Tryz.prog fR #[ry, .int .i64 ((8 : Nat) : Int)] w fun e w'' => e = .returned (.int .u64 (wd ws 8)) ∧ w'' = w) := HRD.out w (Fr.refl _ _) 8 (by omega)
  have h8U := wd_U hU 8
  obtain ⟨x8, hx8⟩ : ∃ x, x = wd ws 8 := ⟨_, rfl⟩
  rw [← hx8] at HR8 h8U
  obtain ⟨h80, h81⟩ := h8U
  obtain ⟨L, hLL⟩ : ∃ L, L = ws.length := ⟨_, rfl⟩
  have HLL : Hid (L = ws.length) := hLL
  rw [← hLL] at HRD HLN HLG hL hL2
  clear hrow hU hLL
  by_cases hmany : 48 < x8
  · have HT : Hid (asksS ws = (0, false)) := asks_many (by rw [← hx8]; omega) (by rw [← hx8]; exact hmany)
    rw [HT.out]
    clear hx8
    go_enter Tryz.func96, Tryz.ntmps96
    go_wp2_with (refine calls_same HR8.out ?_)
    go_ret2
    exact ⟨_, rfl, (fun h => by cases h), fun _ => rfl, Fr.refl _ _⟩
  · by_cases h0 : x8 = 0
    · have HT : Hid (asksS ws = (0, true)) := asks_none (by rw [← hx8]; exact h0)
      rw [HT.out]
      subst h0
      clear hx8
      go_enter Tryz.func96, Tryz.ntmps96
      go_wp2_with (refine calls_same HR8.out ?_)
      go_ret2
      exact ⟨_, rfl, fun _ => World.ownsRow_nil _ _ _ _, (fun h => by cases h), Fr.refl _ _⟩
    · obtain ⟨n, rfl⟩ := Int.eq_ofNat_of_zero_le h80
      have hn48 : n ≤ 48 := by omega
      have hn1 : 1 ≤ n := by omega
      have HN8 : Hid (wd ws 8 = (n : Int)) := hx8.symm
      have HSX : Hid (Calls Tryz.prog 136 #[Value.iface rt rx, .int .i64 (n : Nat)] w fun e w' => e = .returned (.bool (sumL (logWords ws n) == wd ws 9)) ∧ Fr New w w') := HSM.out n hn48
      have hw8 : IntKind.i64.wrap (n : Int) = n := by rw [IntKind.wrap_i64]; omega
      have hz8 : ((n : Int) == 0) = false := by simp; omega
      clear hx8 h80 h81 hmany h0
      rcases hsm : (sumL (logWords ws n) == wd ws 9) with _ | _
      · have HT : Hid ((asksS ws).2 = false) := asks_sum (by rw [HN8.out]; omega) (by rw [HN8.out]; omega) (by rw [HN8.out]; exact hsm)
        rw [hsm] at HSX
        rw [HT.out]
        clear hsm
        go_enter Tryz.func96, Tryz.ntmps96
        go_wp2_with (first
          | (refine calls_same HR8.out ?_)
          | (go_at_call 136; refine HSX.out.mono ?_; rintro e w1 ⟨rfl, hf1⟩))
        go_ret2
        exact ⟨_, rfl, (fun h => by cases h), fun _ => rfl, hf1⟩
      · have HSS : Hid ((sumL (logWords ws n) == wd ws 9) = true) := hsm
        rw [hsm] at HSX
        clear hsm
        go_enter Tryz.func96, Tryz.ntmps96
        go_wp2_with (first
          | (refine calls_same HR8.out ?_)
          | (go_at_call 136; refine HSX.out.mono ?_; rintro e w1 ⟨rfl, hf1⟩))
        go_loopg [2, 21] n (fun gh v t wr => ∃ i : Nat, i ≤ n ∧ gh = n - i ∧ t = .int .i64 i ∧ OwnR w.heap.size wr v ws i ∧ Fr New w wr ∧ ∀ j, j < i → okAt ws.length (wd ws (10 + 2 * j)) = true)
        case atStart => exact ⟨0, by omega, rfl, rfl, World.ownsRow_nil _ _ _ _, hf1, fun j hj => by omega⟩
        case round =>
          clear hf1
          obtain ⟨i, hin, rfl, rfl, hown, hf, hok⟩ := hrel
          have HOK : Hid (∀ j, j < i → okAt ws.length (wd ws (10 + 2 * j)) = true) := hok
          clear hok
          have hmr := HM.out wr hf
          have hml := HML.out wr hf
          by_cases hi : i < n
          · have HRa : Hid (Calls Tryz.prog fR #[ry, .int .i64 ((10 + 2 * i : Nat) : Int)] wr fun e w'' => e = .returned (.int .u64 (wd ws (10 + 2 * i))) ∧ w'' = wr) := HRD.out wr hf (10 + 2 * i) (by omega)
            have HRb : Hid (Calls Tryz.prog fR #[ry, .int .i64 ((10 + 2 * i + 1 : Nat) : Int)] wr fun e w'' => e = .returned (.int .u64 (wd ws (11 + 2 * i))) ∧ w'' = wr) := by have := HRD.out wr hf (10 + 2 * i + 1) (by omega); rwa [show wd ws (10 + 2 * i + 1) = wd ws (11 + 2 * i) from congrArg (wd ws) (by omega)] at this
            have hxU := wd_U HUU.out (10 + 2 * i)
            have hsc := recCells_succ ws i
            obtain ⟨x, hx⟩ : ∃ x, x = wd ws (10 + 2 * i) := ⟨_, rfl⟩
            obtain ⟨y, hy⟩ : ∃ y, y = wd ws (11 + 2 * i) := ⟨_, rfl⟩
            rw [← hx] at HRa hxU hsc
            rw [← hy] at HRb hsc
            have HSC : Hid (recCells ws (i + 1) = recCells ws i ++ [.int .i64 x, .int .u64 y]) := hsc
            obtain ⟨hx0, hx1⟩ := hxU
            clear hsc
            rcases hoa : okAt L x with _ | _
            · have HT : Hid (asksS ws = (0, false)) := asks_wrong (by rw [HN8.out]; omega) (by rw [HN8.out]; omega) (i := i) (by rw [HN8.out]; simpa using hi) (by rw [← hx, ← HLL.out]; exact hoa)
              have HLX : Hid (Calls Tryz.prog 137 #[.int .u64 x, .int .i64 L] wr fun e w' => e = .returned (.bool false) ∧ w' = wr) := by rw [← hoa]; exact HLG.out x wr
              clear hoa hx hy
              go_wp2_with (first
                | (refine calls_same (HLN.out wr hf) ?_)
                | (go_at_call 137; refine calls_same HLX.out ?_)
                | (refine calls_same HRa.out ?_)
                | fail)
              go_ret2
              rw [HT.out]
              exact ⟨_, rfl, (fun h => by cases h), fun _ => rfl, hf⟩
            · have HLX : Hid (Calls Tryz.prog 137 #[.int .u64 x, .int .i64 L] wr fun e w' => e = .returned (.bool true) ∧ w' = wr) := by rw [← hoa]; exact HLG.out x wr
              have HOA : Hid (okAt ws.length x = true) := by rw [← HLL.out]; exact hoa
              have hxL := (okAt_iff.1 hoa).1
              have HX : Hid (x = wd ws (10 + 2 * i)) := hx
              have hwx : IntKind.i64.wrap x = x := by rw [IntKind.wrap_i64]; omega
              clear hoa hx hy
              go_wp2_with (first
                | (refine calls_same (HLN.out wr hf) ?_)
                | (go_at_call 137; refine calls_same HLX.out ?_)
                | (refine calls_same HRa.out ?_)
                | (refine calls_same HRb.out ?_)
                | (at_builtin; refine wpList_append_own _ rfl (.tmp 40) (.tmp 45) 155 rfl w.heap.size 199 i0 _ 2 16 Tryz.underlying155 hi0 hz0 hz1 hz2 rfl (by decide) _ _ _ rfl (hown.alloc _) ⟨wr.heap.size, 0, none⟩ 1 1 [.int .i64 x, .int .u64 y] rfl rfl (World.news_of_block (Go.Deep.blk_alloc_new wr _)) (rec_one x y) (by unfold maxLen; omega) (by omega) (by have := hf.size; simp; omega) ?_; intro v2 w2 ho2 hg2 _)
                | fail)
              have hown2 : OwnR w.heap.size w2 v2 ws (i + 1) := by unfold OwnR; rw [HSC.out]; exact ho2
              have hf2 : Fr New w w2 := (hf.alloc _).grown hg2 (fun k hk hv => by have := (hown.lt k hv).1; omega)
              clear ho2 hg2
              go_roundg (n - (i + 1))
              case measure => omega
              case rel => exact ⟨i + 1, by omega, rfl, by go_num, hown2, hf2, fun j hj => by
                rcases Nat.lt_or_ge j i with hlt | hge
                · exact HOK.out j hlt
                · obtain rfl : j = i := by omega
                  rw [← HX.out]; exact HOA.out⟩
          · obtain rfl : i = n := by omega
            have HT : Hid (asksS ws = (i, true)) := by
              have := asks_right (ws := ws) (by rw [HN8.out]; omega) (by rw [HN8.out]; omega) (by rw [HN8.out]; simpa using HOK.out)
              rw [HN8.out] at this
              show asksS ws = (i, true)
              simpa [HSS.out] using this
            obtain ⟨av, cv, rfl⟩ := own_slice hown
            go_wp2
            go_ret2
            rw [HT.out]
            exact ⟨_, rfl, fun _ => hown, (fun h => by cases h), hf⟩
theorem asked_any (sb so c : Nat) (ws : List Int) (w : World) (hL : 114 ≤ ws.length) (hL2 : ws.length ≤ 1048576) (hU : ∀ z ∈ ws, U z) (hcw : ∀ i, i < ws.length → w.cell? ⟨sb, so + i, none⟩ = some (.int .u64 (wd ws i))) :
    Calls Tryz.prog 96 #[rowV (some ⟨sb, so, none⟩) ws.length c] w fun e w' => ∃ v, e = .returned (.tuple #[v, .bool (asksS ws).2]) ∧ ((asksS ws).2 = true → OwnR w.heap.size w' v ws (asksS ws).1) ∧ Fr New w w' := by
  refine (asked_row _ _ _ _ _ ws w hL hL2 hU (kept_row rfl hcw)).mono ?_
  rintro e w' ⟨v, h1, h2, _, h4⟩
  exact ⟨v, h1, h2, h4⟩
end Go.Proofs.YtbagcjlimdilpaaGreat
