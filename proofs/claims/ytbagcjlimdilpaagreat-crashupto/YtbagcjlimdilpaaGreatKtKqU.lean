/- The walk of left: what a stop leaves of words and stores. -/
import Derived.Test.YtbagcjlimdilpaaGreatKtJ18
import Derived.Test.YtbagcjlimdilpaaGreatKtKpD
namespace Go.Proofs.YtbagcjlimdilpaaGreat
open Go.RowKit Go.Maps

theorem stsCells_get : ∀ (l : List St) (i : Nat) (j : Nat), i < l.length → j < 3 → (stsCells l)[i * 3 + j]? = (stCells (stq l i))[j]?
  | s :: l, 0, j, _, hj => by
    simp only [stsCells, List.flatMap_cons, Nat.zero_mul, Nat.zero_add]
    rw [List.getElem?_append_left (by simpa [stCells] using hj)]
    rfl
  | s :: l, i + 1, j, hi, hj => by
    have ih := stsCells_get l i j (by simpa using hi) hj
    simp only [stsCells, List.flatMap_cons] at ih ⊢
    rw [List.getElem?_append_right (by simp [stCells]; omega)]
    have e : (i + 1) * 3 + j - (stCells s).length = i * 3 + j := by simp [stCells]; omega
    rw [e, ih]
    rfl
theorem last_le (l : List St) : ∀ n, lastF l n ≤ n
  | 0 => Nat.le_refl _
  | n + 1 => by
    unfold lastF
    split
    · omega
    · have := last_le l n; omega
/-- the i-th store as it is read -/
theorem stores_at {w : World} {B : Nat} {v : Value} {l : List St} (h : w.ownsRow B 122 3 v l.length (stsCells l)) (i : Nat) (hi : i < l.length) : ∃ g c, v = .slice (some ⟨g, 0, none⟩) l.length c ∧ g < w.heap.size ∧ w.cell? ⟨g, i * 3, none⟩ = some (.int .i64 (stq l i).k) ∧ w.cell? ⟨g, i * 3 + 1, none⟩ = some (.int .i64 (stq l i).at') ∧ w.cell? ⟨g, i * 3 + 2, none⟩ = some (.int .u64 (stq l i).v) := by
  rcases h.2 with ⟨_, hn⟩ | ⟨g, cap, cur, rfl, hb, hh, hnc, hcm, hcs, htk⟩
  · omega
  · have hc : ∀ j, j < 3 → w.cell? ⟨g, i * 3 + j, none⟩ = (stCells (stq l i))[j]? := fun j hj => by
      rw [← stsCells_get l i j hi hj, ← htk, (block_cells hh).1, List.getElem?_take_of_lt (by omega)]
      simp
    exact ⟨g, cap, rfl, lt_of_block hh, (hc 0 (by omega)).trans rfl, (hc 1 (by omega)).trans rfl, (hc 2 (by omega)).trans rfl⟩

set_option maxHeartbeats 2000000 in
set_option maxRecDepth 100000 in
theorem kleft_any (gw capw : Nat) (ws : List Int) (lv : Value) (l : List St) (B nn : Nat) (bs : Int) (w : World) (hr : RowU w (some ⟨gw, 0, none⟩) ws) (hp : 0 < ws.length) (hm : ws.length ≤ 362) (ho : w.ownsRow B 122 3 lv l.length (stsCells l)) (hn : nn ≤ l.length) (hl : l.length ≤ 1048576) :
    Calls Tryz.prog 31 #[.slice (some ⟨gw, 0, none⟩) ws.length capw, lv, .int .i64 (nn : Int), .int .i64 bs] w fun e w' => ∃ v, e = .returned v ∧ Own w.heap.size w' v (leftW ws l (lastF l nn) (fun i => decide (bits .and .i64 (bs / 2 ^ (i % 60)) 1 = 1)) nn) ∧ Fr New w w' := by
  obtain ⟨i0, hi0, hz0, hz1, hz2⟩ := info_parts Tryz.info50
  obtain ⟨sa, sc, rfl⟩ := own_slice ho
  have HO : Hid (∀ w1, Fr New w w1 → w1.ownsRow B 122 3 (.slice sa l.length sc) l.length (stsCells l)) := fun w1 hf => hf.owns ho (fun _ _ h => h)
  have HNW : Hid (∀ w', Fr New w w' → ∀ j u, (ws.map (Value.int .u64))[j]? = some u → w'.cell? ((⟨gw, 0, none⟩ : Addr).add j) = some u) := fun w' hf => by
    obtain ⟨ad, e, h⟩ := news_row (rowU_fr hf hr (fun _ _ h => h)) (by simp; omega)
    cases e
    exact h
  have HES : Hid ((w.alloc (.cells #[] 50)).ownsRow w.heap.size 50 1 (.slice (some ⟨w.heap.size, 0, none⟩) 0 0) 0 []) := by
    have := World.ownsRow_made (base := w.heap.size) (e := 50) (size := 1) w #[] 0 (by simp) (by decide) (by simp)
    show World.ownsRow _ _ _ _ _ _ _
    simpa using this
  clear ho hr
  go_enter Tryz.func31, Tryz.ntmps31
  go_wp2_with (first
    | (at_builtin; refine wpList_append_own_at _ rfl (.tmp 13) (.tmp 14) 43 rfl w.heap.size 50 i0 (.int .u64 0) 1 8 Tryz.underlying43 hi0 hz0 hz1 hz2 rfl (by decide) _ _ _ rfl HES.out ⟨gw, 0, none⟩ ws.length capw (ws.map (Value.int .u64)) rfl (by simp) (HNW.out _ ((Fr.refl New w).alloc _)) (ints_oneU _) (by unfold maxLen; omega) (by omega) (by simp) ?_; intro v4 w4 ho4 hg4 _ _; rw [Nat.zero_add, List.nil_append] at ho4; have hf4 : Fr New w w4 := ((Fr.refl New w).alloc _).grown hg4 (fun k hk e => by have : w.heap.size = k := Option.some.inj e; omega))
    | fail)
  have HO4 : Hid (Own w.heap.size w4 v4 ws) := ho4
  have HF4 : Hid (Fr New w w4) := hf4
  obtain ⟨a4, c4, hv4⟩ := own_slice ho4
  subst hv4
  obtain ⟨g4, ha4⟩ : ∃ g4, a4 = some ⟨g4, 0, none⟩ := by
    rcases ho4.2 with ⟨e, h⟩ | ⟨g, cap, cur, e, _⟩
    · omega
    · simp only [Value.slice.injEq] at e; exact ⟨g, e.1⟩
  subst ha4
  have HG4 : Hid (w.heap.size ≤ g4) := (own_block ho4 rfl).1
  clear ho4 hf4 hg4 HES HNW
  go_loopg [10, 11] nn (fun gh vl vi wr => ∃ i : Nat, i ≤ nn ∧ gh = nn - i ∧ vl = .int .i64 (lastF l i : Nat) ∧ vi = .int .i64 (i : Int) ∧ wr = w4)
  case atStart => exact ⟨0, by omega, by omega, rfl, rfl, rfl⟩
  case round =>
    obtain ⟨i, hin, rfl, rfl, rfl, hwr⟩ := hrel
    subst hwr
    by_cases hi : i < nn
    · have hd0 : decide (i < nn) = true := by simpa using hi
      obtain ⟨gs, cs, hvs, hgs, k0, k1, k2⟩ := stores_at (HO.out _ HF4.out) i (by omega)
      cases hvs
      have HLS : Hid (lastF l (i + 1) = if (stq l i).k = 2 then i else lastF l i) := rfl
      obtain ⟨kk, hkk⟩ : ∃ kk, kk = (stq l i).k := ⟨_, rfl⟩
      rw [← hkk] at k0 HLS
      have hil : i < l.length := by omega
      clear hkk
      by_cases h2 : kk = 2
      · have h2b : (kk == 2) = true := by simpa using h2
        have HL2 : Hid (lastF l (i + 1) = i) := HLS.out.trans (if_pos h2)
        clear h2
        go_wp2
        go_roundg (nn - (i + 1))
        case measure => omega
        case rel => exact ⟨i + 1, by omega, rfl, by rw [HL2.out], by go_num, rfl⟩
      · have h2b : (kk == 2) = false := by simpa using h2
        have HL2 : Hid (lastF l (i + 1) = lastF l i) := HLS.out.trans (if_neg h2)
        go_wp2
        go_roundg (nn - (i + 1))
        case measure => omega
        case rel => exact ⟨i + 1, by omega, rfl, by rw [HL2.out], by go_num, rfl⟩
    · obtain rfl : i = nn := by omega
      have hd0 : decide (i < i) = false := by simp
      obtain ⟨last, hlast⟩ : ∃ last, last = lastF l i := ⟨_, rfl⟩
      have hll : last ≤ i := by rw [hlast]; exact last_le l i
      rw [← hlast]
      have HLA : Hid (last = lastF l i) := hlast
      clear hi hin hlast
      go_wp2
      go_loopg [12] i (fun gh vi wq => ∃ j : Nat, j ≤ i ∧ gh = i - j ∧ vi = .int .i64 (j : Int) ∧ Own w.heap.size wq (.slice (some ⟨g4, 0, none⟩) ws.length c4) (leftW ws l last (fun i => decide (bits .and .i64 (bs / 2 ^ (i % 60)) 1 = 1)) j) ∧ Fr New w wq)
      case atStart => exact ⟨0, by omega, by omega, rfl, HO4.out, HF4.out⟩
      case round =>
        obtain ⟨j, hji, rfl, rfl, hOw, hFw⟩ := hrel
        by_cases hj : j < i
        · have hd1 : decide (j < i) = true := by simpa using hj
          obtain ⟨gs, cs, hvs, hgs, k0, k1, k2⟩ := stores_at (HO.out _ hFw) j (by omega)
          cases hvs
          have hle : (leftW ws l last (fun i => decide (bits .and .i64 (bs / 2 ^ (i % 60)) 1 = 1)) j).length = ws.length := leftW_len ..
          have HLW : Hid (leftW ws l last (fun i => decide (bits .and .i64 (bs / 2 ^ (i % 60)) 1 = 1)) (j + 1) = if (stq l j).k = 1 ∧ 0 ≤ (stq l j).at' ∧ (stq l j).at' < (ws.length : Int) ∧ (j < last ∨ decide (bits .and .i64 (bs / 2 ^ (j % 60)) 1 = 1) = true) then (leftW ws l last (fun i => decide (bits .and .i64 (bs / 2 ^ (i % 60)) 1 = 1)) j).set (stq l j).at'.toNat (stq l j).v else leftW ws l last (fun i => decide (bits .and .i64 (bs / 2 ^ (i % 60)) 1 = 1)) j) := rfl
          obtain ⟨kk, hkk⟩ : ∃ kk, kk = (stq l j).k := ⟨_, rfl⟩
          obtain ⟨aa, haa⟩ : ∃ aa, aa = (stq l j).at' := ⟨_, rfl⟩
          obtain ⟨vv, hvv⟩ : ∃ vv, vv = (stq l j).v := ⟨_, rfl⟩
          rw [← hkk, ← haa, ← hvv] at HLW
          rw [← hkk] at k0
          rw [← haa] at k1
          rw [← hvv] at k2
          have hjl : j < l.length := by omega
          clear hkk haa hvv
          by_cases q1 : kk = 1
          · have h1b : (kk == 1) = true := by simpa using q1
            have Q1 : Hid (kk = 1) := q1
            clear q1
            by_cases q2 : 0 ≤ aa
            · have h2b : decide (0 ≤ aa) = true := by simpa using q2
              by_cases q3 : aa < (ws.length : Int)
              · have h3b : decide (aa < (ws.length : Int)) = true := by simpa using q3
                obtain ⟨p, rfl⟩ := Int.eq_ofNat_of_zero_le q2
                have hpw : p < ws.length := by omega
                have h3c : decide (p < ws.length) = true := by simpa using hpw
                have hOw2 : wr.ownsRow w.heap.size 50 1 (.slice (some ⟨g4, 0, none⟩) ws.length c4) ws.length ((leftW ws l last (fun i => decide (bits .and .i64 (bs / 2 ^ (i % 60)) 1 = 1)) j).map (Value.int .u64)) := by
                  have h0 := hOw
                  unfold Own at h0
                  rwa [hle] at h0
                have hcg : wr.cell? ⟨g4, p, none⟩ = some (.int .u64 (wd (leftW ws l last (fun i => decide (bits .and .i64 (bs / 2 ^ (i % 60)) 1 = 1)) j) p)) := by
                  have := hOw2.cellAt p (by omega)
                  rw [this]
                  simp [wd, List.getD, hle, hpw]
                have hcf : wr.frozen? ⟨g4, p, none⟩ = false := hOw2.frozenAt p
                have hg4w : g4 < wr.heap.size := World.block_lt_of_cell? wr _ hcg
                have HSO : Hid (Own w.heap.size (wr.setCell ⟨g4, p, none⟩ (.int .u64 vv)) (.slice (some ⟨g4, 0, none⟩) ws.length c4) ((leftW ws l last (fun i => decide (bits .and .i64 (bs / 2 ^ (i % 60)) 1 = 1)) j).set p vv)) := by
                  have := (hOw2.stored p (.int .u64 vv)).1
                  show Own _ _ _ _
                  unfold Own
                  rw [List.length_set, hle, List.map_set]
                  exact this
                have HSF : Hid (Fr New w (wr.setCell ⟨g4, p, none⟩ (.int .u64 vv))) := hFw.setCell (fun h => by have := HG4.out; simp only at h; omega) _
                have HYES : Hid ((j < last ∨ decide (bits .and .i64 (bs / 2 ^ (j % 60)) 1 = 1) = true) → leftW ws l last (fun i => decide (bits .and .i64 (bs / 2 ^ (i % 60)) 1 = 1)) (j + 1) = (leftW ws l last (fun i => decide (bits .and .i64 (bs / 2 ^ (i % 60)) 1 = 1)) j).set p vv) := fun h => by
                  have := HLW.out.trans (if_pos ⟨Q1.out, q2, q3, h⟩)
                  rwa [Int.toNat_natCast] at this
                obtain ⟨yc, hyc⟩ : ∃ y, y = wd (leftW ws l last (fun i => decide (bits .and .i64 (bs / 2 ^ (i % 60)) 1 = 1)) j) p := ⟨_, rfl⟩
                rw [← hyc] at hcg
                clear hyc
                by_cases q4 : j < last
                · have h4b : decide (j < last) = true := by simpa using q4
                  have HYE : Hid (leftW ws l last (fun i => decide (bits .and .i64 (bs / 2 ^ (i % 60)) 1 = 1)) (j + 1) = (leftW ws l last (fun i => decide (bits .and .i64 (bs / 2 ^ (i % 60)) 1 = 1)) j).set p vv) := HYES.out (.inl q4)
                  clear HYES HLW
                  go_upto_region 12 with fail
                  go_region
                  all_goals
                    go_wp2
                    go_roundg (i - (j + 1))
                    case measure => omega
                    case rel =>
                      refine ⟨j + 1, by omega, rfl, by go_num, ?_, ?_⟩
                      · rw [HYE.out]
                        first | exact HSO.out | exact HSO.out.drew
                      · first | exact HSF.out | exact HSF.out.drew
                · have h4b : decide (j < last) = false := by simpa using q4
                  by_cases q5 : bits .and .i64 (bs / 2 ^ (j % 60)) 1 = 1
                  · have h5b : (bits .and .i64 (bs / 2 ^ (j % 60)) 1 == 1) = true := by simpa using q5
                    have HYE : Hid (leftW ws l last (fun i => decide (bits .and .i64 (bs / 2 ^ (i % 60)) 1 = 1)) (j + 1) = (leftW ws l last (fun i => decide (bits .and .i64 (bs / 2 ^ (i % 60)) 1 = 1)) j).set p vv) := HYES.out (.inr (by simpa using q5))
                    clear HYES HLW q5
                    go_upto_region 12 with fail
                    go_region
                    all_goals
                      go_wp2
                      go_roundg (i - (j + 1))
                      case measure => omega
                      case rel =>
                        refine ⟨j + 1, by omega, rfl, by go_num, ?_, ?_⟩
                        · rw [HYE.out]
                          first | exact HSO.out | exact HSO.out.drew
                        · first | exact HSF.out | exact HSF.out.drew
                  · have h5b : (bits .and .i64 (bs / 2 ^ (j % 60)) 1 == 1) = false := by simpa using q5
                    have HNO : Hid (leftW ws l last (fun i => decide (bits .and .i64 (bs / 2 ^ (i % 60)) 1 = 1)) (j + 1) = leftW ws l last (fun i => decide (bits .and .i64 (bs / 2 ^ (i % 60)) 1 = 1)) j) := HLW.out.trans (if_neg (fun h => by rcases h.2.2.2 with h | h; exact q4 h; exact q5 (by simpa using h)))
                    clear HYES HLW
                    go_wp2
                    go_roundg (i - (j + 1))
                    case measure => omega
                    case rel => exact ⟨j + 1, by omega, rfl, by go_num, by rw [HNO.out]; exact hOw, hFw⟩
              · have h3b : decide (aa < (ws.length : Int)) = false := by simpa using q3
                have HNO : Hid (leftW ws l last (fun i => decide (bits .and .i64 (bs / 2 ^ (i % 60)) 1 = 1)) (j + 1) = leftW ws l last (fun i => decide (bits .and .i64 (bs / 2 ^ (i % 60)) 1 = 1)) j) := HLW.out.trans (if_neg (fun h => q3 h.2.2.1))
                go_wp2
                go_roundg (i - (j + 1))
                case measure => omega
                case rel => exact ⟨j + 1, by omega, rfl, by go_num, by rw [HNO.out]; exact hOw, hFw⟩
            · have h2b : decide (0 ≤ aa) = false := by simpa using q2
              have HNO : Hid (leftW ws l last (fun i => decide (bits .and .i64 (bs / 2 ^ (i % 60)) 1 = 1)) (j + 1) = leftW ws l last (fun i => decide (bits .and .i64 (bs / 2 ^ (i % 60)) 1 = 1)) j) := HLW.out.trans (if_neg (fun h => q2 h.2.1))
              go_wp2
              go_roundg (i - (j + 1))
              case measure => omega
              case rel => exact ⟨j + 1, by omega, rfl, by go_num, by rw [HNO.out]; exact hOw, hFw⟩
          · have h1b : (kk == 1) = false := by simpa using q1
            have HNO : Hid (leftW ws l last (fun i => decide (bits .and .i64 (bs / 2 ^ (i % 60)) 1 = 1)) (j + 1) = leftW ws l last (fun i => decide (bits .and .i64 (bs / 2 ^ (i % 60)) 1 = 1)) j) := HLW.out.trans (if_neg (fun h => q1 h.1))
            go_wp2
            go_roundg (i - (j + 1))
            case measure => omega
            case rel => exact ⟨j + 1, by omega, rfl, by go_num, by rw [HNO.out]; exact hOw, hFw⟩
        · obtain rfl : j = i := by omega
          have hd1 : decide (j < j) = false := by simp
          go_wp2
          go_ret
          rw [HLA.out] at hOw
          exact ⟨_, rfl, hOw, hFw⟩
end Go.Proofs.YtbagcjlimdilpaaGreat
