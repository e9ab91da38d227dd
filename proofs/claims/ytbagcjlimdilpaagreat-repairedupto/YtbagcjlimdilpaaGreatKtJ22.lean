/- Texts that follow one another, joined. -/
import Derived.Test.YtbagcjlimdilpaaGreatKtJ18
import Derived.Test.YtbagcjlimdilpaaGreatKtJ21
import Derived.Test.YtbagcjlimdilpaaGreatKtJ20
import Derived.Test.YtbagcjlimdilpaaGreatKtKqM
import Derived.Test.YtbagcjlimdilpaaGreatKtJ3
/- The walk of left: what a stop leaves of words and stores. -/
namespace Go.Proofs.YtbagcjlimdilpaaGreat
open Go.RowKit Go.Maps

theorem stsCells_get : ∀ (l : List St) (i : Nat) (j : Nat), i < l.length → j < 3 → (stsCells l)[i * 3 + j]? = (stCells (stq l i))[j]?
  | s :: l, 0, j, _, hj => by
    simp only [stsCells, List.flatMap_cons, Nat.zero_mul, Nat.zero_add]
    rw [List.getElem?_append_left (by simpa [stCells] using hj)]
    rfl
  | s :: l, i + 1, j, hi, hj => by
    have ih := stsCells_get l i j (by simpa using hi) hj
    simp only [stsCells, List.flatMap_cons] at ih ⊢
    rw [List.getElem?_append_right (by simp [stCells]; omega)]
    have e : (i + 1) * 3 + j - (stCells s).length = i * 3 + j := by simp [stCells]; omega
    rw [e, ih]
    rfl
theorem last_le (l : List St) : ∀ n, lastF l n ≤ n
  | 0 => Nat.le_refl _
  | n + 1 => by
    unfold lastF
    split
    · omega
    · have := last_le l n; omega
/-- the i-th store as it is read -/
theorem stores_at {w : World} {B : Nat} {v : Value} {l : List St} (h : w.ownsRow B 122 3 v l.length (stsCells l)) (i : Nat) (hi : i < l.length) : ∃ g c, v = .slice (some ⟨g, 0, none⟩) l.length c ∧ g < w.heap.size ∧ w.cell? ⟨g, i * 3, none⟩ = some (.int .i64 (stq l i).k) ∧ w.cell? ⟨g, i * 3 + 1, none⟩ = some (.int .i64 (stq l i).at') ∧ w.cell? ⟨g, i * 3 + 2, none⟩ = some (.int .u64 (stq l i).v) := by
  rcases h.2 with ⟨_, hn⟩ | ⟨g, cap, cur, rfl, hb, hh, hnc, hcm, hcs, htk⟩
  · omega
  · have hc : ∀ j, j < 3 → w.cell? ⟨g, i * 3 + j, none⟩ = (stCells (stq l i))[j]? := fun j hj => by
      rw [← stsCells_get l i j hi hj, ← htk, (block_cells hh).1, List.getElem?_take_of_lt (by omega)]
      simp
    exact ⟨g, cap, rfl, lt_of_block hh, (hc 0 (by omega)).trans rfl, (hc 1 (by omega)).trans rfl, (hc 2 (by omega)).trans rfl⟩

set_option maxHeartbeats 2000000 in
set_option maxRecDepth 100000 in
theorem kleft_any (gw capw : Nat) (ws : List Int) (lv : Value) (l : List St) (B nn : Nat) (bs : Int) (w : World) (hr : RowU w (some ⟨gw, 0, none⟩) ws) (hp : 0 < ws.length) (hm : ws.length ≤ 362) (ho : w.ownsRow B 122 3 lv l.length (stsCells l)) (hn : nn ≤ l.length) (hl : l.length ≤ 1048576) :
    Calls Tryz.prog 31 #[.slice (some ⟨gw, 0, none⟩) ws.length capw, lv, .int .i64 (nn : Int), .int .i64 bs] w fun e w' => ∃ v, e = .returned v ∧ Own w.heap.size w' v (leftW ws l (lastF l nn) (fun i => decide (bits .and .i64 (bs / 2 ^ (i % 60)) 1 = 1)) nn) ∧ Fr New w w' := by
  obtain ⟨i0, hi0, hz0, hz1, hz2⟩ := info_parts Tryz.info50
  obtain ⟨sa, sc, rfl⟩ := own_slice ho
  have HO : Hid (∀ w1, Fr New w w1 → w1.ownsRow B 122 3 (.slice sa l.length sc) l.length (stsCells l)) := fun w1 hf => hf.owns ho (fun _ _ h => h)
  have HNW : Hid (∀ w', Fr New w w' → ∀ j u, (ws.map (Value.int .u64))[j]? = some u → w'.cell? ((⟨gw, 0, none⟩ : Addr).add j) = some u) := fun w' hf => by
    obtain ⟨ad, e, h⟩ := news_row (rowU_fr hf hr (fun _ _ h => h)) (by simp; omega)
    cases e
    exact h
  have HES : Hid ((w.alloc (.cells #[] 50)).ownsRow w.heap.size 50 1 (.slice (some ⟨w.heap.size, 0, none⟩) 0 0) 0 []) := by
    have := World.ownsRow_made (base := w.heap.size) (e := 50) (size := 1) w #[] 0 (by simp) (by decide) (by simp)
    show World.ownsRow _ _ _ _ _ _ _
    simpa using this
  clear ho hr
  go_enter Tryz.func31, Tryz.ntmps31
  go_wp2_with (first
    | (at_builtin; refine wpList_append_own_at _ rfl (.tmp 13) (.tmp 14) 43 rfl w.heap.size 50 i0 (.int .u64 0) 1 8 Tryz.underlying43 hi0 hz0 hz1 hz2 rfl (by decide) _ _ _ rfl HES.out ⟨gw, 0, none⟩ ws.length capw (ws.map (Value.int .u64)) rfl (by simp) (HNW.out _ ((Fr.refl New w).alloc _)) (ints_oneU _) (by unfold maxLen; omega) (by omega) (by simp) ?_; intro v4 w4 ho4 hg4 _ _; rw [Nat.zero_add, List.nil_append] at ho4; have hf4 : Fr New w w4 := ((Fr.refl New w).alloc _).grown hg4 (fun k hk e => by have : w.heap.size = k := Option.some.inj e; omega))
    | fail)
  have HO4 : Hid (Own w.heap.size w4 v4 ws) := ho4
  have HF4 : Hid (Fr New w w4) := hf4
  obtain ⟨a4, c4, hv4⟩ := own_slice ho4
  subst hv4
  obtain ⟨g4, ha4⟩ : ∃ g4, a4 = some ⟨g4, 0, none⟩ := by
    rcases ho4.2 with ⟨e, h⟩ | ⟨g, cap, cur, e, _⟩
    · omega
    · simp only [Value.slice.injEq] at e; exact ⟨g, e.1⟩
  subst ha4
  have HG4 : Hid (w.heap.size ≤ g4) := (own_block ho4 rfl).1
  clear ho4 hf4 hg4 HES HNW
  go_loopg [10, 11] nn (fun gh vl vi wr => ∃ i : Nat, i ≤ nn ∧ gh = nn - i ∧ vl = .int .i64 (lastF l i : Nat) ∧ vi = .int .i64 (i : Int) ∧ wr = w4)
  case atStart => exact ⟨0, by omega, by omega, rfl, rfl, rfl⟩
  case round =>
    obtain ⟨i, hin, rfl, rfl, rfl, hwr⟩ := hrel
    subst hwr
    by_cases hi : i < nn
    · have hd0 : decide (i < nn) = true := by simpa using hi
      obtain ⟨gs, cs, hvs, hgs, k0, k1, k2⟩ := stores_at (HO.out _ HF4.out) i (by omega)
      cases hvs
      have HLS : Hid (lastF l (i + 1) = if (stq l i).k = 2 then i else lastF l i) := rfl
      obtain ⟨kk, hkk⟩ : ∃ kk, kk = (stq l i).k := ⟨_, rfl⟩
      rw [← hkk] at k0 HLS
      have hil : i < l.length := by omega
      clear hkk
      by_cases h2 : kk = 2
      · have h2b : (kk == 2) = true := by simpa using h2
        have HL2 : Hid (lastF l (i + 1) = i) := HLS.out.trans (if_pos h2)
        clear h2
        go_wp2
        go_roundg (nn - (i + 1))
        case measure => omega
        case rel => exact ⟨i + 1, by omega, rfl, by rw [HL2.out], by go_num, rfl⟩
      · have h2b : (kk == 2) = false := by simpa using h2
        have HL2 : Hid (lastF l (i + 1) = lastF l i) := HLS.out.trans (if_neg h2)
        go_wp2
        go_roundg (nn - (i + 1))
        case measure => omega
        case rel => exact ⟨i + 1, by omega, rfl, by rw [HL2.out], by go_num, rfl⟩
    · obtain rfl : i = nn := by omega
      have hd0 : decide (i < i) = false := by simp
      obtain ⟨last, hlast⟩ : ∃ last, last = lastF l i := ⟨_, rfl⟩
      have hll : last ≤ i := by rw [hlast]; exact last_le l i
      rw [← hlast]
      have HLA : Hid (last = lastF l i) := hlast
      clear hi hin hlast
      go_wp2
      go_loopg [12] i (fun gh vi wq => ∃ j : Nat, j ≤ i ∧ gh = i - j ∧ vi = .int .i64 (j : Int) ∧ Own w.heap.size wq (.slice (some ⟨g4, 0, none⟩) ws.length c4) (leftW ws l last (fun i => decide (bits .and .i64 (bs / 2 ^ (i % 60)) 1 = 1)) j) ∧ Fr New w wq)
      case atStart => exact ⟨0, by omega, by omega, rfl, HO4.out, HF4.out⟩
      case round =>
        obtain ⟨j, hji, rfl, rfl, hOw, hFw⟩ := hrel
        by_cases hj : j < i
        · have hd1 : decide (j < i) = true := by simpa using hj
          obtain ⟨gs, cs, hvs, hgs, k0, k1, k2⟩ := stores_at (HO.out _ hFw) j (by omega)
          cases hvs
          have hle : (leftW ws l last (fun i => decide (bits .and .i64 (bs / 2 ^ (i % 60)) 1 = 1)) j).length = ws.length := leftW_len ..
          have HLW : Hid (leftW ws l last (fun i => decide (bits .and .i64 (bs / 2 ^ (i % 60)) 1 = 1)) (j + 1) = if (stq l j).k = 1 ∧ 0 ≤ (stq l j).at' ∧ (stq l j).at' < (ws.length : Int) ∧ (j < last ∨ decide (bits .and .i64 (bs / 2 ^ (j % 60)) 1 = 1) = true) then (leftW ws l last (fun i => decide (bits .and .i64 (bs / 2 ^ (i % 60)) 1 = 1)) j).set (stq l j).at'.toNat (stq l j).v else leftW ws l last (fun i => decide (bits .and .i64 (bs / 2 ^ (i % 60)) 1 = 1)) j) := rfl
          obtain ⟨kk, hkk⟩ : ∃ kk, kk = (stq l j).k := ⟨_, rfl⟩
          obtain ⟨aa, haa⟩ : ∃ aa, aa = (stq l j).at' := ⟨_, rfl⟩
          obtain ⟨vv, hvv⟩ : ∃ vv, vv = (stq l j).v := ⟨_, rfl⟩
          rw [← hkk, ← haa, ← hvv] at HLW
          rw [← hkk] at k0
          rw [← haa] at k1
          rw [← hvv] at k2
          have hjl : j < l.length := by omega
          clear hkk haa hvv
          by_cases q1 : kk = 1
          · have h1b : (kk == 1) = true := by simpa using q1
            have Q1 : Hid (kk = 1) := q1
            clear q1
            by_cases q2 : 0 ≤ aa
            · have h2b : decide (0 ≤ aa) = true := by simpa using q2
              by_cases q3 : aa < (ws.length : Int)
              · have h3b : decide (aa < (ws.length : Int)) = true := by simpa using q3
                obtain ⟨p, rfl⟩ := Int.eq_ofNat_of_zero_le q2
                have hpw : p < ws.length := by omega
                have h3c : decide (p < ws.length) = true := by simpa using hpw
                have hOw2 : wr.ownsRow w.heap.size 50 1 (.slice (some ⟨g4, 0, none⟩) ws.length c4) ws.length ((leftW ws l last (fun i => decide (bits .and .i64 (bs / 2 ^ (i % 60)) 1 = 1)) j).map (Value.int .u64)) := by
                  have h0 := hOw
                  unfold Own at h0
                  rwa [hle] at h0
                have hcg : wr.cell? ⟨g4, p, none⟩ = some (.int .u64 (wd (leftW ws l last (fun i => decide (bits .and .i64 (bs / 2 ^ (i % 60)) 1 = 1)) j) p)) := by
                  have := hOw2.cellAt p (by omega)
                  rw [this]
                  simp [wd, List.getD, hle, hpw]
                have hcf : wr.frozen? ⟨g4, p, none⟩ = false := hOw2.frozenAt p
                have hg4w : g4 < wr.heap.size := World.block_lt_of_cell? wr _ hcg
                have HSO : Hid (Own w.heap.size (wr.setCell ⟨g4, p, none⟩ (.int .u64 vv)) (.slice (some ⟨g4, 0, none⟩) ws.length c4) ((leftW ws l last (fun i => decide (bits .and .i64 (bs / 2 ^ (i % 60)) 1 = 1)) j).set p vv)) := by
                  have := (hOw2.stored p (.int .u64 vv)).1
                  show Own _ _ _ _
                  unfold Own
                  rw [List.length_set, hle, List.map_set]
                  exact this
                have HSF : Hid (Fr New w (wr.setCell ⟨g4, p, none⟩ (.int .u64 vv))) := hFw.setCell (fun h => by have := HG4.out; simp only at h; omega) _
                have HYES : Hid ((j < last ∨ decide (bits .and .i64 (bs / 2 ^ (j % 60)) 1 = 1) = true) → leftW ws l last (fun i => decide (bits .and .i64 (bs / 2 ^ (i % 60)) 1 = 1)) (j + 1) = (leftW ws l last (fun i => decide (bits .and .i64 (bs / 2 ^ (i % 60)) 1 = 1)) j).set p vv) := fun h => by
                  have := HLW.out.trans (if_pos ⟨Q1.out, q2, q3, h⟩)
                  rwa [Int.toNat_natCast] at this
                obtain ⟨yc, hyc⟩ : ∃ y, y = wd (leftW ws l last (fun i => decide (bits .and .i64 (bs / 2 ^ (i % 60)) 1 = 1)) j) p := ⟨_, rfl⟩
                rw [← hyc] at hcg
                clear hyc
                by_cases q4 : j < last
                · have h4b : decide (j < last) = true := by simpa using q4
                  have HYE : Hid (leftW ws l last (fun i => decide (bits .and .i64 (bs / 2 ^ (i % 60)) 1 = 1)) (j + 1) = (leftW ws l last (fun i => decide (bits .and .i64 (bs / 2 ^ (i % 60)) 1 = 1)) j).set p vv) := HYES.out (.inl q4)
                  clear HYES HLW
                  go_upto_region 12 with fail
                  go_region
                  all_goals
                    go_wp2
                    go_roundg (i - (j + 1))
                    case measure => omega
                    case rel =>
                      refine ⟨j + 1, by omega, rfl, by go_num, ?_, ?_⟩
                      · rw [HYE.out]
                        first | exact HSO.out | exact HSO.out.drew
                      · first | exact HSF.out | exact HSF.out.drew
                · have h4b : decide (j < last) = false := by simpa using q4
                  by_cases q5 : bits .and .i64 (bs / 2 ^ (j % 60)) 1 = 1
                  · have h5b : (bits .and .i64 (bs / 2 ^ (j % 60)) 1 == 1) = true := by simpa using q5
                    have HYE : Hid (leftW ws l last (fun i => decide (bits .and .i64 (bs / 2 ^ (i % 60)) 1 = 1)) (j + 1) = (leftW ws l last (fun i => decide (bits .and .i64 (bs / 2 ^ (i % 60)) 1 = 1)) j).set p vv) := HYES.out (.inr (by simpa using q5))
                    clear HYES HLW q5
                    go_upto_region 12 with fail
                    go_region
                    all_goals
                      go_wp2
                      go_roundg (i - (j + 1))
                      case measure => omega
                      case rel =>
                        refine ⟨j + 1, by omega, rfl, by go_num, ?_, ?_⟩
                        · rw [HYE.out]
                          first | exact HSO.out | exact HSO.out.drew
                        · first | exact HSF.out | exact HSF.out.drew
                  · have h5b : (bits .and .i64 (bs / 2 ^ (j % 60)) 1 == 1) = false := by simpa using q5
                    have HNO : Hid (leftW ws l last (fun i => decide (bits .and .i64 (bs / 2 ^ (i % 60)) 1 = 1)) (j + 1) = leftW ws l last (fun i => decide (bits .and .i64 (bs / 2 ^ (i % 60)) 1 = 1)) j) := HLW.out.trans (if_neg (fun h => by rcases h.2.2.2 with h | h; exact q4 h; exact q5 (by simpa using h)))
                    clear HYES HLW
                    go_wp2
                    go_roundg (i - (j + 1))
                    case measure => omega
                    case rel => exact ⟨j + 1, by omega, rfl, by go_num, by rw [HNO.out]; exact hOw, hFw⟩
              · have h3b : decide (aa < (ws.length : Int)) = false := by simpa using q3
                have HNO : Hid (leftW ws l last (fun i => decide (bits .and .i64 (bs / 2 ^ (i % 60)) 1 = 1)) (j + 1) = leftW ws l last (fun i => decide (bits .and .i64 (bs / 2 ^ (i % 60)) 1 = 1)) j) := HLW.out.trans (if_neg (fun h => q3 h.2.2.1))
                go_wp2
                go_roundg (i - (j + 1))
                case measure => omega
                case rel => exact ⟨j + 1, by omega, rfl, by go_num, by rw [HNO.out]; exact hOw, hFw⟩
            · have h2b : decide (0 ≤ aa) = false := by simpa using q2
              have HNO : Hid (leftW ws l last (fun i => decide (bits .and .i64 (bs / 2 ^ (i % 60)) 1 = 1)) (j + 1) = leftW ws l last (fun i => decide (bits .and .i64 (bs / 2 ^ (i % 60)) 1 = 1)) j) := HLW.out.trans (if_neg (fun h => q2 h.2.1))
              go_wp2
              go_roundg (i - (j + 1))
              case measure => omega
              case rel => exact ⟨j + 1, by omega, rfl, by go_num, by rw [HNO.out]; exact hOw, hFw⟩
          · have h1b : (kk == 1) = false := by simpa using q1
            have HNO : Hid (leftW ws l last (fun i => decide (bits .and .i64 (bs / 2 ^ (i % 60)) 1 = 1)) (j + 1) = leftW ws l last (fun i => decide (bits .and .i64 (bs / 2 ^ (i % 60)) 1 = 1)) j) := HLW.out.trans (if_neg (fun h => q1 h.1))
            go_wp2
            go_roundg (i - (j + 1))
            case measure => omega
            case rel => exact ⟨j + 1, by omega, rfl, by go_num, by rw [HNO.out]; exact hOw, hFw⟩
        · obtain rfl : j = i := by omega
          have hd1 : decide (j < j) = false := by simp
          go_wp2
          go_ret
          rw [HLA.out] at hOw
          exact ⟨_, rfl, hOw, hFw⟩
end Go.Proofs.YtbagcjlimdilpaaGreat
/- What the laws of stops need: Stores of a story and of a heap; what is left, as it opens. -/
namespace Go.Proofs.YtbagcjlimdilpaaGreat
open Go.RowKit Go.Maps

/-- Stores of a story's heap -/
theorem hstores_sty {sb n hb tb cb mb g : Nat} {vs vn vk : Value} {un uk : List Value} {ws now : List Int} {sts : List St} {w : World} (S : Sty sb n hb tb cb mb g vs vn vk un uk ws now sts w) :
    Calls Tryz.prog 25 #[.pointer (some ⟨hb, 0, none⟩)] w fun e w' => e = .returned vs ∧ Sty sb n hb tb cb mb g (.slice none 0 0) vn vk un uk ws now [] w' ∧ Fr (fun k => k = tb) w w' ∧ w'.ownsRow 0 122 3 vs sts.length (stsCells sts) := by
  refine (hstores_any hb tb cb mb g vs ws now sts w S.ph).mono ?_
  rintro e w' ⟨rfl, hp, hf, ho, _⟩
  exact ⟨rfl, ⟨hf.heap S.blk (fun e => type_ne S.blk S.ph.tg.t.td (by decide) e), hp, S.hw, S.tn.fr hf (fun k hk e => by subst e; exact S.tn.no S.ph.tg.t.td (by decide) (by decide) hk), S.tk.fr hf (fun k hk e => by subst e; exact S.tk.no S.ph.tg.t.td (by decide) (by decide) hk), S.n, S.gn, S.gk, S.nk⟩, hf, ho⟩
/-- what a commit leaves of a stop: its words, its stores, and what comes of them -/
structure Stopped (ws now ws' : List Int) (sts : List St) : Prop where
  few : sts.length ≤ 151
  all : leftW ws sts (lastF sts sts.length) (fun _ => true) sts.length = ws'
  one : ∀ (n : Nat) (P : Nat → Bool) (m : Nat) (R : Nat → Bool), n ≤ sts.length → m ≤ (openSt (leftW ws sts (lastF sts n) P n)).length →
    ∃ a b, Opens (leftW ws sts (lastF sts n) P n) a ∧ Opens (leftW (leftW ws sts (lastF sts n) P n) (openSt (leftW ws sts (lastF sts n) P n)) (lastF (openSt (leftW ws sts (lastF sts n) P n)) m) R m) b ∧ ((Like a ws ∧ Like b ws) ∨ (Like a ws' ∧ Like b ws'))
theorem stq_in {ws now : List Int} {l : List St} (h : HW ws now) (hs : Sts l (recsOf ws (nextS now))) (h48 : (recsOf ws (nextS now)).length ≤ 48) {i : Nat} (hi : i < l.length) (hk : (stq l i).k = 1) : 0 ≤ (stq l i).at' ∧ (stq l i).at' < (ws.length : Int) := by
  have hL := h.gw.len
  have hro := recs_out h
  rw [hs.len] at hi
  obtain ⟨rs, hrs⟩ : ∃ rs, rs = recsOf ws (nextS now) := ⟨_, rfl⟩
  rw [← hrs] at hs hro h48 hi
  by_cases c1 : i < 2 * rs.length
  · rw [hs.log i c1]; simp only; omega
  · by_cases c2 : i = 2 * rs.length
    · subst c2; rw [hs.sum]; simp only; omega
    · by_cases c3 : i = 2 * rs.length + 1
      · subst c3; rw [hs.f1] at hk; simp at hk
      · by_cases c4 : i = 2 * rs.length + 2
        · subst c4; rw [hs.num]; simp only; omega
        · by_cases c5 : i = 2 * rs.length + 3
          · subst c5; rw [hs.f2] at hk; simp at hk
          · by_cases c6 : i < 3 * rs.length + 4
            · obtain ⟨j, rfl⟩ : ∃ j, i = 2 * rs.length + 4 + j := ⟨i - (2 * rs.length + 4), by omega⟩
              have hj : j < rs.length := by omega
              obtain ⟨q', e1, e2, e4, e3⟩ := hro _ (List.getElem_mem hj)
              rw [hs.put j hj]
              simp only
              omega
            · by_cases c7 : i = 3 * rs.length + 4
              · subst c7; rw [hs.f3] at hk; simp at hk
              · by_cases c8 : i = 3 * rs.length + 5
                · subst c8; rw [hs.zero]; simp only; omega
                · obtain rfl : i = 3 * rs.length + 6 := by omega
                  rw [hs.f4] at hk; simp at hk
theorem stopped {ws now ws' now' : List Int} {sts' : List St} (h : HW ws now) (hc : CommitR ws now [] ws' now' sts') : Stopped ws now ws' sts' := by
  have hnone : ∀ wx : List Int, wx = ws → Stopped ws now wx [] := fun wx e => by
    subst e
    have o := opens_self h.back
    refine ⟨by simp, rfl, fun n P m R hn hm => ?_⟩
    obtain rfl : n = 0 := by simpa using hn
    have e0 : leftW wx [] (lastF [] 0) P 0 = wx := rfl
    rw [e0] at hm ⊢
    have e1 : openSt wx = [] := (open_self h.back).2.2
    rw [e1] at hm ⊢
    obtain rfl : m = 0 := by simpa using hm
    exact ⟨wx, wx, o, o, .inl ⟨Like.refl _, Like.refl _⟩⟩
  rcases hc with ⟨_, rfl, _, rfl⟩ | ⟨_, _, rfl, _, rfl⟩ | ⟨_, h48, rfl, _, rfl⟩
  · exact hnone _ rfl
  · exact hnone _ rfl
  · rw [List.nil_append]
    have hs := sts_of ws now
    have hlk := (commit_good h h48).2.symm
    refine ⟨by rw [hs.len]; omega, ?_, fun n P m R hn hm => ?_⟩
    · rw [left_all _ (fun _ => rfl) (fun i hi hk => stq_in h hs h48 hi hk), all_stores]
    · have st := stop_left h hs h48 n P
      obtain ⟨a, b, o1, o2, hc⟩ := stop_twice h h48 st m hm R
      refine ⟨a, b, o1, o2, hc.imp id (fun ⟨p, q⟩ => ⟨p.trans hlk, q.trans hlk⟩)⟩
theorem left_U {ws : List Int} {l : List St} {last : Nat} {P : Nat → Bool} (hu : ∀ z ∈ ws, U z) (hv : ∀ i, U (stq l i).v) : ∀ n, ∀ z ∈ leftW ws l last P n, U z
  | 0 => hu
  | n + 1 => by
    unfold leftW
    split
    · exact set_U (left_U hu hv n) (hv n)
    · exact left_U hu hv n
theorem stq_none (i : Nat) : U (stq [] i).v := by
  unfold stq
  simp
  unfold U
  omega
theorem stq_U {l : List St} (h : ∀ s ∈ l, U s.v) (i : Nat) : U (stq l i).v := by
  unfold stq
  by_cases hi : i < l.length
  · simp only [List.getD, List.getElem?_eq_getElem hi]
    exact h _ (List.getElem_mem hi)
  · simp only [List.getD, List.getElem?_eq_none (show l.length ≤ i by omega)]
    show U 0
    unfold U
    omega
theorem puts_U {rs : List (Int × Int)} (h : ∀ r ∈ rs, U r.2) : ∀ s ∈ putsSt rs, U s.v := fun s hs => by
  simp only [putsSt, List.mem_map] at hs
  obtain ⟨r, hr, rfl⟩ := hs
  exact h r hr
theorem commit_stq_U {ws now : List Int} (h : HW ws now) (hn : ∀ z ∈ now, U z) (h48 : (recsOf ws (nextS now)).length ≤ 48) (i : Nat) : U (stq (pcommitSt ws now) i).v := by
  have hL := h.gw.len
  have hr : ∀ r ∈ recsOf ws (nextS now), U r.1 ∧ U r.2 := fun r hr => by
    obtain ⟨q, e1, _, e3, e4⟩ := recs_out h r hr
    rw [e1, e4]
    exact ⟨by unfold U; omega, wd_U (nextS_U hn) q⟩
  refine stq_U (fun s hs => ?_) i
  unfold pcommitSt enterSt carrySt at hs
  simp only [List.mem_append, List.mem_cons, List.not_mem_nil, or_false] at hs
  rcases hs with (hs | rfl | rfl | rfl | rfl) | (hs | rfl | rfl | rfl)
  · refine puts_U (fun r hr' => ?_) s hs
    obtain ⟨j, _, rfl⟩ := logPs_mem.1 hr'
    exact wd_U (flatR_U hr) j
  · exact sumL_U _
  · unfold U; simp only; omega
  · unfold U; simp only; omega
  · unfold U; simp only; omega
  · exact puts_U (fun r hr' => (hr r hr').2) s hs
  · unfold U; simp only; omega
  · unfold U; simp only; omega
  · unfold U; simp only; omega
theorem open_stq_U {im : List Int} (hu : ∀ z ∈ im, U z) (i : Nat) : U (stq (openSt im) i).v := by
  refine stq_U (fun s hs => ?_) i
  unfold openSt at hs
  split at hs
  · cases hs
  · simp only [List.mem_append, List.mem_cons, List.not_mem_nil, or_false, putsS, List.mem_map] at hs
    rcases hs with ((⟨j, _, rfl⟩ | rfl) | rfl) | rfl
    · exact wd_U hu _
    · unfold U; simp only; omega
    · unfold U; simp only; omega
    · unfold U; simp only; omega
theorem stopped_U {ws now ws' now' : List Int} {sts' : List St} (h : HW ws now) (hn : ∀ z ∈ now, U z) (hc : CommitR ws now [] ws' now' sts') (i : Nat) : U (stq sts' i).v := by
  rcases hc with ⟨_, _, _, rfl⟩ | ⟨_, _, _, _, rfl⟩ | ⟨_, h48, _, _, rfl⟩
  · exact stq_none i
  · exact stq_none i
  · rw [List.nil_append]
    exact commit_stq_U h hn h48 i
theorem bits_all (i : Nat) : decide (bits .and .i64 (-1 / 2 ^ (i % 60)) 1 = 1) = true := by
  have h : (-1 : Int) / 2 ^ (i % 60) = -1 := by
    have hp : (0 : Int) < 2 ^ (i % 60) := Int.pow_pos (by omega)
    exact Int.ediv_eq_neg_one_of_neg_of_le (by omega) (by omega)
  rw [h]
  decide
end Go.Proofs.YtbagcjlimdilpaaGreat
/- The part of a shape that is reached, as mathematics and in memory. -/
namespace Go.Proofs.YtbagcjlimdilpaaGreat
open Go.RowKit Go.Maps

/-- those that are marked -/
def sel {α : Type} : List α → List Bool → List α
  | x :: l, b :: o => if b then x :: sel l o else sel l o
  | _, _ => []
theorem sel_map {α β : Type} (f : α → β) : ∀ (l : List α) (o : List Bool), sel (l.map f) o = (sel l o).map f
  | [], _ => by simp [sel]
  | x :: l, [] => by simp [sel]
  | x :: l, b :: o => by
    simp only [List.map_cons, sel, sel_map f l o]
    split <;> simp
theorem sel_zip {α : Type} : ∀ (l : List α) (o : List Bool), sel l o = ((l.zip o).filter (fun x => x.2)).map (fun x => x.1)
  | [], _ => by simp [sel]
  | x :: l, [] => by simp [sel]
  | x :: l, b :: o => by
    simp only [sel, List.zip_cons_cons, List.filter_cons, sel_zip l o]
    split <;> simp
theorem sel_len {α β : Type} : ∀ (l : List α) (m : List β) (o : List Bool), l.length = m.length → (sel l o).length = (sel m o).length
  | [], [], _, _ => by simp [sel]
  | x :: l, y :: m, [], _ => by simp [sel]
  | x :: l, y :: m, b :: o, h => by
    have := sel_len l m o (by simpa using h)
    simp only [sel]
    split <;> simp [this]
theorem sel_le {α : Type} : ∀ (l : List α) (o : List Bool), (sel l o).length ≤ l.length
  | [], _ => by simp [sel]
  | x :: l, [] => by simp [sel]
  | x :: l, b :: o => by
    have := sel_le l o
    simp only [sel]
    split <;> simp <;> omega
theorem sel_sub {α : Type} : ∀ (l : List α) (o : List Bool), (sel l o).Sublist l
  | [], _ => by simp [sel]
  | x :: l, [] => by simp [sel]
  | x :: l, b :: o => by
    have := sel_sub l o
    simp only [sel]
    split
    · exact this.cons_cons _
    · exact this.cons _
theorem sel_at {α β : Type} : ∀ (l : List α) (m : List β) (o : List Bool), l.length = m.length → ∀ i (hi : i < (sel l o).length) (hi' : i < (sel m o).length), ∃ j, ∃ hj : j < l.length, ∃ hj' : j < m.length, (sel l o)[i] = l[j] ∧ (sel m o)[i] = m[j]
  | [], [], _, _, i, hi, _ => by simp [sel] at hi
  | x :: l, y :: m, [], _, i, hi, _ => by simp [sel] at hi
  | x :: l, y :: m, b :: o, h, i, hi, hi' => by
    cases b with
    | false =>
      obtain ⟨j, hj, hj', e, e'⟩ := sel_at l m o (by simpa using h) i (by simpa [sel] using hi) (by simpa [sel] using hi')
      exact ⟨j + 1, by simpa using hj, by simpa using hj', by simpa [sel] using e, by simpa [sel] using e'⟩
    | true =>
      cases i with
      | zero => exact ⟨0, by simp, by simp, by simp [sel], by simp [sel]⟩
      | succ i =>
        obtain ⟨j, hj, hj', e, e'⟩ := sel_at l m o (by simpa using h) i (by simpa [sel] using hi) (by simpa [sel] using hi')
        exact ⟨j + 1, by simpa using hj, by simpa using hj', by simpa [sel] using e, by simpa [sel] using e'⟩
theorem sel_next {α : Type} : ∀ (l : List α) (o : List Bool) (i : Nat) (hi : i < l.length) (ho : i < o.length), sel (l.take (i + 1)) (o.take (i + 1)) = sel (l.take i) (o.take i) ++ (if o[i] then [l[i]] else [])
  | x :: l, b :: o, 0, _, _ => by cases b <;> simp [sel]
  | x :: l, b :: o, i + 1, hi, ho => by
    have := sel_next l o i (by simpa using hi) (by simpa using ho)
    simp only [List.take_succ_cons, sel, this, List.getElem_cons_succ]
    split <;> simp
/-- the things of repaired words: those that are reached -/
theorem mended_things {a r : List Int} (m : Mended a r) {out : List Bool} (hl : out.length = (objs a).length) (hm : ∀ i, out[i]? = some true ↔ Reach a (objs a) i) : things r = sel (things a) out := by
  have h := mended_objs m hl hm
  rw [← sel_zip] at h
  unfold things
  rw [sel_map, ← h]
  exact List.map_congr_left (fun o ho => by rw [m.words o ho])
theorem closed_congr {a b : List Int} {l : List Ob} (hr : ∀ r, r < 4 → wd a (3 + r) = wd b (3 + r)) (hw : ∀ o ∈ l, ∀ p, p < o.ptrs → wd a (pl o p) = wd b (pl o p)) {S : Nat → Prop} (h : Closed a l S) : Closed b l S :=
  ⟨fun r h4 k hk => h.1 r h4 k (by rw [hr r h4]; exact hk), fun i hi p k hs hp hk => h.2 i hi p k hs hp (by rw [hw _ (List.getElem_mem hi) p hp]; exact hk)⟩
theorem reach_like {a b : List Int} (h : Like a b) (i : Nat) : Reach a (objs a) i ↔ Reach b (objs b) i := by
  have hw : ∀ o ∈ objs b, ∀ p, p < o.ptrs → wd a (pl o p) = wd b (pl o p) := fun o ho p hp => by
    have := objs_in ho
    rw [← wd_objW (now := a) (o := o) (p := p) (by omega), ← wd_objW (now := b) (o := o) (p := p) (by omega), h.words o ho]
  rw [h.ob]
  exact ⟨fun hr S hS => hr S (closed_congr (fun r h4 => (h.roots r h4).symm) (fun o ho p hp => (hw o ho p hp).symm) hS), fun hr S hS => hr S (closed_congr h.roots hw hS)⟩
theorem unmarked_mono : ∀ (a b : List Bool), a.length = b.length → (∀ i : Nat, b[i]? = some true → a[i]? = some true) → unmarked a ≤ unmarked b
  | [], [], _, _ => Nat.le_refl _
  | x :: a, y :: b, hl, h => by
    have ih := unmarked_mono a b (by simpa using hl) (fun i hi => by simpa using h (i + 1) (by simpa using hi))
    have h0 := h 0
    unfold unmarked at ih ⊢
    simp only [List.countP_cons]
    cases x <;> cases y <;> simp at h0 ⊢ <;> omega
theorem unmarked_zero {a : List Bool} (h : unmarked a = 0) (i : Nat) (hi : i < a.length) : a[i]? = some true := by
  unfold unmarked at h
  rw [List.countP_eq_zero] at h
  have := h _ (List.getElem_mem hi)
  rw [List.getElem?_eq_getElem hi]
  simpa using this
/-- a pass is done: all is marked that is to be, or one more than before -/
theorem pass_end {ws : List Int} {l : List Ob} {out out' : List Bool} {m : Bool} {n : Nat} (hM : Marks ws l 4 out) (hc : (∀ i, i < l.length → ∀ p, Spread ws l out i p) ∨ unmarked out + n ≤ l.length) (hP : Pass ws l (unmarked out) out' m l.length) :
    (∀ i, i < l.length → ∀ p, Spread ws l out' i p) ∨ unmarked out' + (n + 1) ≤ l.length := by
  cases m with
  | false => exact .inl (hP.no rfl).2
  | true =>
    have hy := hP.yes rfl
    rcases hc with hc | hc
    · exfalso
      have := unmarked_mono out out' (by rw [hM.len, hP.marks.len]) (fun i hi => (hM.done hc i).2 (hP.marks.sound i hi))
      omega
    · right; omega
theorem passes_done {ws : List Int} {l : List Ob} {out : List Bool} (hM : Marks ws l 4 out) (hc : (∀ i, i < l.length → ∀ p, Spread ws l out i p) ∨ unmarked out + l.length ≤ l.length) (i : Nat) : out[i]? = some true ↔ Reach ws l i := by
  rcases hc with hc | hc
  · exact hM.done hc i
  · refine hM.done (fun j _ p hj q k _ _ _ hk => unmarked_zero (by omega) k ?_) i
    rw [hM.len]
    exact idx_lt hk
/-- a part of things that lie in memory -/
theorem ThAt.part {w w' : World} {v v' : Value} {l : List Th} {us : List Value} {out : List Bool} (h : ThAt w v l us) (hf : Fr New w w') (ho : w'.ownsRow 0 54 4 v' (sel l out).length (ktCells (sel l out) (sel us out))) : ThAt w' v' (sel l out) (sel us out) := by
  refine ⟨ho, (sel_len _ _ _ h.len.symm).symm, fun i hi hv => ?_, fun x hx => h.fit x ((sel_sub l out).subset hx), h.apart.sublist (sel_sub us out), Nat.le_trans (sel_le l out) h.n⟩
  obtain ⟨j, hj, hj', e, e'⟩ := sel_at l us out h.len.symm i hi hv
  rw [e, e']
  exact (h.new hf).rows j hj hj'
end Go.Proofs.YtbagcjlimdilpaaGreat
