/- The walk of the program's enter: records go into the log. -/
import Derived.Test.YtbagcjlimdilpaaGreatKtJ10
namespace Go.Proofs.YtbagcjlimdilpaaGreat
open Go.RowKit Go.Maps

/-- records as words of the log -/
def flatR (rs : List (Int × Int)) : List Int := rs.flatMap (fun r => [r.1, r.2])
theorem flatR_len (rs : List (Int × Int)) : (flatR rs).length = 2 * rs.length := by
  induction rs with
  | nil => rfl
  | cons r rs ih => simp only [flatR, List.flatMap_cons, List.length_append, List.length_cons, List.length_nil] at ih ⊢; omega
theorem flatR_snoc (rs : List (Int × Int)) (r : Int × Int) : flatR (rs ++ [r]) = flatR rs ++ [r.1, r.2] := by simp [flatR]
/-- words that are put into the log, one by one -/
def logPs (ls : List Int) (i : Nat) : List (Int × Int) := (List.range i).map (fun j => (((10 + j : Nat) : Int), wd ls j))
theorem logPs_succ (ls : List Int) (i : Nat) : logPs ls (i + 1) = logPs ls i ++ [(((10 + i : Nat) : Int), wd ls i)] := by simp [logPs, List.range_succ]
theorem logPs_len (ls : List Int) (i : Nat) : (logPs ls i).length = i := by simp [logPs]
def enterSum (rs : List (Int × Int)) : Int := sumL ((rs.length : Int) :: flatR rs)
def enterW (ws : List Int) (rs : List (Int × Int)) : List Int := ((putsW ws (logPs (flatR rs) (2 * rs.length))).set 9 (enterSum rs)).set 8 (rs.length : Int)
def enterSt (rs : List (Int × Int)) : List St := putsSt (logPs (flatR rs) (2 * rs.length)) ++ [⟨1, 9, enterSum rs⟩, ⟨2, 0, 0⟩, ⟨1, 8, (rs.length : Int)⟩, ⟨2, 0, 0⟩]
theorem enterW_len (ws : List Int) (rs : List (Int × Int)) : (enterW ws rs).length = ws.length := by simp [enterW, putsW_len]
/-- a list of words of one's own is not turned by stores of a row that lies below -/
theorem own_kept {tb g : Nat} {vs : Value} {ws : List Int} {st : List St} {w w' : World} {B : Nat} {v : Value} {zs : List Int} (h : TG tb g vs ws st w) (hf : Fr (TurnedT tb g vs) w w') (ho : Own B w v zs) (hg : g < B) : Own B w' v zs :=
  hf.owns ho (fun k hk ht => by
    obtain ⟨hk1, c, hc⟩ := own_block ho hk
    rcases ht with e | e | e
    · exact type_ne hc h.t.td (by decide) e
    · omega
    · obtain ⟨_, c', hc'⟩ := own_block h.o e
      exact type_ne hc hc' (by decide) rfl)

set_option maxHeartbeats 2000000 in
set_option maxRecDepth 100000 in
theorem enter_told (tb g : Nat) (vs : Value) (ws : List Int) (st : List St) (B : Nat) (v : Value) (rs : List (Int × Int)) (w : World) (h : TG tb g vs ws st w) (hv : OwnRs B w v rs) (hin : ∀ r ∈ rs, 0 ≤ r.1 ∧ r.1 < 1048576) (h1n : 1 ≤ rs.length) (h48 : rs.length ≤ 48) (hL : 114 ≤ ws.length) (hl : st.length + 2 * rs.length + 4 ≤ 1099511627776) :
    Calls Tryz.prog 104 #[.pointer (some ⟨tb, 0, none⟩), v] w fun e w' => e = .returned (.tuple #[]) ∧ ∃ vs', TG tb g vs' (enterW ws rs) (st ++ enterSt rs) w' ∧ Fr (TurnedT tb g vs) w w' ∧ Moved w vs vs' := by
  obtain ⟨i0, hi0, hz0, hz1, hz2⟩ := info_parts Tryz.info50
  have HV : Hid (∀ w', Fr New w w' → OwnRs B w' v rs) := fun w' hf => hf.owns hv (fun _ _ h => h)
  have HH : Hid (∀ w', Fr New w w' → TG tb g vs ws st w') := fun w' hf => h.new hf
  have HIN : Hid (∀ r ∈ rs, 0 ≤ r.1 ∧ r.1 < 1048576) := hin
  have HG : Hid (g < w.heap.size) := lt_of_block h.t.wb
  obtain ⟨n, hn⟩ : ∃ n, n = rs.length := ⟨_, rfl⟩
  have HN : Hid (n = rs.length) := hn
  obtain ⟨a, c, rfl⟩ := own_slice hv
  rw [← hn] at h48 hl h1n
  rw [← hn]
  have hwn : IntKind.u64.wrap (n : Int) = n := by rw [IntKind.wrap_u64]; omega
  have hS0 : Own w.heap.size (w.alloc (.cells #[.int .u64 (n : Int)] 50)) (.slice (some ⟨w.heap.size, 0, none⟩) 1 1) ((n : Int) :: flatR (rs.take 0)) := by
    rw [List.take_zero]
    exact World.ownsRow_lit w #[.int .u64 (n : Int)] 1 (Nat.le_refl _) (by decide) rfl
  have HFL : Hid (∀ i, i ≤ n → (flatR (rs.take i)).length = 2 * i) := fun i hi => by rw [flatR_len, List.length_take]; omega
  have HPU : Hid (∀ (ws1 : List Int) (st1 : List St) (vs1 : Value) (q : Nat) (y : Int) w1, TG tb g vs1 ws1 st1 w1 → q < ws1.length → st1.length ≤ 1099511627776 → Calls Tryz.prog 139 #[.pointer (some ⟨tb, 0, none⟩), .int .i64 (q : Int), .int .u64 y] w1 fun e w' => e = .returned (.tuple #[]) ∧ ∃ vs', TG tb g vs' (ws1.set q y) (st1 ++ [⟨1, q, y⟩]) w' ∧ Fr (TurnedT tb g vs1) w1 w' ∧ Moved w1 vs1 vs') := fun ws1 st1 vs1 q y w1 h1 hq hl1 => tput_any tb g vs1 ws1 st1 q y w1 h1 hq hl1
  have HFU : Hid (∀ (ws1 : List Int) (st1 : List St) (vs1 : Value) w1, TG tb g vs1 ws1 st1 w1 → st1.length ≤ 1099511627776 → Calls Tryz.prog 138 #[.pointer (some ⟨tb, 0, none⟩)] w1 fun e w' => e = .returned (.tuple #[]) ∧ ∃ vs', TG tb g vs' ws1 (st1 ++ [⟨2, 0, 0⟩]) w' ∧ Fr (TurnedT tb g vs1) w1 w' ∧ Moved w1 vs1 vs') := fun ws1 st1 vs1 w1 h1 hl1 => tflush_any tb g vs1 ws1 st1 w1 h1 hl1
  have HWL : Hid (114 ≤ ws.length) := hL
  have HFIN : Hid (enterW ws rs = ((putsW ws (logPs (flatR rs) (2 * n))).set 9 (sumL ((n : Int) :: flatR rs))).set 8 (n : Int) ∧ st ++ enterSt rs = st ++ putsSt (logPs (flatR rs) (2 * n)) ++ [⟨1, ((9 : Nat) : Int), sumL ((n : Int) :: flatR rs)⟩] ++ [⟨2, 0, 0⟩] ++ [⟨1, ((8 : Nat) : Int), (n : Int)⟩] ++ [⟨2, 0, 0⟩]) := by
    rw [hn]
    exact ⟨rfl, by simp [enterSt, enterSum]⟩
  clear h hv hin hn hL
  go_enter Tryz.func104, Tryz.ntmps104
  go_wp2
  go_loopg [4, 15] n (fun gh v t wr => ∃ i : Nat, i ≤ n ∧ gh = n - i ∧ t = .int .i64 i ∧ wr.ownsRow w.heap.size 50 1 v (1 + 2 * i) (((n : Int) :: flatR (rs.take i)).map (Value.int .u64)) ∧ Fr New w wr)
  case atStart => exact ⟨0, by omega, rfl, rfl, hS0, (Fr.refl _ _).alloc _⟩
  case round =>
    clear hS0
    obtain ⟨i, hin, rfl, rfl, hO, hF⟩ := hrel
    by_cases hi : i < n
    · have hd0 : decide ((i : Int) < (n : Int)) = true := by simp; omega
      have hir : i < rs.length := by rw [← HN.out]; exact hi
      have ho := HV.out wr hF
      obtain ⟨gr, cr, hvv, _, hgr⟩ := ho.form (by omega)
      cases hvv
      obtain ⟨g1, g2⟩ := rsCells_get rs hir
      have hrl := rsCells_len rs
      have e0 : wr.cell? ⟨gr, i * 2, none⟩ = some (.int .i64 (rs[i]).1) := (ho.cellAt (i * 2) (by omega)).trans g1
      have e1 : wr.cell? ⟨gr, i * 2 + 1, none⟩ = some (.int .u64 (rs[i]).2) := (ho.cellAt (i * 2 + 1) (by omega)).trans g2
      have hTK : rs.take (i + 1) = rs.take i ++ [rs[i]] := List.take_succ_eq_append_getElem hir
      obtain ⟨hp0, hp1⟩ := HIN.out rs[i] (List.getElem_mem _)
      obtain ⟨q, hq⟩ := Int.eq_ofNat_of_zero_le hp0
      obtain ⟨y, hy⟩ : ∃ y, y = (rs[i]).2 := ⟨_, rfl⟩
      have HNX : Hid (((n : Int) :: flatR (rs.take (i + 1))).map (Value.int .u64) = ((n : Int) :: flatR (rs.take i)).map (Value.int .u64) ++ [.int .u64 (q : Int), .int .u64 y]) := by
        show _ = _
        rw [hTK, flatR_snoc, hq, hy]
        simp
      rw [hq] at e0 hp1
      rw [← hy] at e1
      have hwq : IntKind.u64.wrap (q : Int) = q := by rw [IntKind.wrap_u64]; omega
      have HSZ := hF.size
      obtain ⟨a4, c4, rfl⟩ := own_slice hO
      clear hq hy g1 g2 hrl hp0 ho hTK hir
      go_wp2_with (first
        | (at_builtin; refine wpList_append_own _ rfl (.tmp 19) (.tmp 25) 43 rfl w.heap.size 50 i0 (.int .u64 0) 1 8 Tryz.underlying43 hi0 hz0 hz1 hz2 rfl (by decide) _ _ _ rfl ((hO.alloc _).alloc _) ⟨wr.heap.size + 1, 0, none⟩ 2 2 [.int .u64 (q : Int), .int .u64 y] rfl rfl (World.news_of_block (new_at2 wr _ _)) (by intro u hu; simp at hu; rcases hu with rfl | rfl <;> rfl) (by unfold maxLen; omega) (by omega) (by simp; omega) ?_; intro v2 w2 ho2 hg2 _)
        | fail)
      have hO2 : w2.ownsRow w.heap.size 50 1 v2 (1 + 2 * (i + 1)) (((n : Int) :: flatR (rs.take (i + 1))).map (Value.int .u64)) := by
        rw [HNX.out]
        exact ho2
      have hF2 : Fr New w w2 := ((hF.alloc _).alloc _).grown hg2 (fun k hk hv => by have := (hO.lt k hv).1; omega)
      clear ho2 hg2
      go_roundg (n - (i + 1))
      case measure => omega
      case rel => exact ⟨i + 1, by omega, rfl, by go_num, hO2, hF2⟩
    · obtain rfl : i = n := by omega
      have hTA : rs.take i = rs := List.take_of_length_le (by rw [← HN.out]; exact Nat.le_refl _)
      rw [hTA] at hO
      have hfl : (flatR rs).length = 2 * i := by rw [flatR_len, ← HN.out]
      obtain ⟨gl, cl, hvv, hbl, hgl⟩ := hO.form (by omega)
      have hcap : 1 + 2 * i ≤ cl := by
        rcases hO.2 with ⟨h', h2⟩ | ⟨g', cap', cur', h', _, _, hc, _⟩
        · simp at h2
        · rw [hvv] at h'
          simp only [Value.slice.injEq, Option.some.injEq, Addr.mk.injEq, and_true, true_and] at h'
          omega
      have hcl1 : ¬ cl = 1 := by omega
      obtain ⟨ls, hls⟩ : ∃ ls, ls = flatR rs := ⟨_, rfl⟩
      rw [← hls] at hO hfl HFIN
      have hT0 := HH.out wr hF
      obtain ⟨wy, rfl⟩ : ∃ wy, wy = wr := ⟨wr, rfl⟩
      clear hi hin hTA hls HFL HIN HV
      subst hvv
      go_wp2
      have HLS : Hid (∀ vs1 ws1 st1 w1 w', TG tb g vs1 ws1 st1 w1 → Fr (TurnedT tb g vs1) w1 w' → Own w.heap.size w1 (.slice (some ⟨gl, 0, none⟩) (1 + 2 * i) cl) ((i : Int) :: ls) → Own w.heap.size w' (.slice (some ⟨gl, 0, none⟩) (1 + 2 * i) cl) ((i : Int) :: ls)) := fun vs1 ws1 st1 w1 w' h1 h2 h3 => own_kept h1 h2 h3 HG.out
      have hON : Own w.heap.size wy (.slice (some ⟨gl, 0, none⟩) (1 + 2 * i) cl) ((i : Int) :: ls) := by
        unfold Own
        rw [show ((i : Int) :: ls).length = 1 + 2 * i by simp [hfl]; omega]
        exact hO
      have HCE : Hid (∀ w1, Own w.heap.size w1 (.slice (some ⟨gl, 0, none⟩) (1 + 2 * i) cl) ((i : Int) :: ls) → w1.cell? ⟨gl, 0, none⟩ = some (.int .u64 (i : Int)) ∧ ∀ j, j < 2 * i → w1.cell? ⟨gl, 1 + j, none⟩ = some (.int .u64 (wd ls j))) := fun w1 ho => by
        have hll : ((i : Int) :: ls).length = 1 + 2 * i := by simp [hfl]; omega
        unfold Own at ho
        rw [hll] at ho
        have hc : ∀ k, k < 1 + 2 * i → w1.cell? ⟨gl, k, none⟩ = (((i : Int) :: ls).map (Value.int .u64))[k]? := fun k hk => ho.cellAt k (by omega)
        refine ⟨(hc 0 (by omega)).trans rfl, fun j hj => (hc (1 + j) (by omega)).trans ?_⟩
        rw [Nat.add_comm]
        simp [wd, show j < ls.length by omega]
      have HSM : Hid (∀ w1, Own w.heap.size w1 (.slice (some ⟨gl, 0, none⟩) (1 + 2 * i) cl) ((i : Int) :: ls) → Calls Tryz.prog 63 #[.slice (some ⟨gl, 0, none⟩) (1 + 2 * i) cl] w1 fun e w' => e = .returned (.int .u64 (sumL ((i : Int) :: ls))) ∧ w' = w1) := fun w1 ho => by
        obtain ⟨a', c', hv', hm', hr', _⟩ := own_row ho
        have hll : ((i : Int) :: ls).length = 1 + 2 * i := by simp [hfl]; omega
        rw [hll] at hv'
        cases hv'
        exact lsum_any _ _ _ ((i : Int) :: ls) w1 hll (by unfold maxLen; omega) hr'
      clear hO
      go_loopg [31] (2 * i) (fun gh t wr => ∃ (j : Nat) (vs1 : Value), j ≤ 2 * i ∧ gh = 2 * i - j ∧ t = .int .i64 j ∧ TG tb g vs1 (putsW ws (logPs ls j)) (st ++ putsSt (logPs ls j)) wr ∧ Fr (TurnedT tb g vs) w wr ∧ Moved w vs vs1 ∧ Own w.heap.size wr (.slice (some ⟨gl, 0, none⟩) (1 + 2 * i) cl) ((i : Int) :: ls))
      case atStart => exact ⟨0, vs, by omega, rfl, rfl, by simpa [putsW, putsSt, logPs] using hT0, hF.mono (fun _ _ h => h.elim), Moved.refl _ _, hON⟩
      case round =>
        clear hT0 hF hON hgl
        obtain ⟨j, vs1, hj2, rfl, rfl, hT, hF, hM, hO⟩ := hrel
        by_cases hj : j < 2 * i
        · have hdj : decide ((j : Int) < 2 * (i : Int)) = true := by simp; omega
          have e1 := (HCE.out wr hO).2 j hj
          have hsl : (st ++ putsSt (logPs ls j)).length ≤ 1099511627776 := by simp [putsSt, logPs]; omega
          have hql : 10 + j < (putsW ws (logPs ls j)).length := by rw [putsW_len]; have := HWL.out; omega
          have HPT : Hid (Calls Tryz.prog 139 #[.pointer (some ⟨tb, 0, none⟩), .int .i64 ((10 + j : Nat) : Int), .int .u64 (wd ls j)] wr fun e w' => e = .returned (.tuple #[]) ∧ ∃ vs', TG tb g vs' ((putsW ws (logPs ls j)).set (10 + j) (wd ls j)) (st ++ putsSt (logPs ls j) ++ [⟨1, ((10 + j : Nat) : Int), wd ls j⟩]) w' ∧ Fr (TurnedT tb g vs1) wr w' ∧ Moved wr vs1 vs') := HPU.out _ _ _ _ _ wr hT hql hsl
          have HNW : Hid (putsW ws (logPs ls (j + 1)) = (putsW ws (logPs ls j)).set (10 + j) (wd ls j) ∧ st ++ putsSt (logPs ls (j + 1)) = st ++ putsSt (logPs ls j) ++ [⟨1, ((10 + j : Nat) : Int), wd ls j⟩]) := by
            rw [logPs_succ, putsW_snoc, putsSt_snoc, ← List.append_assoc]
            exact ⟨by simp only [Int.toNat_natCast], rfl⟩
          have HKO : Hid (∀ w', Fr (TurnedT tb g vs1) wr w' → Own w.heap.size w' (.slice (some ⟨gl, 0, none⟩) (1 + 2 * i) cl) ((i : Int) :: ls)) := fun w' hf => HLS.out _ _ _ _ _ hT hf hO
          obtain ⟨y, hy⟩ : ∃ y, y = wd ls j := ⟨_, rfl⟩
          rw [← hy] at e1 HPT HNW
          clear hy hT hO hsl hql
          go_wp2_with (first
            | (go_at_call 139; refine HPT.out.mono ?_; rintro e w2 ⟨rfl, vs2, hT2, hf2, hm2⟩)
            | fail)
          go_roundg (2 * i - (j + 1))
          case measure => omega
          case rel => exact ⟨j + 1, vs2, by omega, rfl, by go_num, by rw [HNW.out.1, HNW.out.2]; exact hT2, turned_trans hF hM hf2, hM.trans hm2 hF.size, HKO.out w2 hf2⟩
        · obtain rfl : j = 2 * i := by omega
          have hdj : decide (((2 * i : Nat) : Int) < 2 * (i : Int)) = false := by simp
          have HS := HSM.out wr hO
          have HSX : Hid (Calls Tryz.prog 63 #[.slice (some ⟨gl, 0, none⟩) (1 + 2 * i) cl] wr fun e w' => e = .returned (.int .u64 (sumL ((i : Int) :: ls))) ∧ w' = wr) := HS
          have hlw := HWL.out
          have HP9 : Hid (Calls Tryz.prog 139 #[.pointer (some ⟨tb, 0, none⟩), .int .i64 ((9 : Nat) : Int), .int .u64 (sumL ((i : Int) :: ls))] wr fun e w' => e = .returned (.tuple #[]) ∧ ∃ vs', TG tb g vs' ((putsW ws (logPs ls (2 * i))).set 9 (sumL ((i : Int) :: ls))) (st ++ putsSt (logPs ls (2 * i)) ++ [⟨1, ((9 : Nat) : Int), sumL ((i : Int) :: ls)⟩]) w' ∧ Fr (TurnedT tb g vs1) wr w' ∧ Moved wr vs1 vs') := HPU.out _ _ _ 9 _ wr hT (by rw [putsW_len]; omega) (by simp [putsSt, logPs]; omega)
          obtain ⟨sm, hsm⟩ : ∃ sm, sm = sumL ((i : Int) :: ls) := ⟨_, rfl⟩
          rw [← hsm] at HSX HP9 HFIN
          have HKO : Hid (∀ w', Fr (TurnedT tb g vs1) wr w' → Own w.heap.size w' (.slice (some ⟨gl, 0, none⟩) (1 + 2 * i) cl) ((i : Int) :: ls)) := fun w' hf => HLS.out _ _ _ _ _ hT hf hO
          have HF1 : Hid (∀ vs2 w2, TG tb g vs2 ((putsW ws (logPs ls (2 * i))).set 9 sm) (st ++ putsSt (logPs ls (2 * i)) ++ [⟨1, ((9 : Nat) : Int), sm⟩]) w2 → Calls Tryz.prog 138 #[.pointer (some ⟨tb, 0, none⟩)] w2 fun e w' => e = .returned (.tuple #[]) ∧ ∃ vs', TG tb g vs' ((putsW ws (logPs ls (2 * i))).set 9 sm) (st ++ putsSt (logPs ls (2 * i)) ++ [⟨1, ((9 : Nat) : Int), sm⟩] ++ [⟨2, 0, 0⟩]) w' ∧ Fr (TurnedT tb g vs2) w2 w' ∧ Moved w2 vs2 vs') := fun vs2 w2 h2 => HFU.out _ _ vs2 w2 h2 (by simp [putsSt, logPs]; omega)
          have HP8 : Hid (∀ vs2 w2, TG tb g vs2 ((putsW ws (logPs ls (2 * i))).set 9 sm) (st ++ putsSt (logPs ls (2 * i)) ++ [⟨1, ((9 : Nat) : Int), sm⟩] ++ [⟨2, 0, 0⟩]) w2 → Calls Tryz.prog 139 #[.pointer (some ⟨tb, 0, none⟩), .int .i64 ((8 : Nat) : Int), .int .u64 (i : Int)] w2 fun e w' => e = .returned (.tuple #[]) ∧ ∃ vs', TG tb g vs' (((putsW ws (logPs ls (2 * i))).set 9 sm).set 8 (i : Int)) (st ++ putsSt (logPs ls (2 * i)) ++ [⟨1, ((9 : Nat) : Int), sm⟩] ++ [⟨2, 0, 0⟩] ++ [⟨1, ((8 : Nat) : Int), (i : Int)⟩]) w' ∧ Fr (TurnedT tb g vs2) w2 w' ∧ Moved w2 vs2 vs') := fun vs2 w2 h2 => HPU.out _ _ vs2 8 _ w2 h2 (by simp [putsW_len]; omega) (by simp [putsSt, logPs]; omega)
          have HF2 : Hid (∀ vs2 w2, TG tb g vs2 (((putsW ws (logPs ls (2 * i))).set 9 sm).set 8 (i : Int)) (st ++ putsSt (logPs ls (2 * i)) ++ [⟨1, ((9 : Nat) : Int), sm⟩] ++ [⟨2, 0, 0⟩] ++ [⟨1, ((8 : Nat) : Int), (i : Int)⟩]) w2 → Calls Tryz.prog 138 #[.pointer (some ⟨tb, 0, none⟩)] w2 fun e w' => e = .returned (.tuple #[]) ∧ ∃ vs', TG tb g vs' (enterW ws rs) (st ++ enterSt rs) w' ∧ Fr (TurnedT tb g vs2) w2 w' ∧ Moved w2 vs2 vs') := fun vs2 w2 h2 => by
            rw [HFIN.out.1, HFIN.out.2]
            exact HFU.out _ _ vs2 w2 h2 (by simp [putsSt, logPs]; omega)
          clear HS hT hO hsm HPU HFU HFIN
          go_wp2_with (first
            | (go_at_call 63; refine calls_same HSX.out ?_)
            | (go_at_call_of 139 sm; refine HP9.out.mono ?_; rintro e w2 ⟨rfl, vs2, hT2, hf2, hm2⟩; have hO2 := HKO.out w2 hf2)
            | (go_at_call 138; refine (HF1.out vs2 w2 hT2).mono ?_; rintro e w3 ⟨rfl, vs3, hT3, hf3, hm3⟩; have hO3 := HLS.out _ _ _ _ _ hT2 hf3 hO2; have hc0 := (HCE.out w3 hO3).1)
            | (go_at_call 139; refine (HP8.out vs3 w3 hT3).mono ?_; rintro e w4 ⟨rfl, vs4, hT4, hf4, hm4⟩)
            | (go_at_call 138; refine (HF2.out vs4 w4 hT4).mono ?_; rintro e w5 ⟨rfl, vs5, hT5, hf5, hm5⟩)
            | fail)
          go_end0
          have f2 := turned_trans hF hM hf2
          have m2 := hM.trans hm2 hF.size
          have f3 := turned_trans f2 m2 hf3
          have m3 := m2.trans hm3 f2.size
          have f4 := turned_trans f3 m3 hf4
          have m4 := m3.trans hm4 f3.size
          exact ⟨rfl, vs5, hT5, turned_trans f4 m4 hf5, m4.trans hm5 f4.size⟩
end Go.Proofs.YtbagcjlimdilpaaGreat
