/- Texts that follow one another, joined. -/
import Derived.Test.YtbagcjlimdilpaaGreatHhJ12
import Derived.Test.YtbagcjlimdilpaaGreatHhJ7
import Derived.Test.YtbagcjlimdilpaaGreatHhJ9
import Derived.Test.YtbagcjlimdilpaaGreatHhJ0
/- Walks of the program's Redo over a row that is told, and of carryOut. -/
namespace Go.Proofs.YtbagcjlimdilpaaGreat
open Go.RowKit Go.Maps

/-- records, as cells -/
def rsCells (rs : List (Int × Int)) : List Value := rs.flatMap (fun r => [.int .i64 r.1, .int .u64 r.2])
theorem rsCells_len (rs : List (Int × Int)) : (rsCells rs).length = rs.length * 2 := by
  induction rs with
  | nil => rfl
  | cons r rs ih => simp only [rsCells, List.flatMap_cons, List.length_append, List.length_cons, List.length_nil] at ih ⊢; omega
theorem rsCells_get (rs : List (Int × Int)) {i : Nat} (hi : i < rs.length) : (rsCells rs)[i * 2]? = some (.int .i64 (rs[i]).1) ∧ (rsCells rs)[i * 2 + 1]? = some (.int .u64 (rs[i]).2) := by
  induction rs generalizing i with
  | nil => simp at hi
  | cons r rs ih =>
    cases i with
    | zero => exact ⟨rfl, rfl⟩
    | succ i =>
      have := ih (i := i) (by simpa using hi)
      simp only [rsCells, List.flatMap_cons] at this ⊢
      rw [show (i + 1) * 2 = i * 2 + 1 + 1 by omega, show i * 2 + 1 + 1 + 1 = (i * 2 + 1) + 1 + 1 by omega]
      simpa using this
theorem rsCells_rec (ws : List Int) (n : Nat) : recCells ws n = rsCells ((List.range n).map (fun i => (wd ws (10 + 2 * i), wd ws (11 + 2 * i)))) := by
  simp [recCells, rsCells, List.flatMap_map]
abbrev OwnRs (base : Nat) (w : World) (v : Value) (rs : List (Int × Int)) : Prop := w.ownsRow base 199 2 v rs.length (rsCells rs)
/-- records that are put -/
def putsW (ws : List Int) (rs : List (Int × Int)) : List Int := rs.foldl (fun a r => a.set r.1.toNat r.2) ws
def putsSt (rs : List (Int × Int)) : List St := rs.map (fun r => ⟨1, r.1, r.2⟩)
theorem putsW_len (ws : List Int) (rs : List (Int × Int)) : (putsW ws rs).length = ws.length := by
  induction rs generalizing ws with
  | nil => rfl
  | cons r rs ih => simp only [putsW, List.foldl_cons] at ih ⊢; rw [ih]; simp
theorem putsW_snoc (ws : List Int) (rs : List (Int × Int)) (r : Int × Int) : putsW ws (rs ++ [r]) = (putsW ws rs).set r.1.toNat r.2 := by simp [putsW, List.foldl_append]
theorem putsSt_snoc (rs : List (Int × Int)) (r : Int × Int) : putsSt (rs ++ [r]) = putsSt rs ++ [⟨1, r.1, r.2⟩] := by simp [putsSt]
/-- where the stores lie: where they lay, or in a new block -/
def Moved (w : World) (vs vs' : Value) : Prop := vs'.ownBlock = vs.ownBlock ∨ ∀ k, vs'.ownBlock = some k → w.heap.size ≤ k
theorem Moved.refl (w : World) (vs : Value) : Moved w vs vs := .inl rfl
theorem Moved.trans {w w1 : World} {a b c : Value} (h : Moved w a b) (h1 : Moved w1 b c) (hs : w.heap.size ≤ w1.heap.size) : Moved w a c := by
  rcases h1 with h1 | h1
  · rcases h with h | h
    · exact .inl (h1.trans h)
    · exact .inr (fun k hk => h k (by rw [← h1]; exact hk))
  · exact .inr (fun k hk => Nat.le_trans hs (h1 k hk))
theorem turned_trans {tb g : Nat} {vs vs' : Value} {w w1 w2 : World} (h : Fr (TurnedT tb g vs) w w1) (hm : Moved w vs vs') (h1 : Fr (TurnedT tb g vs') w1 w2) : Fr (TurnedT tb g vs) w w2 :=
  h.trans h1 (fun j hj ht => by
    rcases ht with e | e | e
    · exact .inl e
    · exact .inr (.inl e)
    · rcases hm with hm | hm
      · exact .inr (.inr (hm ▸ e))
      · have := hm j e; omega)
/-- a row of records is not turned by stores -/
theorem recs_kept {tb g : Nat} {vs : Value} {ws : List Int} {st : List St} {w w' : World} {B : Nat} {v : Value} {rs : List (Int × Int)} (h : TG tb g vs ws st w) (hf : Fr (TurnedT tb g vs) w w') (ho : OwnRs B w v rs) : OwnRs B w' v rs :=
  hf.owns ho (fun k hk ht => by
    obtain ⟨_, c, hc⟩ := own_block ho hk
    rcases ht with e | e | e
    · exact type_ne hc h.t.td (by decide) e
    · exact type_ne hc h.t.wb (by decide) e
    · obtain ⟨_, c', hc'⟩ := own_block h.o e
      exact type_ne hc hc' (by decide) rfl)

set_option maxHeartbeats 1000000 in
set_option maxRecDepth 100000 in
theorem redo_told (tb g : Nat) (vs : Value) (ws : List Int) (st : List St) (B : Nat) (v : Value) (rs : List (Int × Int)) (w : World) (h : TG tb g vs ws st w) (hv : OwnRs B w v rs) (hin : ∀ r ∈ rs, 0 ≤ r.1 ∧ r.1 < ws.length) (hl : st.length + rs.length ≤ 1099511627776) :
    Calls Tryz.prog 109 #[.iface 97 (.pointer (some ⟨tb, 0, none⟩)), v] w fun e w' => e = .returned (.tuple #[]) ∧ ∃ vs', TG tb g vs' (putsW ws rs) (st ++ putsSt rs) w' ∧ Fr (TurnedT tb g vs) w w' ∧ Moved w vs vs' := by
  have hmp := meth_tput ⟨tb, 0, none⟩
  have HV : Hid (∀ w', Fr (TurnedT tb g vs) w w' → OwnRs B w' v rs) := fun w' hf => recs_kept h hf hv
  obtain ⟨a, c, rfl⟩ := own_slice hv
  have HIN : Hid (∀ r ∈ rs, 0 ≤ r.1 ∧ r.1 < ws.length) := hin
  have HLW : Hid (ws.length ≤ 1048576) := h.t.len
  clear hin hv
  go_enter Tryz.func109, Tryz.ntmps109
  go_wp2
  go_loopg [8] rs.length (fun gh t wr => ∃ (i : Nat) (vs' : Value), i ≤ rs.length ∧ gh = rs.length - i ∧ t = .int .i64 i ∧ TG tb g vs' (putsW ws (rs.take i)) (st ++ putsSt (rs.take i)) wr ∧ Fr (TurnedT tb g vs) w wr ∧ Moved w vs vs')
  case atStart => exact ⟨0, vs, by omega, rfl, rfl, by simpa [putsW, putsSt] using h, Fr.refl _ _, Moved.refl _ _⟩
  case round =>
    clear h
    obtain ⟨i, vs', hir, rfl, rfl, hT, hF, hMv⟩ := hrel
    by_cases hi : i < rs.length
    · have hd0 : decide ((i : Int) < (rs.length : Int)) = true := by simp; omega
      have ho := HV.out wr hF
      obtain ⟨gr, cr, hvv, _, hgr⟩ := ho.form (by omega)
      cases hvv
      obtain ⟨g1, g2⟩ := rsCells_get rs hi
      have hrl := rsCells_len rs
      have e0 : wr.cell? ⟨gr, i * 2, none⟩ = some (.int .i64 (rs[i]).1) := (ho.cellAt (i * 2) (by omega)).trans g1
      have e1 : wr.cell? ⟨gr, i * 2 + 1, none⟩ = some (.int .u64 (rs[i]).2) := (ho.cellAt (i * 2 + 1) (by omega)).trans g2
      have HTK : Hid (rs.take (i + 1) = rs.take i ++ [rs[i]]) := List.take_succ_eq_append_getElem hi
      obtain ⟨hp0, hp1⟩ := HIN.out rs[i] (List.getElem_mem _)
      obtain ⟨q, hq⟩ := Int.eq_ofNat_of_zero_le hp0
      obtain ⟨y, hy⟩ : ∃ y, y = (rs[i]).2 := ⟨_, rfl⟩
      have HRI : Hid (rs[i] = ((q : Int), y)) := by show _ = _; rw [← hq, hy]
      rw [hq] at e0 hp1
      rw [← hy] at e1
      have hql : q < (putsW ws (rs.take i)).length := by rw [putsW_len]; omega
      have hql2 : q ≤ 1048576 := by have := HLW.out; omega
      have hsl : (st ++ putsSt (rs.take i)).length ≤ 1099511627776 := by simp [putsSt]; omega
      have HPT : Hid (∀ w', Fr New wr w' → Calls Tryz.prog 139 #[.pointer (some ⟨tb, 0, none⟩), .int .i64 (q : Int), .int .u64 y] w' fun e w'' => e = .returned (.tuple #[]) ∧ ∃ vs2, TG tb g vs2 ((putsW ws (rs.take i)).set q y) ((st ++ putsSt (rs.take i)) ++ [⟨1, q, y⟩]) w'' ∧ Fr (TurnedT tb g vs') w' w'' ∧ Moved w' vs' vs2) := fun w' hf => tput_any tb g vs' _ _ q y w' (hT.new hf) hql hsl
      clear hq hy g1 g2 hrl hp0 hp1 ho hsl hql
      go_wp2_with (first
        | (go_at_call 139; refine (HPT.out _ ((Fr.refl _ _).alloc _)).mono ?_; rintro e w2 ⟨rfl, vs2, hT2, hf2, hm2⟩)
        | fail)
      have hfa : Fr (TurnedT tb g vs) w (wr.alloc (.cells #[.int .i64 (q : Int), .int .u64 y] 199)) := hF.alloc _
      go_roundg (rs.length - (i + 1))
      case measure => omega
      case rel =>
        refine ⟨i + 1, vs2, by omega, rfl, by go_num, ?_, turned_trans hfa hMv hf2, hMv.trans hm2 hfa.size⟩
        rw [HTK.out, HRI.out, putsW_snoc, putsSt_snoc, ← List.append_assoc]
        exact hT2
    · obtain rfl : i = rs.length := by omega
      rw [List.take_of_length_le (Nat.le_refl _)] at hT
      go_wp2
      go_end0
      exact ⟨rfl, vs', hT, hF, hMv⟩
/-- what carryOut makes of words and stores -/
def carryW (ws : List Int) (rs : List (Int × Int)) : List Int := (putsW ws rs).set 8 0
def carrySt (rs : List (Int × Int)) : List St := putsSt rs ++ [⟨2, 0, 0⟩, ⟨1, 8, 0⟩, ⟨2, 0, 0⟩]
set_option maxRecDepth 100000 in
theorem carry_told (tb g : Nat) (vs : Value) (ws : List Int) (st : List St) (B : Nat) (v : Value) (rs : List (Int × Int)) (w : World) (h : TG tb g vs ws st w) (hv : OwnRs B w v rs) (hin : ∀ r ∈ rs, 0 ≤ r.1 ∧ r.1 < ws.length) (h8 : 8 < ws.length) (hl : st.length + rs.length + 3 ≤ 1099511627776) :
    Calls Tryz.prog 97 #[.pointer (some ⟨tb, 0, none⟩), v] w fun e w' => e = .returned (.tuple #[]) ∧ ∃ vs', TG tb g vs' (carryW ws rs) (st ++ carrySt rs) w' ∧ Fr (TurnedT tb g vs) w w' ∧ Moved w vs vs' := by
  have HR : Hid (Calls Tryz.prog 109 #[.iface 97 (.pointer (some ⟨tb, 0, none⟩)), v] w fun e w' => e = .returned (.tuple #[]) ∧ ∃ vs', TG tb g vs' (putsW ws rs) (st ++ putsSt rs) w' ∧ Fr (TurnedT tb g vs) w w' ∧ Moved w vs vs') := redo_told tb g vs ws st B v rs w h hv hin (by omega)
  have HF1 : Hid (∀ vs1 w1, TG tb g vs1 (putsW ws rs) (st ++ putsSt rs) w1 → Calls Tryz.prog 138 #[.pointer (some ⟨tb, 0, none⟩)] w1 fun e w' => e = .returned (.tuple #[]) ∧ ∃ vs', TG tb g vs' (putsW ws rs) (st ++ putsSt rs ++ [⟨2, 0, 0⟩]) w' ∧ Fr (TurnedT tb g vs1) w1 w' ∧ Moved w1 vs1 vs') := fun vs1 w1 h1 => tflush_any tb g vs1 _ _ w1 h1 (by simp [putsSt]; omega)
  have HP : Hid (∀ vs1 w1, TG tb g vs1 (putsW ws rs) (st ++ putsSt rs ++ [⟨2, 0, 0⟩]) w1 → Calls Tryz.prog 139 #[.pointer (some ⟨tb, 0, none⟩), .int .i64 ((8 : Nat) : Int), .int .u64 0] w1 fun e w' => e = .returned (.tuple #[]) ∧ ∃ vs', TG tb g vs' (carryW ws rs) (st ++ putsSt rs ++ [⟨2, 0, 0⟩] ++ [⟨1, ((8 : Nat) : Int), 0⟩]) w' ∧ Fr (TurnedT tb g vs1) w1 w' ∧ Moved w1 vs1 vs') := fun vs1 w1 h1 => tput_any tb g vs1 _ _ 8 0 w1 h1 (by rw [putsW_len]; exact h8) (by simp [putsSt]; omega)
  have HF2 : Hid (∀ vs1 w1, TG tb g vs1 (carryW ws rs) (st ++ putsSt rs ++ [⟨2, 0, 0⟩] ++ [⟨1, ((8 : Nat) : Int), 0⟩]) w1 → Calls Tryz.prog 138 #[.pointer (some ⟨tb, 0, none⟩)] w1 fun e w' => e = .returned (.tuple #[]) ∧ ∃ vs', TG tb g vs' (carryW ws rs) (st ++ carrySt rs) w' ∧ Fr (TurnedT tb g vs1) w1 w' ∧ Moved w1 vs1 vs') := fun vs1 w1 h1 => by
    have := tflush_any tb g vs1 _ _ w1 h1 (by simp [putsSt]; omega)
    rw [show st ++ putsSt rs ++ [⟨2, 0, 0⟩] ++ [⟨1, ((8 : Nat) : Int), 0⟩] ++ [⟨2, 0, 0⟩] = st ++ carrySt rs by simp [carrySt]] at this
    exact this
  obtain ⟨a, c, rfl⟩ := own_slice hv
  clear h hv hin hl
  go_enter Tryz.func97, Tryz.ntmps97
  go_wp2_with (first
    | (go_at_call 109; refine HR.out.mono ?_; rintro e w1 ⟨rfl, vs1, hT1, hf1, hm1⟩)
    | (go_at_call 138; refine (HF1.out vs1 w1 hT1).mono ?_; rintro e w2 ⟨rfl, vs2, hT2, hf2, hm2⟩)
    | (go_at_call 139; refine (HP.out vs2 w2 hT2).mono ?_; rintro e w3 ⟨rfl, vs3, hT3, hf3, hm3⟩)
    | (go_at_call 138; refine (HF2.out vs3 w3 hT3).mono ?_; rintro e w4 ⟨rfl, vs4, hT4, hf4, hm4⟩))
  go_end0
  have f2 := turned_trans hf1 hm1 hf2
  have m2 := hm1.trans hm2 hf1.size
  have f3 := turned_trans f2 m2 hf3
  have m3 := m2.trans hm3 f2.size
  exact ⟨rfl, vs4, hT4, turned_trans f3 m3 hf4, m3.trans hm4 f3.size⟩
end Go.Proofs.YtbagcjlimdilpaaGreat
/- The walk of the program's enter: records go into the log. -/
namespace Go.Proofs.YtbagcjlimdilpaaGreat
open Go.RowKit Go.Maps

/-- records as words of the log -/
def flatR (rs : List (Int × Int)) : List Int := rs.flatMap (fun r => [r.1, r.2])
theorem flatR_len (rs : List (Int × Int)) : (flatR rs).length = 2 * rs.length := by
  induction rs with
  | nil => rfl
  | cons r rs ih => simp only [flatR, List.flatMap_cons, List.length_append, List.length_cons, List.length_nil] at ih ⊢; omega
theorem flatR_snoc (rs : List (Int × Int)) (r : Int × Int) : flatR (rs ++ [r]) = flatR rs ++ [r.1, r.2] := by simp [flatR]
/-- words that are put into the log, one by one -/
def logPs (ls : List Int) (i : Nat) : List (Int × Int) := (List.range i).map (fun j => (((10 + j : Nat) : Int), wd ls j))
theorem logPs_succ (ls : List Int) (i : Nat) : logPs ls (i + 1) = logPs ls i ++ [(((10 + i : Nat) : Int), wd ls i)] := by simp [logPs, List.range_succ]
theorem logPs_len (ls : List Int) (i : Nat) : (logPs ls i).length = i := by simp [logPs]
def enterSum (rs : List (Int × Int)) : Int := sumL ((rs.length : Int) :: flatR rs)
def enterW (ws : List Int) (rs : List (Int × Int)) : List Int := ((putsW ws (logPs (flatR rs) (2 * rs.length))).set 9 (enterSum rs)).set 8 (rs.length : Int)
def enterSt (rs : List (Int × Int)) : List St := putsSt (logPs (flatR rs) (2 * rs.length)) ++ [⟨1, 9, enterSum rs⟩, ⟨2, 0, 0⟩, ⟨1, 8, (rs.length : Int)⟩, ⟨2, 0, 0⟩]
theorem enterW_len (ws : List Int) (rs : List (Int × Int)) : (enterW ws rs).length = ws.length := by simp [enterW, putsW_len]
/-- a list of words of one's own is not turned by stores of a row that lies below -/
theorem own_kept {tb g : Nat} {vs : Value} {ws : List Int} {st : List St} {w w' : World} {B : Nat} {v : Value} {zs : List Int} (h : TG tb g vs ws st w) (hf : Fr (TurnedT tb g vs) w w') (ho : Own B w v zs) (hg : g < B) : Own B w' v zs :=
  hf.owns ho (fun k hk ht => by
    obtain ⟨hk1, c, hc⟩ := own_block ho hk
    rcases ht with e | e | e
    · exact type_ne hc h.t.td (by decide) e
    · omega
    · obtain ⟨_, c', hc'⟩ := own_block h.o e
      exact type_ne hc hc' (by decide) rfl)

set_option maxHeartbeats 2000000 in
set_option maxRecDepth 100000 in
theorem enter_told (tb g : Nat) (vs : Value) (ws : List Int) (st : List St) (B : Nat) (v : Value) (rs : List (Int × Int)) (w : World) (h : TG tb g vs ws st w) (hv : OwnRs B w v rs) (hin : ∀ r ∈ rs, 0 ≤ r.1 ∧ r.1 < 1048576) (h1n : 1 ≤ rs.length) (h48 : rs.length ≤ 48) (hL : 114 ≤ ws.length) (hl : st.length + 2 * rs.length + 4 ≤ 1099511627776) :
    Calls Tryz.prog 104 #[.pointer (some ⟨tb, 0, none⟩), v] w fun e w' => e = .returned (.tuple #[]) ∧ ∃ vs', TG tb g vs' (enterW ws rs) (st ++ enterSt rs) w' ∧ Fr (TurnedT tb g vs) w w' ∧ Moved w vs vs' := by
  obtain ⟨i0, hi0, hz0, hz1, hz2⟩ := info_parts Tryz.info50
  have HV : Hid (∀ w', Fr New w w' → OwnRs B w' v rs) := fun w' hf => hf.owns hv (fun _ _ h => h)
  have HH : Hid (∀ w', Fr New w w' → TG tb g vs ws st w') := fun w' hf => h.new hf
  have HIN : Hid (∀ r ∈ rs, 0 ≤ r.1 ∧ r.1 < 1048576) := hin
  have HG : Hid (g < w.heap.size) := lt_of_block h.t.wb
  obtain ⟨n, hn⟩ : ∃ n, n = rs.length := ⟨_, rfl⟩
  have HN : Hid (n = rs.length) := hn
  obtain ⟨a, c, rfl⟩ := own_slice hv
  rw [← hn] at h48 hl h1n
  rw [← hn]
  have hwn : IntKind.u64.wrap (n : Int) = n := by rw [IntKind.wrap_u64]; omega
  have hS0 : Own w.heap.size (w.alloc (.cells #[.int .u64 (n : Int)] 50)) (.slice (some ⟨w.heap.size, 0, none⟩) 1 1) ((n : Int) :: flatR (rs.take 0)) := by
    rw [List.take_zero]
    exact World.ownsRow_lit w #[.int .u64 (n : Int)] 1 (Nat.le_refl _) (by decide) rfl
  have HFL : Hid (∀ i, i ≤ n → (flatR (rs.take i)).length = 2 * i) := fun i hi => by rw [flatR_len, List.length_take]; omega
  have HPU : Hid (∀ (ws1 : List Int) (st1 : List St) (vs1 : Value) (q : Nat) (y : Int) w1, TG tb g vs1 ws1 st1 w1 → q < ws1.length → st1.length ≤ 1099511627776 → Calls Tryz.prog 139 #[.pointer (some ⟨tb, 0, none⟩), .int .i64 (q : Int), .int .u64 y] w1 fun e w' => e = .returned (.tuple #[]) ∧ ∃ vs', TG tb g vs' (ws1.set q y) (st1 ++ [⟨1, q, y⟩]) w' ∧ Fr (TurnedT tb g vs1) w1 w' ∧ Moved w1 vs1 vs') := fun ws1 st1 vs1 q y w1 h1 hq hl1 => tput_any tb g vs1 ws1 st1 q y w1 h1 hq hl1
  have HFU : Hid (∀ (ws1 : List Int) (st1 : List St) (vs1 : Value) w1, TG tb g vs1 ws1 st1 w1 → st1.length ≤ 1099511627776 → Calls Tryz.prog 138 #[.pointer (some ⟨tb, 0, none⟩)] w1 fun e w' => e = .returned (.tuple #[]) ∧ ∃ vs', TG tb g vs' ws1 (st1 ++ [⟨2, 0, 0⟩]) w' ∧ Fr (TurnedT tb g vs1) w1 w' ∧ Moved w1 vs1 vs') := fun ws1 st1 vs1 w1 h1 hl1 => tflush_any tb g vs1 ws1 st1 w1 h1 hl1
  have HWL : Hid (114 ≤ ws.length) := hL
  have HFIN : Hid (enterW ws rs = ((putsW ws (logPs (flatR rs) (2 * n))).set 9 (sumL ((n : Int) :: flatR rs))).set 8 (n : Int) ∧ st ++ enterSt rs = st ++ putsSt (logPs (flatR rs) (2 * n)) ++ [⟨1, ((9 : Nat) : Int), sumL ((n : Int) :: flatR rs)⟩] ++ [⟨2, 0, 0⟩] ++ [⟨1, ((8 : Nat) : Int), (n : Int)⟩] ++ [⟨2, 0, 0⟩]) := by
    rw [hn]
    exact ⟨rfl, by simp [enterSt, enterSum]⟩
  clear h hv hin hn hL
  go_enter Tryz.func104, Tryz.ntmps104
  go_wp2
  go_loopg [4, 15] n (fun gh v t wr => ∃ i : Nat, i ≤ n ∧ gh = n - i ∧ t = .int .i64 i ∧ wr.ownsRow w.heap.size 50 1 v (1 + 2 * i) (((n : Int) :: flatR (rs.take i)).map (Value.int .u64)) ∧ Fr New w wr)
  case atStart => exact ⟨0, by omega, rfl, rfl, hS0, (Fr.refl _ _).alloc _⟩
  case round =>
    clear hS0
    obtain ⟨i, hin, rfl, rfl, hO, hF⟩ := hrel
    by_cases hi : i < n
    · have hd0 : decide ((i : Int) < (n : Int)) = true := by simp; omega
      have hir : i < rs.length := by rw [← HN.out]; exact hi
      have ho := HV.out wr hF
      obtain ⟨gr, cr, hvv, _, hgr⟩ := ho.form (by omega)
      cases hvv
      obtain ⟨g1, g2⟩ := rsCells_get rs hir
      have hrl := rsCells_len rs
      have e0 : wr.cell? ⟨gr, i * 2, none⟩ = some (.int .i64 (rs[i]).1) := (ho.cellAt (i * 2) (by omega)).trans g1
      have e1 : wr.cell? ⟨gr, i * 2 + 1, none⟩ = some (.int .u64 (rs[i]).2) := (ho.cellAt (i * 2 + 1) (by omega)).trans g2
      have hTK : rs.take (i + 1) = rs.take i ++ [rs[i]] := List.take_succ_eq_append_getElem hir
      obtain ⟨hp0, hp1⟩ := HIN.out rs[i] (List.getElem_mem _)
      obtain ⟨q, hq⟩ := Int.eq_ofNat_of_zero_le hp0
      obtain ⟨y, hy⟩ : ∃ y, y = (rs[i]).2 := ⟨_, rfl⟩
      have HNX : Hid (((n : Int) :: flatR (rs.take (i + 1))).map (Value.int .u64) = ((n : Int) :: flatR (rs.take i)).map (Value.int .u64) ++ [.int .u64 (q : Int), .int .u64 y]) := by
        show _ = _
        rw [hTK, flatR_snoc, hq, hy]
        simp
      rw [hq] at e0 hp1
      rw [← hy] at e1
      have hwq : IntKind.u64.wrap (q : Int) = q := by rw [IntKind.wrap_u64]; omega
      have HSZ := hF.size
      obtain ⟨a4, c4, rfl⟩ := own_slice hO
      clear hq hy g1 g2 hrl hp0 ho hTK hir
      go_wp2_with (first
        | (at_builtin; refine wpList_append_own _ rfl (.tmp 19) (.tmp 25) 43 rfl w.heap.size 50 i0 (.int .u64 0) 1 8 Tryz.underlying43 hi0 hz0 hz1 hz2 rfl (by decide) _ _ _ rfl ((hO.alloc _).alloc _) ⟨wr.heap.size + 1, 0, none⟩ 2 2 [.int .u64 (q : Int), .int .u64 y] rfl rfl (World.news_of_block (new_at2 wr _ _)) (by intro u hu; simp at hu; rcases hu with rfl | rfl <;> rfl) (by unfold maxLen; omega) (by omega) (by simp; omega) ?_; intro v2 w2 ho2 hg2 _)
        | fail)
      have hO2 : w2.ownsRow w.heap.size 50 1 v2 (1 + 2 * (i + 1)) (((n : Int) :: flatR (rs.take (i + 1))).map (Value.int .u64)) := by
        rw [HNX.out]
        exact ho2
      have hF2 : Fr New w w2 := ((hF.alloc _).alloc _).grown hg2 (fun k hk hv => by have := (hO.lt k hv).1; omega)
      clear ho2 hg2
      go_roundg (n - (i + 1))
      case measure => omega
      case rel => exact ⟨i + 1, by omega, rfl, by go_num, hO2, hF2⟩
    · obtain rfl : i = n := by omega
      have hTA : rs.take i = rs := List.take_of_length_le (by rw [← HN.out]; exact Nat.le_refl _)
      rw [hTA] at hO
      have hfl : (flatR rs).length = 2 * i := by rw [flatR_len, ← HN.out]
      obtain ⟨gl, cl, hvv, hbl, hgl⟩ := hO.form (by omega)
      have hcap : 1 + 2 * i ≤ cl := by
        rcases hO.2 with ⟨h', h2⟩ | ⟨g', cap', cur', h', _, _, hc, _⟩
        · simp at h2
        · rw [hvv] at h'
          simp only [Value.slice.injEq, Option.some.injEq, Addr.mk.injEq, and_true, true_and] at h'
          omega
      have hcl1 : ¬ cl = 1 := by omega
      obtain ⟨ls, hls⟩ : ∃ ls, ls = flatR rs := ⟨_, rfl⟩
      rw [← hls] at hO hfl HFIN
      have hT0 := HH.out wr hF
      obtain ⟨wy, rfl⟩ : ∃ wy, wy = wr := ⟨wr, rfl⟩
      clear hi hin hTA hls HFL HIN HV
      subst hvv
      go_wp2
      have HLS : Hid (∀ vs1 ws1 st1 w1 w', TG tb g vs1 ws1 st1 w1 → Fr (TurnedT tb g vs1) w1 w' → Own w.heap.size w1 (.slice (some ⟨gl, 0, none⟩) (1 + 2 * i) cl) ((i : Int) :: ls) → Own w.heap.size w' (.slice (some ⟨gl, 0, none⟩) (1 + 2 * i) cl) ((i : Int) :: ls)) := fun vs1 ws1 st1 w1 w' h1 h2 h3 => own_kept h1 h2 h3 HG.out
      have hON : Own w.heap.size wy (.slice (some ⟨gl, 0, none⟩) (1 + 2 * i) cl) ((i : Int) :: ls) := by
        unfold Own
        rw [show ((i : Int) :: ls).length = 1 + 2 * i by simp [hfl]; omega]
        exact hO
      have HCE : Hid (∀ w1, Own w.heap.size w1 (.slice (some ⟨gl, 0, none⟩) (1 + 2 * i) cl) ((i : Int) :: ls) → w1.cell? ⟨gl, 0, none⟩ = some (.int .u64 (i : Int)) ∧ ∀ j, j < 2 * i → w1.cell? ⟨gl, 1 + j, none⟩ = some (.int .u64 (wd ls j))) := fun w1 ho => by
        have hll : ((i : Int) :: ls).length = 1 + 2 * i := by simp [hfl]; omega
        unfold Own at ho
        rw [hll] at ho
        have hc : ∀ k, k < 1 + 2 * i → w1.cell? ⟨gl, k, none⟩ = (((i : Int) :: ls).map (Value.int .u64))[k]? := fun k hk => ho.cellAt k (by omega)
        refine ⟨(hc 0 (by omega)).trans rfl, fun j hj => (hc (1 + j) (by omega)).trans ?_⟩
        rw [Nat.add_comm]
        simp [wd, show j < ls.length by omega]
      have HSM : Hid (∀ w1, Own w.heap.size w1 (.slice (some ⟨gl, 0, none⟩) (1 + 2 * i) cl) ((i : Int) :: ls) → Calls Tryz.prog 63 #[.slice (some ⟨gl, 0, none⟩) (1 + 2 * i) cl] w1 fun e w' => e = .returned (.int .u64 (sumL ((i : Int) :: ls))) ∧ w' = w1) := fun w1 ho => by
        obtain ⟨a', c', hv', hm', hr', _⟩ := own_row ho
        have hll : ((i : Int) :: ls).length = 1 + 2 * i := by simp [hfl]; omega
        rw [hll] at hv'
        cases hv'
        exact lsum_any _ _ _ ((i : Int) :: ls) w1 hll (by unfold maxLen; omega) hr'
      clear hO
      go_loopg [31] (2 * i) (fun gh t wr => ∃ (j : Nat) (vs1 : Value), j ≤ 2 * i ∧ gh = 2 * i - j ∧ t = .int .i64 j ∧ TG tb g vs1 (putsW ws (logPs ls j)) (st ++ putsSt (logPs ls j)) wr ∧ Fr (TurnedT tb g vs) w wr ∧ Moved w vs vs1 ∧ Own w.heap.size wr (.slice (some ⟨gl, 0, none⟩) (1 + 2 * i) cl) ((i : Int) :: ls))
      case atStart => exact ⟨0, vs, by omega, rfl, rfl, by simpa [putsW, putsSt, logPs] using hT0, hF.mono (fun _ _ h => h.elim), Moved.refl _ _, hON⟩
      case round =>
        clear hT0 hF hON hgl
        obtain ⟨j, vs1, hj2, rfl, rfl, hT, hF, hM, hO⟩ := hrel
        by_cases hj : j < 2 * i
        · have hdj : decide ((j : Int) < 2 * (i : Int)) = true := by simp; omega
          have e1 := (HCE.out wr hO).2 j hj
          have hsl : (st ++ putsSt (logPs ls j)).length ≤ 1099511627776 := by simp [putsSt, logPs]; omega
          have hql : 10 + j < (putsW ws (logPs ls j)).length := by rw [putsW_len]; have := HWL.out; omega
          have HPT : Hid (Calls Tryz.prog 139 #[.pointer (some ⟨tb, 0, none⟩), .int .i64 ((10 + j : Nat) : Int), .int .u64 (wd ls j)] wr fun e w' => e = .returned (.tuple #[]) ∧ ∃ vs', TG tb g vs' ((putsW ws (logPs ls j)).set (10 + j) (wd ls j)) (st ++ putsSt (logPs ls j) ++ [⟨1, ((10 + j : Nat) : Int), wd ls j⟩]) w' ∧ Fr (TurnedT tb g vs1) wr w' ∧ Moved wr vs1 vs') := HPU.out _ _ _ _ _ wr hT hql hsl
          have HNW : Hid (putsW ws (logPs ls (j + 1)) = (putsW ws (logPs ls j)).set (10 + j) (wd ls j) ∧ st ++ putsSt (logPs ls (j + 1)) = st ++ putsSt (logPs ls j) ++ [⟨1, ((10 + j : Nat) : Int), wd ls j⟩]) := by
            rw [logPs_succ, putsW_snoc, putsSt_snoc, ← List.append_assoc]
            exact ⟨by simp only [Int.toNat_natCast], rfl⟩
          have HKO : Hid (∀ w', Fr (TurnedT tb g vs1) wr w' → Own w.heap.size w' (.slice (some ⟨gl, 0, none⟩) (1 + 2 * i) cl) ((i : Int) :: ls)) := fun w' hf => HLS.out _ _ _ _ _ hT hf hO
          obtain ⟨y, hy⟩ : ∃ y, y = wd ls j := ⟨_, rfl⟩
          rw [← hy] at e1 HPT HNW
          clear hy hT hO hsl hql
          go_wp2_with (first
            | (go_at_call 139; refine HPT.out.mono ?_; rintro e w2 ⟨rfl, vs2, hT2, hf2, hm2⟩)
            | fail)
          go_roundg (2 * i - (j + 1))
          case measure => omega
          case rel => exact ⟨j + 1, vs2, by omega, rfl, by go_num, by rw [HNW.out.1, HNW.out.2]; exact hT2, turned_trans hF hM hf2, hM.trans hm2 hF.size, HKO.out w2 hf2⟩
        · obtain rfl : j = 2 * i := by omega
          have hdj : decide (((2 * i : Nat) : Int) < 2 * (i : Int)) = false := by simp
          have HS := HSM.out wr hO
          have HSX : Hid (Calls Tryz.prog 63 #[.slice (some ⟨gl, 0, none⟩) (1 + 2 * i) cl] wr fun e w' => e = .returned (.int .u64 (sumL ((i : Int) :: ls))) ∧ w' = wr) := HS
          have hlw := HWL.out
          have HP9 : Hid (Calls Tryz.prog 139 #[.pointer (some ⟨tb, 0, none⟩), .int .i64 ((9 : Nat) : Int), .int .u64 (sumL ((i : Int) :: ls))] wr fun e w' => e = .returned (.tuple #[]) ∧ ∃ vs', TG tb g vs' ((putsW ws (logPs ls (2 * i))).set 9 (sumL ((i : Int) :: ls))) (st ++ putsSt (logPs ls (2 * i)) ++ [⟨1, ((9 : Nat) : Int), sumL ((i : Int) :: ls)⟩]) w' ∧ Fr (TurnedT tb g vs1) wr w' ∧ Moved wr vs1 vs') := HPU.out _ _ _ 9 _ wr hT (by rw [putsW_len]; omega) (by simp [putsSt, logPs]; omega)
          obtain ⟨sm, hsm⟩ : ∃ sm, sm = sumL ((i : Int) :: ls) := ⟨_, rfl⟩
          rw [← hsm] at HSX HP9 HFIN
          have HKO : Hid (∀ w', Fr (TurnedT tb g vs1) wr w' → Own w.heap.size w' (.slice (some ⟨gl, 0, none⟩) (1 + 2 * i) cl) ((i : Int) :: ls)) := fun w' hf => HLS.out _ _ _ _ _ hT hf hO
          have HF1 : Hid (∀ vs2 w2, TG tb g vs2 ((putsW ws (logPs ls (2 * i))).set 9 sm) (st ++ putsSt (logPs ls (2 * i)) ++ [⟨1, ((9 : Nat) : Int), sm⟩]) w2 → Calls Tryz.prog 138 #[.pointer (some ⟨tb, 0, none⟩)] w2 fun e w' => e = .returned (.tuple #[]) ∧ ∃ vs', TG tb g vs' ((putsW ws (logPs ls (2 * i))).set 9 sm) (st ++ putsSt (logPs ls (2 * i)) ++ [⟨1, ((9 : Nat) : Int), sm⟩] ++ [⟨2, 0, 0⟩]) w' ∧ Fr (TurnedT tb g vs2) w2 w' ∧ Moved w2 vs2 vs') := fun vs2 w2 h2 => HFU.out _ _ vs2 w2 h2 (by simp [putsSt, logPs]; omega)
          have HP8 : Hid (∀ vs2 w2, TG tb g vs2 ((putsW ws (logPs ls (2 * i))).set 9 sm) (st ++ putsSt (logPs ls (2 * i)) ++ [⟨1, ((9 : Nat) : Int), sm⟩] ++ [⟨2, 0, 0⟩]) w2 → Calls Tryz.prog 139 #[.pointer (some ⟨tb, 0, none⟩), .int .i64 ((8 : Nat) : Int), .int .u64 (i : Int)] w2 fun e w' => e = .returned (.tuple #[]) ∧ ∃ vs', TG tb g vs' (((putsW ws (logPs ls (2 * i))).set 9 sm).set 8 (i : Int)) (st ++ putsSt (logPs ls (2 * i)) ++ [⟨1, ((9 : Nat) : Int), sm⟩] ++ [⟨2, 0, 0⟩] ++ [⟨1, ((8 : Nat) : Int), (i : Int)⟩]) w' ∧ Fr (TurnedT tb g vs2) w2 w' ∧ Moved w2 vs2 vs') := fun vs2 w2 h2 => HPU.out _ _ vs2 8 _ w2 h2 (by simp [putsW_len]; omega) (by simp [putsSt, logPs]; omega)
          have HF2 : Hid (∀ vs2 w2, TG tb g vs2 (((putsW ws (logPs ls (2 * i))).set 9 sm).set 8 (i : Int)) (st ++ putsSt (logPs ls (2 * i)) ++ [⟨1, ((9 : Nat) : Int), sm⟩] ++ [⟨2, 0, 0⟩] ++ [⟨1, ((8 : Nat) : Int), (i : Int)⟩]) w2 → Calls Tryz.prog 138 #[.pointer (some ⟨tb, 0, none⟩)] w2 fun e w' => e = .returned (.tuple #[]) ∧ ∃ vs', TG tb g vs' (enterW ws rs) (st ++ enterSt rs) w' ∧ Fr (TurnedT tb g vs2) w2 w' ∧ Moved w2 vs2 vs') := fun vs2 w2 h2 => by
            rw [HFIN.out.1, HFIN.out.2]
            exact HFU.out _ _ vs2 w2 h2 (by simp [putsSt, logPs]; omega)
          clear HS hT hO hsm HPU HFU HFIN
          go_wp2_with (first
            | (go_at_call 63; refine calls_same HSX.out ?_)
            | (go_at_call_of 139 sm; refine HP9.out.mono ?_; rintro e w2 ⟨rfl, vs2, hT2, hf2, hm2⟩; have hO2 := HKO.out w2 hf2)
            | (go_at_call 138; refine (HF1.out vs2 w2 hT2).mono ?_; rintro e w3 ⟨rfl, vs3, hT3, hf3, hm3⟩; have hO3 := HLS.out _ _ _ _ _ hT2 hf3 hO2; have hc0 := (HCE.out w3 hO3).1)
            | (go_at_call 139; refine (HP8.out vs3 w3 hT3).mono ?_; rintro e w4 ⟨rfl, vs4, hT4, hf4, hm4⟩)
            | (go_at_call 138; refine (HF2.out vs4 w4 hT4).mono ?_; rintro e w5 ⟨rfl, vs5, hT5, hf5, hm5⟩)
            | fail)
          go_end0
          have f2 := turned_trans hF hM hf2
          have m2 := hM.trans hm2 hF.size
          have f3 := turned_trans f2 m2 hf3
          have m3 := m2.trans hm3 f2.size
          have f4 := turned_trans f3 m3 hf4
          have m4 := m3.trans hm4 f3.size
          exact ⟨rfl, vs5, hT5, turned_trans f4 m4 hf5, m4.trans hm5 f4.size⟩
end Go.Proofs.YtbagcjlimdilpaaGreat
/- Walks of the program's Header, Room's closure, Walk with it, Room. -/
namespace Go.Proofs.YtbagcjlimdilpaaGreat
open Go.RowKit Go.Maps

theorem header_any (s p : Nat) (w : World) (hs : s ≤ 4) (hp : p ≤ 32) : Calls Tryz.prog 117 #[.int .i64 (s : Int), .int .i64 (p : Int)] w fun e w' => e = .returned (.int .u64 (1000000 + 100 * (s : Int) + p)) ∧ w' = w := by
  have hw : IntKind.u64.wrap (1000000 + 100 * (s : Int) + p) = 1000000 + 100 * (s : Int) + p := by rw [IntKind.wrap_u64]; omega
  go_enter Tryz.func117, Tryz.ntmps117
  go_wp2
  go_ret
  exact ⟨rfl, rfl⟩

/-- what a search for room keeps: how many free blocks stand in a row, and what was found -/
structure RoomS where
  free : Nat
  found : Option Nat
/-- .. behind a free block b -/
def RoomS.free1 (s : Nat) (r : RoomS) (b : Nat) : RoomS := ⟨r.free + 1, if r.free + 1 = s ∧ r.found = none then some (b + 1 - s) else r.found⟩
/-- .. behind anything else -/
def RoomS.other (r : RoomS) : RoomS := ⟨0, r.found⟩
/-- the search over the blocks from b on -/
def roomF (ws : List Int) (s n : Nat) : Nat → Nat → RoomS → RoomS
  | 0, _, r => r
  | fuel + 1, b, r => if b < n then
      match slotAt ws b with
      | none => roomF ws s n fuel (b + 1) (r.free1 s b)
      | some (some o) => roomF ws s n fuel (b + o.span) r.other
      | some none => roomF ws s n fuel (b + 1) r.other
    else r
/-- the handle of what was found; 0: none -/
def foundN : Option Nat → Nat
  | some b => b + 1
  | none => 0
/-- the four cells: span, block, ok, free -/
structure RoomAt (w0 : World) (s : Nat) (r : RoomS) (wr : World) : Prop where
  sp : wr.heap[w0.heap.size]? = some (.cells #[.int .i64 (s : Int)] 3 (0, 0))
  bl : wr.heap[w0.heap.size + 1]? = some (.cells #[.int .i64 (foundN r.found : Int)] 3 (0, 0))
  ok : wr.heap[w0.heap.size + 2]? = some (.cells #[.bool r.found.isSome] 4 (0, 0))
  fr : wr.heap[w0.heap.size + 3]? = some (.cells #[.int .i64 (r.free : Int)] 3 (0, 0))
  nw : Fr New w0 wr
theorem RoomAt.grow {w0 : World} {s : Nat} {r : RoomS} {wr w' : World} (h : RoomAt w0 s r wr) (hf : Fr New wr w') : RoomAt w0 s r w' := ⟨hf.heap h.sp id, hf.heap h.bl id, hf.heap h.ok id, hf.heap h.fr id, h.nw.same hf⟩
/-- the blocks of the search -/
def TRoom (w0 : World) (j : Nat) : Prop := w0.heap.size ≤ j ∧ j < w0.heap.size + 4
theorem RoomAt.setFree {w0 : World} {s : Nat} {r : RoomS} {wr : World} (h : RoomAt w0 s r wr) (x : Nat) : RoomAt w0 s ⟨x, r.found⟩ (wr.setCell ⟨w0.heap.size + 3, 0, none⟩ (.int .i64 (x : Int))) ∧ Fr (TRoom w0) wr (wr.setCell ⟨w0.heap.size + 3, 0, none⟩ (.int .i64 (x : Int))) := by
  have hF : Fr (fun j => j = w0.heap.size + 3) wr (wr.setCell ⟨w0.heap.size + 3, 0, none⟩ (.int .i64 (x : Int))) := (Fr.refl (fun j => j = w0.heap.size + 3) wr).setCell (p := ⟨w0.heap.size + 3, 0, none⟩) (fun _ => rfl) _
  exact ⟨⟨hF.heap h.sp (by omega), hF.heap h.bl (by omega), hF.heap h.ok (by omega), (heap_setCell_same _ _ 0 _ _ _ h.fr).trans (by simp), h.nw.trans hF (fun j hj he => by omega)⟩, hF.mono (fun j hj he => by unfold TRoom; omega)⟩
theorem RoomAt.setFound {w0 : World} {s : Nat} {r : RoomS} {wr : World} (h : RoomAt w0 s r wr) (x : Nat) : RoomAt w0 s ⟨r.free, some x⟩ ((wr.setCell ⟨w0.heap.size + 1, 0, none⟩ (.int .i64 ((x + 1 : Nat) : Int))).setCell ⟨w0.heap.size + 2, 0, none⟩ (.bool true)) ∧ Fr (TRoom w0) wr ((wr.setCell ⟨w0.heap.size + 1, 0, none⟩ (.int .i64 ((x + 1 : Nat) : Int))).setCell ⟨w0.heap.size + 2, 0, none⟩ (.bool true)) := by
  have hF : Fr (fun j => j = w0.heap.size + 1) wr (wr.setCell ⟨w0.heap.size + 1, 0, none⟩ (.int .i64 ((x + 1 : Nat) : Int))) := (Fr.refl (fun j => j = w0.heap.size + 1) wr).setCell (p := ⟨w0.heap.size + 1, 0, none⟩) (fun _ => rfl) _
  have hG : Fr (fun j => j = w0.heap.size + 2) (wr.setCell ⟨w0.heap.size + 1, 0, none⟩ (.int .i64 ((x + 1 : Nat) : Int))) ((wr.setCell ⟨w0.heap.size + 1, 0, none⟩ (.int .i64 ((x + 1 : Nat) : Int))).setCell ⟨w0.heap.size + 2, 0, none⟩ (.bool true)) := (Fr.refl (fun j => j = w0.heap.size + 2) _).setCell (p := ⟨w0.heap.size + 2, 0, none⟩) (fun _ => rfl) _
  exact ⟨⟨hG.heap (hF.heap h.sp (by omega)) (by omega), hG.heap ((heap_setCell_same _ _ 0 _ _ _ h.bl).trans (by simp [foundN])) (by omega), (heap_setCell_same _ _ 0 _ _ _ (hF.heap h.ok (by omega))).trans (by simp), hG.heap (hF.heap h.fr (by omega)) (by omega), (h.nw.trans hF (fun j hj he => by omega)).trans hG (fun j hj he => by omega)⟩,
    (hF.mono (fun j hj he => by unfold TRoom; omega)).trans hG (fun j hj he => by unfold TRoom; omega)⟩
/-- the closure's arguments -/
abbrev roomCaps (w0 : World) (v : Value) : Array Value := #[v, .pointer (some ⟨w0.heap.size + 3, 0, none⟩), .pointer (some ⟨w0.heap.size, 0, none⟩), .pointer (some ⟨w0.heap.size + 2, 0, none⟩), .pointer (some ⟨w0.heap.size + 1, 0, none⟩)]
/-- the closure, told of a block that is not free -/
theorem room_other (w0 : World) (s : Nat) (r : RoomS) (k b t p : Int) (hk : k ≠ 0) (w : World) (h : RoomAt w0 s r w) :
    Calls Tryz.prog 116 (roomCaps w0 (.agg #[.int .i64 k, .int .i64 b, .int .i64 t, .int .i64 p])) w fun e w' => e = .returned (.tuple #[]) ∧ RoomAt w0 s r.other w' ∧ Fr (TRoom w0) w w' := by
  have hd : (k != 0) = true := by simpa using hk
  obtain ⟨c3, z3⟩ := block_cells h.fr
  have hc : w.cell? ⟨w0.heap.size + 3, 0, none⟩ = some (.int .i64 (r.free : Int)) := (c3 0).trans rfl
  have hz := z3 0
  have hlt := lt_of_block h.fr
  have HR : Hid (RoomAt w0 s r.other (w.setCell ⟨w0.heap.size + 3, 0, none⟩ (.int .i64 0)) ∧ Fr (TRoom w0) w (w.setCell ⟨w0.heap.size + 3, 0, none⟩ (.int .i64 0))) := h.setFree 0
  clear c3 z3 h
  go_enter Tryz.func116, Tryz.ntmps116
  go_wp2
  exact bodyPost_ret (v := .tuple #[]) (by simp [results, Tryz.results116, go_sem]) rfl ⟨rfl, HR.out.1.grow ((Fr.refl _ _).alloc _), HR.out.2.alloc _⟩
/-- .. of a free one -/
theorem room_free (w0 : World) (s : Nat) (r : RoomS) (b : Nat) (w : World) (h : RoomAt w0 s r w) (hs : 1 ≤ s) (hs4 : s ≤ 4) (hb : b ≤ 32) (hf : r.free ≤ b) :
    Calls Tryz.prog 116 (roomCaps w0 (.agg #[.int .i64 0, .int .i64 ((b + 1 : Nat) : Int), .int .i64 1, .int .i64 0])) w fun e w' => e = .returned (.tuple #[]) ∧ RoomAt w0 s (r.free1 s b) w' ∧ Fr (TRoom w0) w w' := by
  obtain ⟨fr, fd⟩ := r
  simp only at hf
  have hc0 : w.cell? ⟨w0.heap.size, 0, none⟩ = some (.int .i64 (s : Int)) := ((block_cells h.sp).1 0).trans rfl
  have hc1 : w.cell? ⟨w0.heap.size + 1, 0, none⟩ = some (.int .i64 (foundN fd : Int)) := ((block_cells h.bl).1 0).trans rfl
  have hc2 : w.cell? ⟨w0.heap.size + 2, 0, none⟩ = some (.bool fd.isSome) := ((block_cells h.ok).1 0).trans rfl
  have hc3 : w.cell? ⟨w0.heap.size + 3, 0, none⟩ = some (.int .i64 (fr : Int)) := ((block_cells h.fr).1 0).trans rfl
  have z1 := (block_cells h.bl).2 0
  have z2 := (block_cells h.ok).2 0
  have z3 := (block_cells h.fr).2 0
  have hlt := lt_of_block h.fr
  have h1 := h.setFree (fr + 1)
  obtain ⟨a0, ha0⟩ : ∃ a, a = w0.heap.size := ⟨_, rfl⟩
  obtain ⟨a1, ha1⟩ : ∃ a, a = w0.heap.size + 1 := ⟨_, rfl⟩
  obtain ⟨a2, ha2⟩ : ∃ a, a = w0.heap.size + 2 := ⟨_, rfl⟩
  obtain ⟨a3, ha3⟩ : ∃ a, a = w0.heap.size + 3 := ⟨_, rfl⟩
  have n03 : ¬ a0 = a3 := by omega
  have n30 : ¬ a3 = a0 := by omega
  have n13 : ¬ a1 = a3 := by omega
  have n31 : ¬ a3 = a1 := by omega
  have n23 : ¬ a2 = a3 := by omega
  have n32 : ¬ a3 = a2 := by omega
  have n12 : ¬ a1 = a2 := by omega
  have n21 : ¬ a2 = a1 := by omega
  have n01 : ¬ a0 = a1 := by omega
  have n10 : ¬ a1 = a0 := by omega
  have l0 : a0 < w.heap.size := by omega
  have l1 : a1 < w.heap.size := by omega
  have l2 : a2 < w.heap.size := by omega
  have l3 : a3 < w.heap.size := by omega
  unfold roomCaps
  rw [← ha3] at hc3 z3
  rw [← ha2] at hc2 z2
  rw [← ha1] at hc1 z1
  rw [← ha0] at hc0
  rw [← ha3, ← ha2, ← ha1, ← ha0]
  by_cases hq : fr + 1 = s ∧ fd = none
  · obtain ⟨rfl, rfl⟩ := hq
    have h2 := h1.1.setFound (b + 1 - (fr + 1))
    have HR : Hid (RoomAt w0 (fr + 1) (RoomS.free1 (fr + 1) ⟨fr, none⟩ b) (((w.setCell ⟨a3, 0, none⟩ (.int .i64 ((fr : Int) + 1))).setCell ⟨a1, 0, none⟩ (.int .i64 ((b : Int) + 1 - ((fr : Int) + 1) + 1))).setCell ⟨a2, 0, none⟩ (.bool true)) ∧ Fr (TRoom w0) w (((w.setCell ⟨a3, 0, none⟩ (.int .i64 ((fr : Int) + 1))).setCell ⟨a1, 0, none⟩ (.int .i64 ((b : Int) + 1 - ((fr : Int) + 1) + 1))).setCell ⟨a2, 0, none⟩ (.bool true))) := by
      have e1 : ((fr + 1 : Nat) : Int) = (fr : Int) + 1 := by omega
      have e2 : ((b + 1 - (fr + 1) + 1 : Nat) : Int) = (b : Int) + 1 - ((fr : Int) + 1) + 1 := by omega
      rw [e1, e2] at h2
      rw [e1] at h1
      rw [ha3, ha2, ha1]
      refine ⟨?_, h1.2.trans h2.2 (fun _ _ h => h)⟩
      have := h2.1
      simpa [RoomS.free1] using this
    clear h h1 h2 ha0 ha1 ha2 ha3 hlt
    go_enter Tryz.func116, Tryz.ntmps116
    go_wp2
    go_end0
    exact ⟨rfl, HR.out.1.grow ((Fr.refl _ _).alloc _), HR.out.2.alloc _⟩
  · have HR : Hid (RoomAt w0 s (RoomS.free1 s ⟨fr, fd⟩ b) (w.setCell ⟨a3, 0, none⟩ (.int .i64 ((fr : Int) + 1))) ∧ Fr (TRoom w0) w (w.setCell ⟨a3, 0, none⟩ (.int .i64 ((fr : Int) + 1)))) := by
      have e1 : ((fr + 1 : Nat) : Int) = (fr : Int) + 1 := by omega
      rw [e1] at h1
      rw [ha3]
      refine ⟨?_, h1.2⟩
      have := h1.1
      unfold RoomS.free1
      rw [if_neg hq]
      exact this
    by_cases he : fr + 1 = s
    · subst he
      obtain ⟨y, rfl⟩ : ∃ y, fd = some y := by
        cases fd with
        | none => exact absurd ⟨rfl, rfl⟩ hq
        | some y => exact ⟨y, rfl⟩
      clear h h1 hq ha0 ha1 ha2 ha3 hlt
      go_enter Tryz.func116, Tryz.ntmps116
      go_wp2
      go_end0
      exact ⟨rfl, HR.out.1.grow ((Fr.refl _ _).alloc _), HR.out.2.alloc _⟩
    · have hne : ((fr : Int) + 1 == (s : Int)) = false := by simp; omega
      clear h h1 hq he ha0 ha1 ha2 ha3 hlt
      go_enter Tryz.func116, Tryz.ntmps116
      go_wp2
      go_end0
      exact ⟨rfl, HR.out.1.grow ((Fr.refl _ _).alloc _), HR.out.2.alloc _⟩
end Go.Proofs.YtbagcjlimdilpaaGreat
/- The walk of the program's Walk with Room's closure, and of Room. -/
namespace Go.Proofs.YtbagcjlimdilpaaGreat
open Go.RowKit Go.Maps

theorem roomF_end {ws : List Int} {s n b : Nat} (r : RoomS) (h : ¬ b < n) : ∀ f, roomF ws s n f b r = r := by
  intro f
  cases f with
  | zero => rfl
  | succ f => rw [roomF, if_neg h]
theorem roomF_fuel {ws : List Int} {s n : Nat} : ∀ (f f' b : Nat) (r : RoomS), n - b ≤ f → n - b ≤ f' → roomF ws s n f b r = roomF ws s n f' b r := by
  intro f
  induction f with
  | zero => intro f' b r h1 h2; rw [roomF_end r (by omega), roomF_end r (by omega)]
  | succ f ih =>
    intro f' b r h1 h2
    by_cases hb : b < n
    · cases f' with
      | zero => omega
      | succ f' =>
        rw [roomF, roomF, if_pos hb, if_pos hb]
        rcases hs : slotAt ws b with _ | _ | o
        · exact ih f' (b + 1) _ (by omega) (by omega)
        · exact ih f' (b + 1) _ (by omega) (by omega)
        · have := (slot_obs hs).2.1
          exact ih f' (b + o.span) _ (by omega) (by omega)
    · rw [roomF_end r hb, roomF_end r hb]
/-- what the search finds -/
def roomS (ws : List Int) (s n b : Nat) (r : RoomS) : RoomS := roomF ws s n (n - b) b r
theorem room_step_free {ws : List Int} {s n b : Nat} (r : RoomS) (hb : b < n) (hs : slotAt ws b = none) : roomS ws s n b r = roomS ws s n (b + 1) (r.free1 s b) := by
  unfold roomS
  rw [show n - b = n - (b + 1) + 1 by omega, roomF, if_pos hb, hs]
theorem room_step_bad {ws : List Int} {s n b : Nat} (r : RoomS) (hb : b < n) (hs : slotAt ws b = some none) : roomS ws s n b r = roomS ws s n (b + 1) r.other := by
  unfold roomS
  rw [show n - b = n - (b + 1) + 1 by omega, roomF, if_pos hb, hs]
theorem room_step_ob {ws : List Int} {s n b : Nat} {o : Ob} (r : RoomS) (hb : b < n) (hs : slotAt ws b = some (some o)) : roomS ws s n b r = roomS ws s n (b + o.span) r.other := by
  unfold roomS
  rw [show n - b = n - (b + 1) + 1 by omega, roomF, if_pos hb, hs]
  have := (slot_obs hs).2.1
  exact roomF_fuel _ _ _ _ (by omega) (by omega)
theorem room_end {ws : List Int} {s n b : Nat} (r : RoomS) (h : ¬ b < n) : roomS ws s n b r = r := roomF_end r h _

/-- what the walk keeps -/
structure Walk4 (w0 : World) (ws : List Int) (s n b : Nat) (wr : World) : Prop where
  r : ∃ r, RoomAt w0 s r wr ∧ roomS ws s n 0 ⟨0, none⟩ = roomS ws s n b r ∧ r.free ≤ b
set_option maxHeartbeats 2000000 in
set_option maxRecDepth 100000 in
theorem walk4_any (w0 : World) (t : Nat) (x : Value) (fL fR : Nat) (y : Value) (L n s : Nat) (ws : List Int) (w : World) (hL : ws.length = L) (hn : L = 106 + 8 * n) (hn32 : n ≤ 32) (hs1 : 1 ≤ s) (hs4 : s ≤ 4) (hrow : RowAt w0 t x fL fR y ws) (hW : RoomAt w0 s ⟨0, none⟩ w) :
    Calls Tryz.prog 115 #[.iface t x, .func (.func 116) #[] #[.pointer (some ⟨w0.heap.size + 3, 0, none⟩), .pointer (some ⟨w0.heap.size, 0, none⟩), .pointer (some ⟨w0.heap.size + 2, 0, none⟩), .pointer (some ⟨w0.heap.size + 1, 0, none⟩)]] w fun e w' => e = .returned (.tuple #[]) ∧ RoomAt w0 s (roomS ws s n 0 ⟨0, none⟩) w' := by
  have HB : Hid (∀ w, Calls Tryz.prog 95 #[.int .i64 (L : Int)] w fun e w' => e = .returned (.int .i64 (n : Int)) ∧ w' = w) := fun w => by
    have := lblocks_any L w (by omega) (by omega)
    rwa [show (L - 106) / 8 = n by omega] at this
  have HF : Hid (∀ b, b < n → ∀ wr, Fr New w0 wr → Calls Tryz.prog 148 #[Value.iface t x, .int .i64 ((b + 1 : Nat) : Int), .int .i64 (n : Int)] wr fun e w' => e = .returned (slotV (slotAt ws b) b) ∧ Fr New wr w') := fun b hb wr hf => find_thing t x fL fR y L n b ws wr hL hn hn32 hb (hrow.grow hf)
  have HL : Hid (ws.length = 106 + 8 * n) := hL.trans hn
  have hm := hrow.mlen w hW.nw
  have hcf := hrow.clen
  have HLN : Hid (Calls Tryz.prog fL #[y] w fun e w'' => e = .returned (.int .i64 L) ∧ w'' = w) := by rw [← hL]; exact hrow.len w hW.nw
  have hL1 : L ≤ 362 := by omega
  clear hL hn hrow
  go_enter Tryz.func115, Tryz.ntmps115
  go_wp2_with (first
    | (go_at_call 95; refine calls_same (HB.out _) ?_)
    | (refine calls_same HLN.out ?_))
  go_loopg [5] n (fun gh t wr => ∃ b, b ≤ n ∧ gh = n - b ∧ t = .int .i64 ((b + 1 : Nat) : Int) ∧ Walk4 w0 ws s n b wr)
  case atStart => exact ⟨0, by omega, rfl, rfl, ⟨_, hW, rfl, Nat.le_refl _⟩⟩
  case round =>
    clear hW hm
    obtain ⟨b, hbn, rfl, rfl, ⟨r, hR, hall, hfb⟩⟩ := hrel
    obtain ⟨B, hB⟩ : ∃ B : Nat, B = b + 1 := ⟨_, rfl⟩
    have hlt3 := lt_of_block hR.fr
    by_cases hb : b < n
    · have HO := HF.out b hb wr hR.nw
      have HO' : Hid (Calls Tryz.prog 148 #[Value.iface t x, .int .i64 (B : Int), .int .i64 (n : Int)] wr fun e w' => e = .returned (slotV (slotAt ws b) b) ∧ Fr New wr w') := by rw [hB]; exact HO
      clear HO
      rw [← hB]
      have HBB : Hid (B = b + 1) := hB
      have hBn : B ≤ n := by omega
      clear hB
      rcases hs : slotAt ws b with _ | _ | o
      · rw [hs] at HO'
        have HO2 : Hid (Calls Tryz.prog 148 #[Value.iface t x, .int .i64 (B : Int), .int .i64 (n : Int)] wr fun e w' => e = .returned (.agg #[.int .i64 0, .int .i64 B, .int .i64 1, .int .i64 0]) ∧ Fr New wr w') := by rw [HBB.out]; rw [HBB.out] at HO'; exact HO'.out
        have HT : Hid (∀ w1, Fr New wr w1 → Calls Tryz.prog 116 (roomCaps w0 (.agg #[.int .i64 0, .int .i64 (B : Int), .int .i64 1, .int .i64 0])) w1 fun e w' => e = .returned (.tuple #[]) ∧ Walk4 w0 ws s n (b + 1) w' ∧ Fr (TRoom w0) w1 w') := fun w1 hf => by
          rw [HBB.out]
          refine (room_free w0 s r b w1 (hR.grow hf) hs1 hs4 (by omega) hfb).mono ?_
          rintro e w' ⟨rfl, hR', hf'⟩
          exact ⟨rfl, ⟨_, hR', hall.trans (room_step_free r hb hs), by simp only [RoomS.free1]; omega⟩, hf'⟩
        clear hs HO' hall hR
        go_wp2_with (first
          | (go_at_call 148; refine HO2.out.mono ?_; rintro e w1 ⟨rfl, hf1⟩)
          | (go_at_call 116; refine (HT.out _ (hf1.alloc _)).mono ?_; rintro e w2 ⟨rfl, hw2, hk2⟩; obtain ⟨hct, hzt⟩ := block_cells (hk2.heap (k := w1.heap.size) (Go.Deep.blk_alloc_new w1 _) (by have := hf1.size; unfold TRoom; omega)))
          | fail)
        go_roundg (n - (b + 1))
        case measure => omega
        case rel => exact ⟨b + 1, by omega, rfl, by rw [HBB.out]; go_num, hw2⟩
      · rw [hs] at HO'
        have HO2 : Hid (Calls Tryz.prog 148 #[Value.iface t x, .int .i64 (B : Int), .int .i64 (n : Int)] wr fun e w' => e = .returned (.agg #[.int .i64 2, .int .i64 B, .int .i64 1, .int .i64 0]) ∧ Fr New wr w') := by rw [HBB.out]; rw [HBB.out] at HO'; exact HO'.out
        have HT : Hid (∀ w1, Fr New wr w1 → Calls Tryz.prog 116 (roomCaps w0 (.agg #[.int .i64 2, .int .i64 (B : Int), .int .i64 1, .int .i64 0])) w1 fun e w' => e = .returned (.tuple #[]) ∧ Walk4 w0 ws s n (b + 1) w' ∧ Fr (TRoom w0) w1 w') := fun w1 hf => by
          refine (room_other w0 s r 2 B 1 0 (by decide) w1 (hR.grow hf)).mono ?_
          rintro e w' ⟨rfl, hR', hf'⟩
          exact ⟨rfl, ⟨_, hR', hall.trans (room_step_bad r hb hs), by simp only [RoomS.other]; omega⟩, hf'⟩
        clear hs HO' hall hR
        go_wp2_with (first
          | (go_at_call 148; refine HO2.out.mono ?_; rintro e w1 ⟨rfl, hf1⟩)
          | (go_at_call 116; refine (HT.out _ (hf1.alloc _)).mono ?_; rintro e w2 ⟨rfl, hw2, hk2⟩; obtain ⟨hct, hzt⟩ := block_cells (hk2.heap (k := w1.heap.size) (Go.Deep.blk_alloc_new w1 _) (by have := hf1.size; unfold TRoom; omega)))
          | fail)
        go_roundg (n - (b + 1))
        case measure => omega
        case rel => exact ⟨b + 1, by omega, rfl, by rw [HBB.out]; go_num, hw2⟩
      · have hso := slot_obs hs
        rw [hs] at HO'
        obtain ⟨ob, osp, op⟩ := o
        obtain ⟨hob, hs1', hs4', hp, hle⟩ := hso
        simp only at hob hs1' hs4' hp hle
        obtain rfl : b = ob := hob.symm
        have hle' : b + osp ≤ n := by rw [HL.out] at hle; omega
        have HO2 : Hid (Calls Tryz.prog 148 #[Value.iface t x, .int .i64 (B : Int), .int .i64 (n : Int)] wr fun e w' => e = .returned (.agg #[.int .i64 1, .int .i64 B, .int .i64 osp, .int .i64 op]) ∧ Fr New wr w') := by rw [HBB.out]; rw [HBB.out] at HO'; exact HO'.out
        have HT : Hid (∀ w1, Fr New wr w1 → Calls Tryz.prog 116 (roomCaps w0 (.agg #[.int .i64 1, .int .i64 (B : Int), .int .i64 osp, .int .i64 op])) w1 fun e w' => e = .returned (.tuple #[]) ∧ Walk4 w0 ws s n (b + osp) w' ∧ Fr (TRoom w0) w1 w') := fun w1 hf => by
          refine (room_other w0 s r 1 B osp op (by decide) w1 (hR.grow hf)).mono ?_
          rintro e w' ⟨rfl, hR', hf'⟩
          exact ⟨rfl, ⟨_, hR', hall.trans (room_step_ob r hb hs), by simp only [RoomS.other]; omega⟩, hf'⟩
        clear hs HO' hall hR hle
        go_wp2_with (first
          | (go_at_call 148; refine HO2.out.mono ?_; rintro e w1 ⟨rfl, hf1⟩)
          | (go_at_call 116; refine (HT.out _ (hf1.alloc _)).mono ?_; rintro e w2 ⟨rfl, hw2, hk2⟩; obtain ⟨hct, hzt⟩ := block_cells (hk2.heap (k := w1.heap.size) (Go.Deep.blk_alloc_new w1 _) (by have := hf1.size; unfold TRoom; omega)))
          | fail)
        go_roundg (n - (b + osp))
        case measure => omega
        case rel => exact ⟨b + osp, by omega, rfl, by rw [HBB.out]; go_num, hw2⟩
    · have HE : Hid (roomS ws s n 0 ⟨0, none⟩ = r) := hall.trans (room_end r hb)
      have hBn : n < B := by omega
      rw [← hB]
      clear hall hB
      go_wp2
      go_end0
      rw [HE.out]
      exact ⟨rfl, hR⟩
/-- what Room tells -/
def roomV (o : Option Nat) : Value := .tuple #[.int .i64 (foundN o : Int), .bool o.isSome]
set_option maxHeartbeats 1000000 in
set_option maxRecDepth 100000 in
theorem room_row (t : Nat) (x : Value) (fL fR : Nat) (y : Value) (n s : Nat) (ws : List Int) (w : World) (hn : nblk ws.length = n) (hn0 : n ≠ 0) (hs1 : 1 ≤ s) (hs4 : s ≤ 4) (hrow : RowAt w t x fL fR y ws) :
    Calls Tryz.prog 68 #[.iface t x, .int .i64 (s : Int)] w fun e w' => e = .returned (roomV (roomS ws s n 0 ⟨0, none⟩).found) ∧ Fr New w w' := by
  obtain ⟨hlen, hn1, hn2⟩ := nblk_some (len := ws.length) (by omega)
  rw [hn] at hlen hn1 hn2
  have HWK : Hid (∀ W, RoomAt w s ⟨0, none⟩ W → Calls Tryz.prog 115 #[.iface t x, .func (.func 116) #[] #[.pointer (some ⟨w.heap.size + 3, 0, none⟩), .pointer (some ⟨w.heap.size, 0, none⟩), .pointer (some ⟨w.heap.size + 2, 0, none⟩), .pointer (some ⟨w.heap.size + 1, 0, none⟩)]] W fun e w' => e = .returned (.tuple #[]) ∧ RoomAt w s (roomS ws s n 0 ⟨0, none⟩) w') := fun W hW => walk4_any w t x fL fR y ws.length n s ws W rfl hlen hn2 hs1 hs4 hrow hW
  obtain ⟨R, hR⟩ : ∃ R, R = roomS ws s n 0 ⟨0, none⟩ := ⟨_, rfl⟩
  rw [← hR] at HWK ⊢
  have hmf : ∀ (fn : Fn) (first cap : Array Value) (w : World), (Instr.makeFunc fn first cap).run Tryz.prog w = .ok (.func fn first cap) w := fun _ _ _ _ => rfl
  have HS0 : Hid (RoomAt w s ⟨0, none⟩ ((((w.alloc (.cells #[.int .i64 (s : Int)] 3)).alloc (.cells #[.int .i64 0] 3)).alloc (.cells #[.bool false] 4)).alloc (.cells #[.int .i64 0] 3))) := by
    refine ⟨?_, ?_, ?_, ?_, (((Fr.refl _ _).alloc _).alloc _).alloc _ |>.alloc _⟩
    · rw [Go.Deep.blk_alloc_lt _ _ _ (by first | (simp; omega) | simp), Go.Deep.blk_alloc_lt _ _ _ (by first | (simp; omega) | simp), Go.Deep.blk_alloc_lt _ _ _ (by simp)]; exact Go.Deep.blk_alloc_new w _
    · rw [Go.Deep.blk_alloc_lt _ _ _ (by first | (simp; omega) | simp), Go.Deep.blk_alloc_lt _ _ _ (by simp)]; exact new_at2 w _ _
    · rw [Go.Deep.blk_alloc_lt _ _ _ (by simp)]; exact new_at _ _ _ (by simp)
    · exact new_at _ _ _ (by simp)
  clear hlen hn hn0 hrow hR
  go_enter Tryz.func68, Tryz.ntmps68
  go_upto_region 3 with (go_at_call 115; refine (HWK.out _ HS0.out).mono ?_; rintro e w1 ⟨rfl, hS⟩)
  have hb0 : w1.cell? ⟨w.heap.size + 1, 0, none⟩ = some (.int .i64 (foundN R.found : Int)) := ((block_cells hS.bl).1 0).trans rfl
  have hb1 : w1.cell? ⟨w.heap.size + 2, 0, none⟩ = some (.bool R.found.isSome) := ((block_cells hS.ok).1 0).trans rfl
  have z1 := (block_cells hS.bl).2 0
  have z2 := (block_cells hS.ok).2 0
  obtain ⟨a1, ha1⟩ : ∃ a, a = w.heap.size + 1 := ⟨_, rfl⟩
  obtain ⟨a2, ha2⟩ : ∃ a, a = w.heap.size + 2 := ⟨_, rfl⟩
  have n12 : ¬ a1 = a2 := by omega
  have n21 : ¬ a2 = a1 := by omega
  have hl3 := lt_of_block hS.fr
  have l1 : a1 < w1.heap.size := by omega
  have l2 : a2 < w1.heap.size := by omega
  have hF : ∀ u v : Value, Fr New w ((w1.setCell ⟨a1, 0, none⟩ u).setCell ⟨a2, 0, none⟩ v) := fun u v => (hS.nw.setCell (p := ⟨a1, 0, none⟩) (fun h => by simp only at h; omega) u).setCell (p := ⟨a2, 0, none⟩) (fun h => by simp only at h; omega) v
  rw [← ha1] at hb0 z1
  rw [← ha2] at hb1 z2
  rw [← ha1, show a1 + 1 = a2 by omega]
  clear ha1 ha2 hl3
  go_region
  all_goals (try go_wp2)
  all_goals exact bodyPost_ret (v := roomV R.found) (by simp [results, Tryz.results68, go_sem, roomV, hb0, hb1]) rfl ⟨rfl, by first | exact hF _ _ | exact (hF _ _).drew⟩
end Go.Proofs.YtbagcjlimdilpaaGreat
/- What Room finds, as mathematics. -/
namespace Go.Proofs.YtbagcjlimdilpaaGreat

/-- what the search knows, at block b -/
structure RoomInv (l : List Ob) (s b : Nat) (r : RoomS) : Prop where
  le : r.free ≤ b
  run : ∀ c, b - r.free ≤ c → c < b → ¬ Cov l c
  stop : r.free = b ∨ Cov l (b - r.free - 1)
  no : r.found = none → ∀ c, c + s ≤ b → ¬ RowFree l s c
  yes : ∀ c, r.found = some c → c + s ≤ b ∧ RowFree l s c ∧ ∀ c', c' < c → ¬ RowFree l s c'
/-- no object goes over b -/
def Edge (l : List Ob) (b : Nat) : Prop := ∀ o ∈ l, ¬ (o.block < b ∧ b < o.block + o.span)
theorem RoomInv.free1 {l : List Ob} {s b : Nat} {r : RoomS} (h : RoomInv l s b r) (_hs : 1 ≤ s) (hc : ¬ Cov l b) : RoomInv l s (b + 1) (r.free1 s b) := by
  obtain ⟨f, fd⟩ := r
  obtain ⟨h1, h2, h3, h4, h5⟩ := h
  simp only at h1 h2 h3 h4 h5
  unfold RoomS.free1
  refine ⟨by simp only; omega, fun c hc1 hc2 => ?_, ?_, ?_, ?_⟩
  · simp only at hc1
    by_cases hcb : c = b
    · subst hcb; exact hc
    · exact h2 c (by omega) (by omega)
  · simp only
    rcases h3 with h3 | h3
    · exact .inl (by omega)
    · exact .inr (by rw [show b + 1 - (f + 1) - 1 = b - f - 1 by omega]; exact h3)
  · simp only
    intro hf c hcs hr
    split at hf
    · cases hf
    · next hq =>
      by_cases hcb : c + s ≤ b
      · exact h4 hf c hcb hr
      · rcases (show f + 1 < s ∨ f + 1 = s ∨ s ≤ f by omega) with hx | hx | hx
        · rcases h3 with h3 | h3
          · omega
          · exact hr (b - f - 1 - c) (by omega) (by rw [show c + (b - f - 1 - c) = b - f - 1 by omega]; exact h3)
        · exact hq ⟨hx, hf⟩
        · exact h4 hf (b - s) (by omega) (fun j hj => h2 _ (by omega) (by omega))
  · simp only
    intro c hf
    split at hf
    · next hq =>
      cases hf
      refine ⟨by omega, fun j hj => ?_, fun c' hc' hr => ?_⟩
      · by_cases hjb : b + 1 - s + j = b
        · rw [hjb]; exact hc
        · exact h2 _ (by omega) (by omega)
      · exact h4 hq.2 c' (by omega) hr
    · obtain ⟨h6, h7, h8⟩ := h5 c hf
      exact ⟨by omega, h7, h8⟩
theorem RoomInv.other {l : List Ob} {s b : Nat} {r : RoomS} (h : RoomInv l s b r) (hs : 1 ≤ s) {o : Ob} (ho : o ∈ l) (hb : o.block = b) (h1 : 1 ≤ o.span) : RoomInv l s (b + o.span) r.other := by
  obtain ⟨f, fd⟩ := r
  obtain ⟨_, _, _, h4, h5⟩ := h
  simp only at h4 h5
  unfold RoomS.other
  refine ⟨by simp only; omega, fun c hc1 hc2 => by simp only at hc1; omega, .inr ⟨o, ho, by simp only; omega, by simp only; omega⟩, ?_, ?_⟩
  · simp only
    intro hf c hcs hr
    by_cases hcb : c + s ≤ b
    · exact h4 hf c hcb hr
    · exact hr (s - 1) (by omega) ⟨o, ho, by omega, by omega⟩
  · simp only
    intro c hf
    obtain ⟨h6, h7, h8⟩ := h5 c hf
    exact ⟨by omega, h7, h8⟩
theorem room_inv {ws : List Int} {n s : Nat} {l : List Ob} (hl : ws.length = 106 + 8 * n) (ht : TilesF ws n 0 l) (hs : 1 ≤ s) : ∀ (k b : Nat) (r : RoomS), n - b ≤ k → b ≤ n → Edge l b → RoomInv l s b r → RoomInv l s n (roomS ws s n b r) := by
  intro k
  induction k with
  | zero =>
    intro b r hk hbn _ h
    obtain rfl : b = n := by omega
    rw [room_end r (by omega)]
    exact h
  | succ k ih =>
    intro b r hk hbn he h
    by_cases hb : b < n
    · by_cases hc : Cov l b
      · obtain ⟨o, ho, h1, h2⟩ := hc
        have hob : o.block = b := by have := he o ho; omega
        have hsl := ht.slot hl ho
        rw [hob] at hsl
        obtain ⟨_, f1, f2, f3, f4, f5⟩ := ht.fits o ho
        rw [room_step_ob r hb hsl]
        refine ih (b + o.span) _ (by omega) (by omega) (fun o' ho' hh => ?_) (h.other hs ho hob f1)
        rcases pair_mem ht.apart ho ho' with rfl | hx | hx
        · omega
        · omega
        · have := (ht.fits o' ho').2.1; omega
      · have hz := ht.free b (by omega) hb (fun o ho hh => hc ⟨o, ho, hh⟩)
        rw [room_step_free r hb (slot_free hz)]
        refine ih (b + 1) _ (by omega) (by omega) (fun o' ho' hh => ?_) (h.free1 hs hc)
        exact hc ⟨o', ho', by omega, by omega⟩
    · obtain rfl : b = n := by omega
      rw [room_end r (by omega)]
      exact h
/-- Room finds the first row of so many free blocks -/
theorem room_found {ws : List Int} {n s : Nat} {l : List Ob} (hl : ws.length = 106 + 8 * n) (ht : TilesF ws n 0 l) (hs : 1 ≤ s) :
    ((roomS ws s n 0 ⟨0, none⟩).found = none ∧ ∀ c, ¬ FreeRow l n s c) ∨ ∃ c, (roomS ws s n 0 ⟨0, none⟩).found = some c ∧ FreeRow l n s c ∧ ∀ c', c' < c → ¬ FreeRow l n s c' := by
  have h := room_inv hl ht hs n 0 ⟨0, none⟩ (by omega) (by omega) (fun o _ hh => by omega) ⟨Nat.le_refl _, (fun c h1 h2 => by omega), .inl rfl, (fun _ c hc => by omega), fun c hc => by cases hc⟩
  have h1 : ∀ o ∈ l, 1 ≤ o.span := fun o ho => (ht.fits o ho).2.1
  rcases hf : (roomS ws s n 0 ⟨0, none⟩).found with _ | c
  · exact .inl ⟨rfl, fun c hc => h.no hf c hc.1 ((rowFree_apart hs h1).2 hc.2)⟩
  · obtain ⟨h2, h3, h4⟩ := h.yes c hf
    exact .inr ⟨c, rfl, ⟨h2, (rowFree_apart hs h1).1 h3⟩, fun c' hc' hfr => h4 c' hc' ((rowFree_apart hs h1).2 hfr.2)⟩
end Go.Proofs.YtbagcjlimdilpaaGreat
