/- The walk of the book's call 'stores': the list is written full, made longer by one, two and three, and entered. -/
import Derived.Test.YtbagcjlimdilpaaGreatHhHxI
import Derived.Test.YtbagcjlimdilpaaGreatHhJ10
import Derived.Deep.RegionLaw
import Derived.Deep.DrawnRows
namespace Go.Proofs.YtbagcjlimdilpaaGreat
open Go.RowKit
attribute [local go_sem ↓] Go.wp_at_zero Go.wp_at_succ

/-- the first k of a list's elements are marks -/
def partE (mk ys : List Value) (k : Nat) : List Value := reps mk k ++ ys.drop (k * mk.length)
theorem partE_zero (mk ys : List Value) : partE mk ys 0 = ys := by simp [partE, reps]
theorem partE_all (mk ys : List Value) (n : Nat) (h : ys.length = n * mk.length) : partE mk ys n = reps mk n := by simp [partE, ← h]
theorem partE_len (mk ys : List Value) (n k : Nat) (h : ys.length = n * mk.length) (hk : k ≤ n) : (partE mk ys k).length = n * mk.length := by
  have : k * mk.length ≤ n * mk.length := Nat.mul_le_mul_right _ hk
  simp [partE, reps_len, h]; omega
theorem partE_set3 (a b c : Value) (ys : List Value) (n k : Nat) (h : ys.length = n * 3) (hk : k < n) : (((partE [a, b, c] ys k).set (k * 3) a).set (k * 3 + 1) b).set (k * 3 + 2) c = partE [a, b, c] ys (k + 1) := by
  unfold partE
  obtain ⟨x0, x1, x2, r, hr⟩ : ∃ x0 x1 x2 r, ys.drop (k * 3) = x0 :: x1 :: x2 :: r := by
    have hl : (ys.drop (k * 3)).length = n * 3 - k * 3 := by simp [h]
    match hd : ys.drop (k * 3), hl with
    | [], hl => simp at hl; omega
    | [_], hl => simp at hl; omega
    | [_, _], hl => simp at hl; omega
    | x0 :: x1 :: x2 :: r, _ => exact ⟨x0, x1, x2, r, rfl⟩
  have hr' : ys.drop ((k + 1) * 3) = r := by
    rw [show (k + 1) * 3 = k * 3 + 3 by omega, ← List.drop_drop, hr]
    rfl
  have hl : (reps [a, b, c] k).length = k * 3 := by rw [reps_len]; rfl
  show (((reps [a, b, c] k ++ ys.drop (k * 3)).set (k * 3) a).set (k * 3 + 1) b).set (k * 3 + 2) c = reps [a, b, c] (k + 1) ++ ys.drop ((k + 1) * 3)
  rw [hr, hr', reps, List.set_append_right _ _ (by omega), List.set_append_right _ _ (by omega), List.set_append_right _ _ (by omega), hl]
  simp
theorem Tryz.info149 : (Tryz.prog.info? 149).map (fun i => (i.zero, i.size, i.bytes)) = some (some (.agg #[.slice none 0 0, .slice none 0 0, .slice none 0 0, .slice none 0 0, .int .i64 0]), 5, 104) := by kernel_rfl

/-- the entry is appended, at a step of a region that draws its order -/
theorem step_entE {e te : TypeId} {size : Nat} {mk : List Value} {w : World} {b X : Nat} {arr : Array Value} {v vt : Value} {n B nb : Nat} {cells : List Value} {xs : Array Value} {fs : List Value} {N : Nat} {W : World}
    (M : MidE e te size mk w b X arr v vt n B nb cells xs fs N W) (h3 : Three e te) (t : TypeId) (j0 : TypeInfo) (z : Value) (ht : Tryz.prog.underlying t = some (.slice te)) (hj : Tryz.prog.info? te = some j0) (hy0 : j0.zero = some z) (hy1 : j0.size = 5) (hy2 : j0.bytes = 104) (hzs : z.cells.size = 5)
    (hB : B ≤ w.heap.size) (hnb : nb ≤ 1073741824) (h5 : xs.size = 5) (h1c : ∀ u ∈ xs.toList, u.oneCell' = true)
    {ops : Array Oper} {o : Oper} {a : Act} {w3 : World} {K : Act → World → Prop} {Q : Exit → Act → World → Prop} {E : Prop} (s x : Operand) (hgd : o.guard = none)
    (ho : o.op = .call { callee := .builtin .append, args := #[s, x], argTypes := #[t, t] }) (hs : a.eval s = vt) (hx : a.eval x = .slice (some ⟨W.heap.size, 0, none⟩) 1 1)
    (hf : Fr New W w3) (hb : w3.heap[W.heap.size]? = some (.cells xs te (0, 0)))
    (h : ∀ g cap w', w'.ownsRow B te 5 (.slice (some ⟨g, 0, none⟩) (nb + 1) cap) (nb + 1) (cells ++ xs.toList) → w'.heap[b]? = some (.cells arr 88 (0, 0)) → (∀ u ∈ fs, ∃ k, k ≤ n + N ∧ FullE e size mk w' u k) → Fr (TurnE b v vt) w w' → K (a.put o.dst (.slice (some ⟨g, 0, none⟩) (nb + 1) cap)) w') :
    if Region.wanted o (yielded ops a.tmps) = true then Oper.wp Tryz.prog o a w3 K Q else E := by
  refine step_append_lies w3 hgd s x t ho B te j0 z 5 104 ht hj hy0 hy1 hy2 hzs (by decide) vt nb cells hs (hf.owns M.own (fun _ _ h => h)) ⟨W.heap.size, 0, none⟩ 1 1 xs.toList hx (by simpa using h5) (World.news_of_block hb) h1c (by decide) (by unfold maxLen; omega) (by omega) (by have := M.fr.size; have := hf.size; omega) _ rfl ?_
  intro g cap w4 ho4 hg4 _ _
  obtain ⟨q1, q2, q3⟩ := M.app h3 hf hg4
  exact h g cap w4 ho4 q1 q2 q3

theorem blkS (w : World) (p : Addr) (u : Value) (o : Obj) : ((w.setCell p u).alloc o).heap[w.heap.size]? = some o := by
  have := Go.Deep.blk_alloc_new (w.setCell p u) o
  rwa [World.size_setCell] at this
theorem three_S : Three 122 149 := ⟨by decide, by decide, by decide⟩

set_option maxHeartbeats 4000000 in
set_option maxRecDepth 1000000 in
theorem stores_any (b n : Nat) (vws vhs vb vss vos v : Value) (st : List St) (B nb : Nat) (cells : List Value) (w : World)
    (hbk : Wb w b vws vhs n vb vss vos) (hl : w.ownsRow 0 122 3 v st.length (stsCells st)) (hown : w.ownsRow B 149 5 vss nb cells) (hB : B ≤ w.heap.size) (hn : n ≤ 1073741824) (hnb : nb ≤ 1073741824) (hz : st.length ≤ 1099511000000) :
    Calls Tryz.prog 135 #[.pointer (some ⟨b, 2, none⟩), v] w fun e w' => e = .returned (.tuple #[]) ∧ ∃ vss' l1 l2 l3,
      Wb w' b vws vhs (n + 1) vb vss' vos ∧ w'.ownsRow B 149 5 vss' (nb + 1) (cells ++ [v, l1, l2, l3, .int .i64 (1000 + ((n + 1 : Nat) : Int))]) ∧
      (∀ u ∈ [v, l1, l2, l3], ∃ k, k ≤ st.length + 3 ∧ FullE 122 3 (mkS (1000 + ((n + 1 : Nat) : Int))) w' u k) ∧ (∀ u ∈ [v, l1, l2, l3], ∀ k, u.ownBlock = some k → w.heap.size ≤ k ∨ v.ownBlock = some k) ∧ Fr (TurnE b v vss) w w' := by
  obtain ⟨i0, hi, hz0, hz1, hz2⟩ := info_parts Tryz.info122
  obtain ⟨j0, hj, hy0, hy1, hy2⟩ := info_parts Tryz.info149
  obtain ⟨m, hm⟩ : ∃ m : Int, m = 1000 + ((n + 1 : Nat) : Int) := ⟨_, rfl⟩
  obtain ⟨len, hlen⟩ : ∃ len, len = st.length := ⟨_, rfl⟩
  rw [← hlen] at hl hz ⊢
  have HSL : Hid ((stsCells st).length = len * 3) := hl.1
  have hlb := lt_of_block hbk
  have hlv : ∀ g, vss.ownBlock = some g → g < w.heap.size := fun g hg => (hown.lt g hg).2
  have hlw : ∀ g, v.ownBlock = some g → g < w.heap.size := fun g hg => (hl.lt g hg).2
  obtain ⟨va, vc, hv⟩ := own_slice hl
  obtain ⟨sa, sc, hvs⟩ := own_slice hown
  obtain ⟨hcb, hzb⟩ := block_cells hbk
  have hW0 : WritE 122 149 3 w b _ v vss len (stsCells st) B nb cells (w.setCell ⟨b, 2, none⟩ (.int .i64 ((n + 1 : Nat) : Int))) := WritE.count three_S ⟨hbk, hl, hown, Fr.refl _ _⟩ 2 _
  obtain ⟨WS, hWS⟩ : ∃ WS, WS = (w.setCell ⟨b, 2, none⟩ (.int .i64 ((n + 1 : Nat) : Int))).alloc (.cells #[.int .i64 m, .int .i64 0, .int .u64 0] 122) := ⟨_, rfl⟩
  have hsz : WS.heap.size = w.heap.size + 1 := by rw [hWS]; simp
  have hW1 : WritE 122 149 3 w b #[vws, vhs, .int .i64 ((n + 1 : Nat) : Int), vb, vss, vos] v vss len (stsCells st) B nb cells WS := by
    have := hW0.new ((Fr.refl New _).alloc (.cells #[.int .i64 m, .int .i64 0, .int .u64 0] 122))
    rw [← hWS] at this
    simpa using this
  have hS0 : WS.heap[w.heap.size]? = some (.cells #[.int .i64 m, .int .i64 0, .int .u64 0] 122 (0, 0)) := by
    rw [hWS]
    have := Go.Deep.blk_alloc_new (w.setCell ⟨b, 2, none⟩ (.int .i64 ((n + 1 : Nat) : Int))) (.cells #[.int .i64 m, .int .i64 0, .int .u64 0] 122)
    simpa using this
  have HF1 : Hid (Fr (TurnE b v vss) w WS) := hW1.fr
  have HW2 : Hid (WritE 122 149 3 WS b #[vws, vhs, .int .i64 ((n + 1 : Nat) : Int), vb, vss, vos] v vss len (partE (mkS m) (stsCells st) 0) B nb cells WS) := ⟨hW1.bk, by rw [partE_zero]; exact hW1.l, hW1.own, Fr.refl _ _⟩
  have HSW : Hid (∀ w', Fr (TurnE b v vss) WS w' → w'.heap[w.heap.size]? = some (.cells #[.int .i64 m, .int .i64 0, .int .u64 0] 122 (0, 0))) := fun w' hf => hf.heap hS0 (fun ht => by
    rcases ht with h | h | h
    · omega
    · have := hlw _ h; omega
    · have := hlv _ h; omega)
  have hm' : (1000 : Int) + ((n : Int) + 1) = m := by rw [hm]; omega
  have HM : Hid (_ = m) := hm'
  have HWS : Hid (_ = _) := hWS
  have hlbS : b < WS.heap.size := by omega
  have hlvS : ∀ g, vss.ownBlock = some g → g < WS.heap.size := fun g hg => by have := hlv g hg; omega
  have HLV : Hid (∀ g, vss.ownBlock = some g → g < WS.heap.size) := hlvS
  have HLW : Hid (∀ g, v.ownBlock = some g → g < w.heap.size) := hlw
  have HSZ : Hid (WS.heap.size = w.heap.size + 1) := hsz
  have HBS : Hid (B ≤ WS.heap.size) := by show _ ≤ _; omega
  subst hv
  subst hvs
  rw [← hm]
  clear hm hm' hWS hW0 hW1 hl hown hS0 hlvS hlv hlw hlen hbk hsz
  go_enter Tryz.func135, Tryz.ntmps135
  go_wp2
  rw [HM.out]
  go_loopw [5] (fun i wr => ∃ k : Nat, k ≤ len ∧ i = .int .i64 k ∧ WritE 122 149 3 WS b #[vws, vhs, .int .i64 ((n + 1 : Nat) : Int), vb, .slice sa nb sc, vos] (.slice va len vc) (.slice sa nb sc) len (partE (mkS m) (stsCells st) k) B nb cells wr) (fun i _ => len - (intOf i).toNat)
  case atStart =>
    have e : ∀ W, W = WS → WritE 122 149 3 WS b #[vws, vhs, .int .i64 ((n + 1 : Nat) : Int), vb, .slice sa nb sc, vos] (.slice va len vc) (.slice sa nb sc) len (partE (mkS m) (stsCells st) 0) B nb cells W := by
      rintro _ rfl
      exact HW2.out
    exact ⟨0, Nat.zero_le _, rfl, e _ (by rw [HWS.out]; simp)⟩
  case round =>
    obtain ⟨k, hk, rfl, hw⟩ := hrel
    obtain ⟨hcS, hzS⟩ := block_cells (HSW.out wr hw.fr)
    have hSr : w.heap.size < wr.heap.size := lt_of_block (HSW.out wr hw.fr)
    clear hcb hzb HW2 HWS
    by_cases hlt : k < len
    · obtain ⟨g, c', hv, _, hgl⟩ := hw.l.form (by omega)
      cases hv
      have hpl : (partE (mkS m) (stsCells st) k).length = len * 3 := partE_len (mkS m) (stsCells st) len k HSL.out (by omega)
      have hEx : ∀ j, j < 3 → ∃ u, wr.cell? ⟨g, k * 3 + j, none⟩ = some u := fun j hj => by
        have hj' : k * 3 + j < len * 3 := by omega
        exact ⟨_, (hw.l.cellAt (k * 3 + j) hj').trans (List.getElem?_eq_getElem (by omega))⟩
      obtain ⟨u0, hu0⟩ := hEx 0 (by omega)
      obtain ⟨u1, hu1⟩ := hEx 1 (by omega)
      obtain ⟨u2, hu2⟩ := hEx 2 (by omega)
      rw [Nat.add_zero] at hu0
      have hfz := fun j => hw.l.frozenAt j
      have hset := ((hw.put three_S (k * 3) (.int .i64 m)).put three_S (k * 3 + 1) (.int .i64 0)).put three_S (k * 3 + 2) (.int .u64 0)
      have hps : (((partE (mkS m) (stsCells st) k).set (k * 3) (.int .i64 m)).set (k * 3 + 1) (.int .i64 0)).set (k * 3 + 2) (.int .u64 0) = partE (mkS m) (stsCells st) (k + 1) := partE_set3 _ _ _ _ len k HSL.out hlt
      rw [hps] at hset
      have HR : Hid (WritE _ _ _ _ _ _ _ _ _ _ _ _ _ _) := hset
      have hgS : g < w.heap.size := HLW.out g rfl
      clear hset hw hpl hEx hps
      go_wp2
      go_roundw
      case rel => exact ⟨k + 1, by omega, by go_num, HR.out⟩
      case measure => simp [intOf]; omega
    · obtain rfl : k = len := by omega
      rw [partE_all (mkS m) (stsCells st) k HSL.out] at hw
      have HM0 : Hid (∀ xs, MidE _ _ _ _ _ _ _ _ _ _ _ _ _ _ _ _ _ _) := fun xs => hw.mid hlbS HLV.out xs
      have HSX : Hid (∀ w', Fr (TurnE b (.slice va k vc) (.slice sa nb sc)) WS w' → w'.heap[w.heap.size]? = some (.cells #[.int .i64 m, .int .i64 0, .int .u64 0] 122 (0, 0))) := HSW.out
      clear HSW hlt hk hw
      go_wp2_with (first
        | (at_builtin; refine wpList_append_fam _ rfl (.tmp 34) (.tmp 36) 48 rfl 122 i0 _ 3 24 Tryz.underlying48 hi hz0 hz1 hz2 rfl (by decide) (mkS m) rfl (by simp [mkS, Value.oneCell']) (.slice va k vc) k (by rfl) ((HM0.out _).grow ((Fr.refl New _).alloc _)).l ⟨wr.heap.size + 1, 0, none⟩ 1 1 (by rfl) (by decide) (World.news_of_block (new_at2 wr _ _)) (by unfold maxLen; omega) (by omega) ?_; intro g1 c1 w1 ho1 hg1 hb1 hk1; have M1a := (HM0.out _).more three_S ((Fr.refl New _).alloc _) (m := 1) (by omega) ho1 hg1 hb1 hk1; clear ho1 hg1 hb1 hk1; obtain ⟨hc1, hf1⟩ := block_cells M1a.x; obtain ⟨hs1, hsz1⟩ := block_cells (HSX.out w1 M1a.fr); have hl1 : w.heap.size < w1.heap.size := lt_of_block (HSX.out w1 M1a.fr); have M1 := M1a.put three_S 1 (.slice (some ⟨g1, 0, none⟩) (k + 1) c1); clear M1a; obtain ⟨hr1, hrz1⟩ := block_cells (HSX.out _ M1.fr))
        | (at_builtin; refine wpList_append_fam _ rfl (.tmp 39) (.tmp 42) 48 rfl 122 i0 _ 3 24 Tryz.underlying48 hi hz0 hz1 hz2 rfl (by decide) (mkS m) rfl (by simp [mkS, Value.oneCell']) (.slice va k vc) k (by rfl) (M1.grow ((Fr.refl New _).alloc _)).l ⟨w1.heap.size, 0, none⟩ 2 2 (by rfl) (by decide) (World.news_of_block (blkS w1 _ _ _)) (by unfold maxLen; omega) (by omega) ?_; intro g2 c2 w2 ho2 hg2 hb2 hk2; have M2a := M1.more three_S ((Fr.refl New _).alloc _) (m := 2) (by omega) ho2 hg2 hb2 hk2; clear ho2 hg2 hb2 hk2; obtain ⟨hc2, hf2⟩ := block_cells M2a.x; obtain ⟨hs2, hsz2⟩ := block_cells (HSX.out w2 M2a.fr); have hl2 : w.heap.size < w2.heap.size := lt_of_block (HSX.out w2 M2a.fr); have M2 := M2a.put three_S 2 (.slice (some ⟨g2, 0, none⟩) (k + 2) c2); clear M2a; obtain ⟨hr2, hrz2⟩ := block_cells (HSX.out _ M2.fr))
        | (at_builtin; refine wpList_append_fam _ rfl (.tmp 45) (.tmp 49) 48 rfl 122 i0 _ 3 24 Tryz.underlying48 hi hz0 hz1 hz2 rfl (by decide) (mkS m) rfl (by simp [mkS, Value.oneCell']) (.slice va k vc) k (by rfl) (M2.grow ((Fr.refl New _).alloc _)).l ⟨w2.heap.size, 0, none⟩ 3 3 (by rfl) (by decide) (World.news_of_block (blkS w2 _ _ _)) (by unfold maxLen; omega) (by omega) ?_; intro g3 c3 w3 ho3 hg3 hb3 hk3; have M3a := M2.more three_S ((Fr.refl New _).alloc _) (m := 3) (by omega) ho3 hg3 hb3 hk3; clear ho3 hg3 hb3 hk3; obtain ⟨hc3, hf3⟩ := block_cells M3a.x; obtain ⟨hs3, hsz3⟩ := block_cells (HSX.out w3 M3a.fr); have hl3 : w.heap.size < w3.heap.size := lt_of_block (HSX.out w3 M3a.fr); have M3 := M3a.put three_S 3 (.slice (some ⟨g3, 0, none⟩) (k + 3) c3); clear M3a; obtain ⟨hr3, hrz3⟩ := block_cells (HSX.out _ M3.fr))
        | fail)
      clear HM0 hc1 hf1 hc2 hf2 hc3 hf3 M1 M2 hs1 hs2 hs3 hsz1 hsz2 hsz3 hr1 hr2 hr3 hrz1 hrz2 hrz3 hl1 hl2 hl3 hi hz0 hz1 hz2 hcS hzS hSr
      obtain ⟨X, hX⟩ : ∃ X, X = wr.heap.size := ⟨_, rfl⟩
      obtain ⟨W, hW⟩ : ∃ W, W = w3.setCell ⟨wr.heap.size, 3, none⟩ (.slice (some ⟨g3, 0, none⟩) (k + 3) c3) := ⟨_, rfl⟩
      rw [← hW] at M3 ⊢
      rw [← hX] at M3 ⊢
      clear hW hX
      have M : MidE 122 149 3 (mkS m) WS b X #[vws, vhs, .int .i64 ((n + 1 : Nat) : Int), vb, .slice sa nb sc, vos] (.slice va k vc) (.slice sa nb sc) k B nb cells #[.slice va k vc, .slice (some ⟨g1, 0, none⟩) (k + 1) c1, .slice (some ⟨g2, 0, none⟩) (k + 2) c2, .slice (some ⟨g3, 0, none⟩) (k + 3) c3, .int .i64 m] _ 3 W := M3
      clear M3
      obtain ⟨hcx, hzx⟩ := block_cells M.x
      obtain ⟨hcb, hzb⟩ := block_cells M.bk
      have hbW : b < W.heap.size := lt_of_block M.bk
      have HB2 : Hid (B ≤ WS.heap.size) := HBS.out
      go_region_law (refine step_entE M three_S 83 j0 _ Tryz.underlying83 hj hy0 hy1 hy2 rfl HB2.out hnb rfl (by simp [Value.oneCell']) (.tmp 56) (.tmp 58) rfl rfl (by simp [Act.eval]) (by simp [Act.eval]) (by first | exact (Fr.refl New W).alloc _ | exact (Fr.refl New W).drew.alloc _ | exact ((Fr.refl New W).alloc _).drew) (by first | exact Go.Deep.blk_alloc_new W _ | exact Go.Deep.blk_alloc_new W.drew _) ?_; intro g cap w4 ho4 hbk4 hfu4 hfr4; obtain ⟨hc4, hf4⟩ := block_cells hbk4)
      all_goals
        obtain ⟨b1, b2, b3, b4⟩ := lastE three_S hbk4 hfu4 hfr4 ho4 4
        go_end0
        refine ⟨rfl, _, _, _, _, b1, b2, fun u hu => b3 u ?_, fun u hu k' hk' => ?_, HF1.out.trans b4 (fun _ _ h => h)⟩
        · simp only [List.mem_cons, List.not_mem_nil, or_false] at hu ⊢
          rcases hu with h | h | h | h <;> simp [h]
        · have := M.nw u (by simp only [List.mem_cons, List.not_mem_nil, or_false] at hu ⊢; rcases hu with h | h | h | h <;> simp [h]) k' hk'
          rcases this with h | h
          · have := HSZ.out; exact .inl (by omega)
          · exact .inr h
end Go.Proofs.YtbagcjlimdilpaaGreat
