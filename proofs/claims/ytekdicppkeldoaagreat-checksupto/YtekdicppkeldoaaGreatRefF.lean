/- The walk of the document's 'asks'. -/
import Derived.Test.YtekdicppkeldoaaGreatSpecL
import Derived.Test.YtekdicppkeldoaaGreatRefE
namespace Go.Proofs.YtekdicppkeldoaaGreat
open Go.RowKit

theorem wd_U {ws : List Int} (hU : ∀ z ∈ ws, U z) (i : Nat) : U (wd ws i) := by
  unfold wd
  by_cases hl : i < ws.length
  · rw [List.getD_eq_getElem?_getD, List.getElem?_eq_getElem hl]; exact hU _ (List.getElem_mem _)
  · rw [List.getD_eq_getElem?_getD, List.getElem?_eq_none (by omega)]; exact ⟨by decide, by decide⟩

theorem two_one (x y : Int) : ∀ u ∈ [Value.int .u64 x, Value.int .u64 y], u.oneCell' = true := by
  intro u hu
  simp only [List.mem_cons, List.not_mem_nil, or_false] at hu
  rcases hu with rfl | rfl <;> rfl

set_option maxHeartbeats 1000000 in
set_option maxRecDepth 1000000 in
theorem asks_any (a : Option Addr) (cap : Nat) (ws : List Int) (w : World) (hm : ws.length ≤ 1048576) (h106 : 106 ≤ ws.length) (hU : ∀ z ∈ ws, U z) (hr : RowU w a ws) :
    Calls Tryz.prog 70 #[.slice a ws.length cap] w fun e w' => e = .returned (.tuple #[.int .i64 (asksS ws).1, .bool (asksS ws).2]) ∧ Fr New w w' := by
  obtain ⟨sb, so, rfl, hsb, hcw⟩ := rowU_plain hr (by omega)
  have HW : Hid (∀ wr, Fr New w wr → ∀ i, i < ws.length → wr.cell? ⟨sb, so + i, none⟩ = some (.int .u64 (wd ws i))) := fun wr hf i hi => hf.cell (hcw i hi) id
  have c8 := hcw 8 (by omega)
  have h8U := wd_U hU 8
  obtain ⟨h, hh⟩ : ∃ h, h = wd ws 8 := ⟨_, rfl⟩
  rw [← hh] at c8 h8U
  have HH : Hid (h = wd ws 8) := hh
  obtain ⟨hlo, hhi⟩ := h8U
  have HUU : Hid (∀ z ∈ ws, U z) := hU
  clear hcw hr hh hU
  by_cases h0 : h = 0
  · rw [asks_none (by rw [← HH.out]; exact h0)]
    subst h0
    go_enter Tryz.func70, Tryz.ntmps70
    go_wp2
    go_ret2
    exact ⟨rfl, Fr.refl _ _⟩
  by_cases h48 : 48 < h
  · rw [asks_many (by rw [← HH.out]; exact h0) (by rw [← HH.out]; exact h48)]
    have hd : (h == 0) = false := by simpa using h0
    go_enter Tryz.func70, Tryz.ntmps70
    go_wp2
    go_ret2
    exact ⟨rfl, Fr.refl _ _⟩
  obtain ⟨n, hn⟩ := Int.eq_ofNat_of_zero_le hlo
  have HNN : Hid (h = (n : Int)) := hn
  subst hn
  have hn48 : n ≤ 48 := by omega
  have hd : ((n : Int) == 0) = false := by simpa using h0
  have HNT : Hid ((wd ws 8).toNat = n) := by rw [← HH.out]; exact Int.toNat_natCast n
  have hwL : IntKind.u64.wrap (ws.length : Int) = ws.length := by rw [IntKind.wrap_u64]; omega
  obtain ⟨i0, hi0, hz0, hz1, hz2⟩ := info_parts Tryz.info36
  clear h48 hlo hhi
  go_enter Tryz.func70, Tryz.ntmps70
  go_wp2
  go_loopg [5, 6] n (fun gh v t wr => ∃ i : Nat, i ≤ n ∧ gh = n - i ∧ t = .int .i64 i ∧ Own w.heap.size wr v (logWords ws i) ∧ Fr New w wr ∧ ∀ j, j < i → okAt ws.length (wd ws (10 + 2 * j)) = true)
  case atStart => exact ⟨0, by omega, rfl, rfl, by rw [logWords_zero, ← HH.out]; exact World.ownsRow_lit w #[.int .u64 (n : Int)] 1 (Nat.le_refl _) (by decide) rfl, (Fr.refl _ _).alloc _, fun j hj => by omega⟩
  case round =>
    obtain ⟨i, hin, rfl, rfl, hown, hf, hok⟩ := hrel
    have HOK : Hid (∀ j, j < i → okAt ws.length (wd ws (10 + 2 * j)) = true) := hok
    clear hok
    by_cases hi : i < n
    · have hca := HW.out wr hf (10 + 2 * i) (by omega)
      have hcb := HW.out wr hf (11 + 2 * i) (by omega)
      have haU := wd_U HUU.out (10 + 2 * i)
      obtain ⟨x, hx⟩ : ∃ x, x = wd ws (10 + 2 * i) := ⟨_, rfl⟩
      obtain ⟨y, hy⟩ : ∃ y, y = wd ws (11 + 2 * i) := ⟨_, rfl⟩
      rw [← hx] at hca haU
      rw [← hy] at hcb
      have HXY : Hid (x = wd ws (10 + 2 * i) ∧ y = wd ws (11 + 2 * i)) := ⟨hx, hy⟩
      clear hx hy
      obtain ⟨hx0, hx1⟩ := haU
      have hll := logWords_len ws i
      have HLL : Hid ((logWords ws i).length = 1 + 2 * i) := hll
      clear hll
      rcases hoa : okAt ws.length x with _ | _
      · have HT : Hid (asksS ws = (0, false)) := asks_wrong (by rw [← HH.out]; exact h0) (by rw [← HH.out]; omega) (i := i) (by rw [HNT.out]; exact hi) (by rw [← HXY.out.1]; exact hoa)
        have hwhy : (ws.length : Int) ≤ x ∨ (x < ws.length ∧ 8 ≤ x ∧ x < 106) := by
          by_cases hA : (ws.length : Int) ≤ x
          · exact .inl hA
          · right
            have : ¬ (x < ws.length ∧ (x < 8 ∨ 106 ≤ x)) := fun hh => by rw [okAt_iff.2 hh] at hoa; cases hoa
            omega
        clear hoa
        rcases hwhy with hA | ⟨hA, hB, hC⟩
        · have hdA : decide ((ws.length : Int) ≤ x) = true := by simpa using hA
          go_wp2
          go_ret2
          rw [HT.out]
          exact ⟨rfl, hf⟩
        · have hdA : decide ((ws.length : Int) ≤ x) = false := by simp; omega
          have hdB : decide ((8 : Int) ≤ x) = true := by simpa using hB
          have hdC : decide (x < 106) = true := by simpa using hC
          go_wp2
          go_ret2
          rw [HT.out]
          exact ⟨rfl, hf⟩
      · obtain ⟨hA, hBC⟩ := okAt_iff.1 hoa
        have HOA : Hid (okAt ws.length x = true) := hoa
        clear hoa
        have hdA : decide ((ws.length : Int) ≤ x) = false := by simp; omega
        have hi' := hi0
        rcases hBC with hB | hC
        · have hdB : decide ((8 : Int) ≤ x) = false := by simp; omega
          go_wp2_with (first
            | (at_builtin; refine wpList_append_own _ rfl (.tmp 49) (.tmp 57) 37 rfl w.heap.size 36 i0 (.int .u64 0) 1 8 Tryz.underlying37 hi' hz0 hz1 hz2 rfl (by decide) _ _ _ rfl (hown.alloc _) ⟨wr.heap.size, 0, none⟩ 2 2 [.int .u64 x, .int .u64 y] rfl rfl (World.news_of_block (new_at _ _ _ rfl)) (two_one x y) (by have := HLL.out; unfold maxLen; omega) (by have := HLL.out; omega) (by have := hf.size; simp; omega) ?_; intro v2 w2 ho2 hg2 _)
            | fail)
          have hown2 : Own w.heap.size w2 v2 (logWords ws (i + 1)) := by
            unfold Own
            rw [logWords_succ, ← HXY.out.1, ← HXY.out.2, List.length_append, List.map_append]
            exact ho2
          have hf2 : Fr New w w2 := (hf.alloc _).grown hg2 (fun k hk hv => by have := (hown.lt k hv).1; omega)
          clear ho2 hg2
          go_wp2
          go_roundg (n - (i + 1))
          case measure => omega
          case rel => exact ⟨i + 1, by omega, rfl, by go_num, hown2, hf2, fun j hj => by
            rcases Nat.lt_or_ge j i with hlt | hge
            · exact HOK.out j hlt
            · obtain rfl : j = i := by omega
              rw [← HXY.out.1]; exact HOA.out⟩
        · have hdB : decide ((8 : Int) ≤ x) = true := by simp; omega
          have hdC : decide (x < 106) = false := by simp; omega
          go_wp2_with (first
            | (at_builtin; refine wpList_append_own _ rfl (.tmp 49) (.tmp 57) 37 rfl w.heap.size 36 i0 (.int .u64 0) 1 8 Tryz.underlying37 hi' hz0 hz1 hz2 rfl (by decide) _ _ _ rfl (hown.alloc _) ⟨wr.heap.size, 0, none⟩ 2 2 [.int .u64 x, .int .u64 y] rfl rfl (World.news_of_block (new_at _ _ _ rfl)) (two_one x y) (by have := HLL.out; unfold maxLen; omega) (by have := HLL.out; omega) (by have := hf.size; simp; omega) ?_; intro v2 w2 ho2 hg2 _)
            | fail)
          have hown2 : Own w.heap.size w2 v2 (logWords ws (i + 1)) := by
            unfold Own
            rw [logWords_succ, ← HXY.out.1, ← HXY.out.2, List.length_append, List.map_append]
            exact ho2
          have hf2 : Fr New w w2 := (hf.alloc _).grown hg2 (fun k hk hv => by have := (hown.lt k hv).1; omega)
          clear ho2 hg2
          go_wp2
          go_roundg (n - (i + 1))
          case measure => omega
          case rel => exact ⟨i + 1, by omega, rfl, by go_num, hown2, hf2, fun j hj => by
            rcases Nat.lt_or_ge j i with hlt | hge
            · exact HOK.out j hlt
            · obtain rfl : j = i := by omega
              rw [← HXY.out.1]; exact HOA.out⟩
    · obtain rfl : i = n := by omega
      have HT : Hid (asksS ws = (i, sumL (logWords ws i) == wd ws 9)) := by
        have := asks_right (ws := ws) (by rw [← HH.out]; exact h0) (by rw [← HH.out]; omega) (by rw [HNT.out]; exact HOK.out)
        rw [HNT.out] at this
        exact this
      have hc9 := HW.out wr hf 9 (by omega)
      obtain ⟨av, cv, rfl, hmx, hrow, _⟩ := own_row hown
      have HS : Hid (Calls Tryz.prog 43 #[.slice av (logWords ws i).length cv] wr fun e w' => e = .returned (.int .u64 (sumL (logWords ws i))) ∧ w' = wr) := rsum_any av _ cv (logWords ws i) wr rfl hmx hrow
      obtain ⟨sm, hsm⟩ : ∃ sm, sm = sumL (logWords ws i) := ⟨_, rfl⟩
      obtain ⟨x9, hx9⟩ : ∃ x, x = wd ws 9 := ⟨_, rfl⟩
      rw [← hsm] at HS HT
      rw [← hx9] at hc9 HT
      clear hsm hx9 hown hrow hmx
      go_wp2_with (go_at_call 43; refine calls_same HS.out ?_)
      go_quiet (fail)
      go_wp2
      go_ret2
      rw [HT.out]
      exact ⟨rfl, hf.drewN _⟩
end Go.Proofs.YtekdicppkeldoaaGreat
