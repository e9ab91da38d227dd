/- Texts that follow one another, joined. -/
import Derived.Test.YtbagcjlimdilpaaGreatChPgB
import Derived.Deep.CutRange
import Derived.Test.YtbagcjlimdilpaaGreatChJ1
import Derived.Test.YtbagcjlimdilpaaGreatChRefE
import Derived.Test.YtbagcjlimdilpaaGreatChPgE
/- Walks of the program's find: what stands at a block. -/
namespace Go.Proofs.YtbagcjlimdilpaaGreat
open Go.RowKit

/-- what a walk finds, as a value -/
abbrev thingV (k b s p : Int) : Value := .agg #[.int .i64 k, .int .i64 b, .int .i64 s, .int .i64 p]
/-- what stands at block b, as a value -/
def slotV (s : Option (Option Ob)) (b : Nat) : Value :=
  match s with
  | none => thingV 0 ((b + 1 : Nat) : Int) 1 0
  | some (some o) => thingV 1 ((b + 1 : Nat) : Int) o.span o.ptrs
  | some none => thingV 2 ((b + 1 : Nat) : Int) 1 0

theorem slot_case {ws : List Int} {b n : Nat} (hL : ws.length = 106 + 8 * n) (h0 : wd ws (106 + 8 * b) ≠ 0) :
    (hdr1 (wd ws (106 + 8 * b)) ∧ b + spanOf (wd ws (106 + 8 * b)) ≤ n ∧ slotAt ws b = some (some ⟨b, spanOf (wd ws (106 + 8 * b)), ptrsOf (wd ws (106 + 8 * b))⟩)) ∨
    (hdr1 (wd ws (106 + 8 * b)) ∧ n < b + spanOf (wd ws (106 + 8 * b)) ∧ slotAt ws b = some none) ∨ (¬ hdr1 (wd ws (106 + 8 * b)) ∧ slotAt ws b = some none) := by
  obtain ⟨h, hh⟩ : ∃ h, h = wd ws (106 + 8 * b) := ⟨_, rfl⟩
  unfold slotAt
  rw [← hh] at h0 ⊢
  rw [if_neg h0]
  by_cases h1 : hdr1 h
  · by_cases h2 : b + spanOf h ≤ n
    · refine .inl ⟨h1, h2, ?_⟩
      rw [if_pos (okB_iff.2 ⟨h1.1, h1.2.1, h1.2.2, by omega⟩)]
    · refine .inr (.inl ⟨h1, by omega, ?_⟩)
      rw [if_neg]
      intro hk
      have := (okB_iff.1 hk).2.2.2
      omega
  · refine .inr (.inr ⟨h1, ?_⟩)
    rw [if_neg]
    intro hk
    have := okB_iff.1 hk
    exact h1 ⟨this.1, this.2.1, this.2.2.1⟩

set_option maxHeartbeats 1000000 in
set_option maxRecDepth 100000 in
theorem find_thing (t : Nat) (x : Value) (fL fR : Nat) (y : Value) (L n b : Nat) (ws : List Int) (w : World) (hL : ws.length = L) (hn : L = 106 + 8 * n) (hn32 : n ≤ 32) (hb : b < n) (hrow : RowAt w t x fL fR y ws) :
    Calls Tryz.prog 148 #[.iface t x, .int .i64 ((b + 1 : Nat) : Int), .int .i64 (n : Int)] w fun e w' => e = .returned (slotV (slotAt ws b) b) ∧ Fr New w w' := by
  have HSC := slot_case (ws := ws) (b := b) (n := n) (by omega)
  have HF : Hid (wd ws (106 + 8 * b) = 0 → slotAt ws b = none) := slot_free
  obtain ⟨h, hh⟩ : ∃ h, h = wd ws (106 + 8 * b) := ⟨_, rfl⟩
  rw [← hh] at HSC HF
  have HP : Hid (∀ w, Calls Tryz.prog 118 #[.int .i64 ((b + 1 : Nat) : Int)] w fun e w' => e = .returned (.int .i64 ((106 + 8 * b : Nat) : Int)) ∧ w' = w) := fun w => place_of b w (by omega)
  have HR : Hid (∀ w', Fr New w w' → Calls Tryz.prog fR #[y, .int .i64 ((106 + 8 * b : Nat) : Int)] w' fun e w'' => e = .returned (.int .u64 h) ∧ w'' = w') := fun w' hf => by rw [hh]; exact hrow.read w' hf _ (by omega)
  obtain ⟨B, hB⟩ : ∃ B : Nat, B = b + 1 := ⟨_, rfl⟩
  obtain ⟨q, hq⟩ : ∃ q : Nat, q = 106 + 8 * b := ⟨_, rfl⟩
  rw [← hq] at HP HR
  have HB : Hid (B = b + 1) := hB
  rw [← hB] at HP ⊢
  have HM : Hid (∀ w', Fr New w w' → (method 356 t x "Read").run Tryz.prog w' = .ok (fR, y) w') := hrow.mread
  have ha := hrow.aread
  have hcf := hrow.cread
  have hBn : B ≤ n := by omega
  have hmf : ∀ (fn : Fn) (first cap : Array Value) (w : World), (Instr.makeFunc fn first cap).run Tryz.prog w = .ok (.func fn first cap) w := fun _ _ _ _ => rfl
  clear hB hq hh hrow hL hn
  by_cases h0 : h = 0
  · rw [HF.out h0]
    subst h0
    clear HSC HF
    go_enter Tryz.func148, Tryz.ntmps148
    go_upto_region 1 with fail
    go_region_with (first
      | (go_at_call 118; refine calls_same (HP.out _) ?_)
      | (rw [HM.out]; rotate_left 1; focus (repeat (first | exact Fr.refl _ _ | assumption | apply Fr.drew | apply Fr.alloc)))
      | (refine calls_same (HR.out _ (by repeat (first | exact Fr.refl _ _ | assumption | apply Fr.drew | apply Fr.alloc))) ?_))
    all_goals go_wp2_with fail
    all_goals exact bodyPost_ret (v := slotV none b) (by simp [results, Tryz.results148, go_sem, slotV, thingV, HB.out]) rfl ⟨rfl, by first | exact ((Fr.refl _ _).alloc _).drew | exact (Fr.refl _ _).alloc _⟩
  rcases HSC h0 with ⟨h1, h2, h3⟩ | ⟨h1, h2, h3⟩ | ⟨h1, h3⟩
  · have HY : Hid (∀ w, Calls Tryz.prog 157 #[.int .u64 h] w fun e w' => e = .returned (.tuple #[.int .i64 (spanOf h), .int .i64 (ptrsOf h), .bool true]) ∧ w' = w) := fun w => parse_yes h w h1
    have hz : (h == 0) = false := by simpa using h0
    obtain ⟨s, hs⟩ : ∃ s, s = spanOf h := ⟨_, rfl⟩
    obtain ⟨p, hp⟩ : ∃ p, p = ptrsOf h := ⟨_, rfl⟩
    rw [← hs, ← hp] at h3 HY
    rw [← hs] at h2
    rw [h3]
    have hd : decide ((n : Int) < (B : Int) + s - 1) = false := by have := HB.out; simp; omega
    have hb32 : s ≤ 32 := by omega
    clear HSC HF h0 h1 h2 h3 hs hp
    go_enter Tryz.func148, Tryz.ntmps148
    go_upto_region 1 with fail
    go_region_with (first
      | (go_at_call 118; refine calls_same (HP.out _) ?_)
      | (rw [HM.out]; rotate_left 1; focus (repeat (first | exact Fr.refl _ _ | assumption | apply Fr.drew | apply Fr.alloc)))
      | (refine calls_same (HR.out _ (by repeat (first | exact Fr.refl _ _ | assumption | apply Fr.drew | apply Fr.alloc))) ?_))
    all_goals go_wp2_with (go_at_call 157; refine calls_same (HY.out _) ?_)
    all_goals exact bodyPost_ret (v := slotV (some (some ⟨b, s, p⟩)) b) (by simp [results, Tryz.results148, go_sem, slotV, thingV, HB.out]) rfl ⟨rfl, by first | exact ((Fr.refl _ _).alloc _).drew | exact (Fr.refl _ _).alloc _⟩
  · have HY : Hid (∀ w, Calls Tryz.prog 157 #[.int .u64 h] w fun e w' => e = .returned (.tuple #[.int .i64 (spanOf h), .int .i64 (ptrsOf h), .bool true]) ∧ w' = w) := fun w => parse_yes h w h1
    have hz : (h == 0) = false := by simpa using h0
    have hs4 : spanOf h ≤ 4 := by obtain ⟨a1, a2, _⟩ := h1; unfold spanOf; omega
    obtain ⟨s, hs⟩ : ∃ s, s = spanOf h := ⟨_, rfl⟩
    obtain ⟨p, hp⟩ : ∃ p, p = ptrsOf h := ⟨_, rfl⟩
    rw [← hs, ← hp] at HY
    rw [← hs] at h2 hs4
    rw [h3]
    have hd : decide ((n : Int) < (B : Int) + s - 1) = true := by have := HB.out; simp; omega
    clear HSC HF h0 h1 h2 h3 hs hp
    go_enter Tryz.func148, Tryz.ntmps148
    go_upto_region 1 with fail
    go_region_with (first
      | (go_at_call 118; refine calls_same (HP.out _) ?_)
      | (rw [HM.out]; rotate_left 1; focus (repeat (first | exact Fr.refl _ _ | assumption | apply Fr.drew | apply Fr.alloc)))
      | (refine calls_same (HR.out _ (by repeat (first | exact Fr.refl _ _ | assumption | apply Fr.drew | apply Fr.alloc))) ?_))
    all_goals go_wp2_with (go_at_call 157; refine calls_same (HY.out _) ?_)
    all_goals exact bodyPost_ret (v := slotV (some none) b) (by simp [results, Tryz.results148, go_sem, slotV, thingV, HB.out]) rfl ⟨rfl, by first | exact ((Fr.refl _ _).alloc _).drew | exact (Fr.refl _ _).alloc _⟩
  · have HY : Hid (∀ w, Calls Tryz.prog 157 #[.int .u64 h] w fun e w' => e = .returned (.tuple #[.int .i64 0, .int .i64 0, .bool false]) ∧ w' = w) := fun w => parse_no h w h1
    have hz : (h == 0) = false := by simpa using h0
    rw [h3]
    clear HSC HF h0 h1 h3
    go_enter Tryz.func148, Tryz.ntmps148
    go_upto_region 1 with fail
    go_region_with (first
      | (go_at_call 118; refine calls_same (HP.out _) ?_)
      | (rw [HM.out]; rotate_left 1; focus (repeat (first | exact Fr.refl _ _ | assumption | apply Fr.drew | apply Fr.alloc)))
      | (refine calls_same (HR.out _ (by repeat (first | exact Fr.refl _ _ | assumption | apply Fr.drew | apply Fr.alloc))) ?_))
    all_goals go_wp2_with (go_at_call 157; refine calls_same (HY.out _) ?_)
    all_goals exact bodyPost_ret (v := slotV (some none) b) (by simp [results, Tryz.results148, go_sem, slotV, thingV, HB.out]) rfl ⟨rfl, by first | exact ((Fr.refl _ _).alloc _).drew | exact (Fr.refl _ _).alloc _⟩
end Go.Proofs.YtbagcjlimdilpaaGreat
/- The walk of the document's 'asks'. -/
namespace Go.Proofs.YtbagcjlimdilpaaGreat
open Go.RowKit

theorem wd_U {ws : List Int} (hU : ∀ z ∈ ws, U z) (i : Nat) : U (wd ws i) := by
  unfold wd
  by_cases hl : i < ws.length
  · rw [List.getD_eq_getElem?_getD, List.getElem?_eq_getElem hl]; exact hU _ (List.getElem_mem _)
  · rw [List.getD_eq_getElem?_getD, List.getElem?_eq_none (by omega)]; exact ⟨by decide, by decide⟩

theorem two_one (x y : Int) : ∀ u ∈ [Value.int .u64 x, Value.int .u64 y], u.oneCell' = true := by
  intro u hu
  simp only [List.mem_cons, List.not_mem_nil, or_false] at hu
  rcases hu with rfl | rfl <;> rfl

set_option maxHeartbeats 1000000 in
set_option maxRecDepth 1000000 in
theorem asks_any (a : Option Addr) (cap : Nat) (ws : List Int) (w : World) (hm : ws.length ≤ 1048576) (h106 : 106 ≤ ws.length) (hU : ∀ z ∈ ws, U z) (hr : RowU w a ws) :
    Calls Tryz.prog 150 #[.slice a ws.length cap] w fun e w' => e = .returned (.tuple #[.int .i64 (asksS ws).1, .bool (asksS ws).2]) ∧ Fr New w w' := by
  obtain ⟨sb, so, rfl, hsb, hcw⟩ := rowU_plain hr (by omega)
  have HW : Hid (∀ wr, Fr New w wr → ∀ i, i < ws.length → wr.cell? ⟨sb, so + i, none⟩ = some (.int .u64 (wd ws i))) := fun wr hf i hi => hf.cell (hcw i hi) id
  have c8 := hcw 8 (by omega)
  have h8U := wd_U hU 8
  obtain ⟨h, hh⟩ : ∃ h, h = wd ws 8 := ⟨_, rfl⟩
  rw [← hh] at c8 h8U
  have HH : Hid (h = wd ws 8) := hh
  obtain ⟨hlo, hhi⟩ := h8U
  have HUU : Hid (∀ z ∈ ws, U z) := hU
  clear hcw hr hh hU
  by_cases h0 : h = 0
  · rw [asks_none (by rw [← HH.out]; exact h0)]
    subst h0
    go_enter Tryz.func150, Tryz.ntmps150
    go_wp2
    go_ret2
    exact ⟨rfl, Fr.refl _ _⟩
  by_cases h48 : 48 < h
  · rw [asks_many (by rw [← HH.out]; exact h0) (by rw [← HH.out]; exact h48)]
    have hd : (h == 0) = false := by simpa using h0
    go_enter Tryz.func150, Tryz.ntmps150
    go_wp2
    go_ret2
    exact ⟨rfl, Fr.refl _ _⟩
  obtain ⟨n, hn⟩ := Int.eq_ofNat_of_zero_le hlo
  have HNN : Hid (h = (n : Int)) := hn
  subst hn
  have hn48 : n ≤ 48 := by omega
  have hd : ((n : Int) == 0) = false := by simpa using h0
  have HNT : Hid ((wd ws 8).toNat = n) := by rw [← HH.out]; exact Int.toNat_natCast n
  have hwL : IntKind.u64.wrap (ws.length : Int) = ws.length := by rw [IntKind.wrap_u64]; omega
  obtain ⟨i0, hi0, hz0, hz1, hz2⟩ := info_parts Tryz.info50
  clear h48 hlo hhi
  go_enter Tryz.func150, Tryz.ntmps150
  go_wp2
  go_loopg [5, 6] n (fun gh v t wr => ∃ i : Nat, i ≤ n ∧ gh = n - i ∧ t = .int .i64 i ∧ Own w.heap.size wr v (logWords ws i) ∧ Fr New w wr ∧ ∀ j, j < i → okAt ws.length (wd ws (10 + 2 * j)) = true)
  case atStart => exact ⟨0, by omega, rfl, rfl, by rw [logWords_zero, ← HH.out]; exact World.ownsRow_lit w #[.int .u64 (n : Int)] 1 (Nat.le_refl _) (by decide) rfl, (Fr.refl _ _).alloc _, fun j hj => by omega⟩
  case round =>
    obtain ⟨i, hin, rfl, rfl, hown, hf, hok⟩ := hrel
    have HOK : Hid (∀ j, j < i → okAt ws.length (wd ws (10 + 2 * j)) = true) := hok
    clear hok
    by_cases hi : i < n
    · have hca := HW.out wr hf (10 + 2 * i) (by omega)
      have hcb := HW.out wr hf (11 + 2 * i) (by omega)
      have haU := wd_U HUU.out (10 + 2 * i)
      obtain ⟨x, hx⟩ : ∃ x, x = wd ws (10 + 2 * i) := ⟨_, rfl⟩
      obtain ⟨y, hy⟩ : ∃ y, y = wd ws (11 + 2 * i) := ⟨_, rfl⟩
      rw [← hx] at hca haU
      rw [← hy] at hcb
      have HXY : Hid (x = wd ws (10 + 2 * i) ∧ y = wd ws (11 + 2 * i)) := ⟨hx, hy⟩
      clear hx hy
      obtain ⟨hx0, hx1⟩ := haU
      have hll := logWords_len ws i
      have HLL : Hid ((logWords ws i).length = 1 + 2 * i) := hll
      clear hll
      rcases hoa : okAt ws.length x with _ | _
      · have HT : Hid (asksS ws = (0, false)) := asks_wrong (by rw [← HH.out]; exact h0) (by rw [← HH.out]; omega) (i := i) (by rw [HNT.out]; exact hi) (by rw [← HXY.out.1]; exact hoa)
        have hwhy : (ws.length : Int) ≤ x ∨ (x < ws.length ∧ 8 ≤ x ∧ x < 106) := by
          by_cases hA : (ws.length : Int) ≤ x
          · exact .inl hA
          · right
            have : ¬ (x < ws.length ∧ (x < 8 ∨ 106 ≤ x)) := fun hh => by rw [okAt_iff.2 hh] at hoa; cases hoa
            omega
        clear hoa
        rcases hwhy with hA | ⟨hA, hB, hC⟩
        · have hdA : decide ((ws.length : Int) ≤ x) = true := by simpa using hA
          go_wp2
          go_ret2
          rw [HT.out]
          exact ⟨rfl, hf⟩
        · have hdA : decide ((ws.length : Int) ≤ x) = false := by simp; omega
          have hdB : decide ((8 : Int) ≤ x) = true := by simpa using hB
          have hdC : decide (x < 106) = true := by simpa using hC
          go_wp2
          go_ret2
          rw [HT.out]
          exact ⟨rfl, hf⟩
      · obtain ⟨hA, hBC⟩ := okAt_iff.1 hoa
        have HOA : Hid (okAt ws.length x = true) := hoa
        clear hoa
        have hdA : decide ((ws.length : Int) ≤ x) = false := by simp; omega
        have hi' := hi0
        rcases hBC with hB | hC
        · have hdB : decide ((8 : Int) ≤ x) = false := by simp; omega
          go_wp2_with (first
            | (at_builtin; refine wpList_append_own _ rfl (.tmp 49) (.tmp 57) 43 rfl w.heap.size 50 i0 (.int .u64 0) 1 8 Tryz.underlying43 hi' hz0 hz1 hz2 rfl (by decide) _ _ _ rfl (hown.alloc _) ⟨wr.heap.size, 0, none⟩ 2 2 [.int .u64 x, .int .u64 y] rfl rfl (World.news_of_block (new_at _ _ _ rfl)) (two_one x y) (by have := HLL.out; unfold maxLen; omega) (by have := HLL.out; omega) (by have := hf.size; simp; omega) ?_; intro v2 w2 ho2 hg2 _)
            | fail)
          have hown2 : Own w.heap.size w2 v2 (logWords ws (i + 1)) := by
            unfold Own
            rw [logWords_succ, ← HXY.out.1, ← HXY.out.2, List.length_append, List.map_append]
            exact ho2
          have hf2 : Fr New w w2 := (hf.alloc _).grown hg2 (fun k hk hv => by have := (hown.lt k hv).1; omega)
          clear ho2 hg2
          go_wp2
          go_roundg (n - (i + 1))
          case measure => omega
          case rel => exact ⟨i + 1, by omega, rfl, by go_num, hown2, hf2, fun j hj => by
            rcases Nat.lt_or_ge j i with hlt | hge
            · exact HOK.out j hlt
            · obtain rfl : j = i := by omega
              rw [← HXY.out.1]; exact HOA.out⟩
        · have hdB : decide ((8 : Int) ≤ x) = true := by simp; omega
          have hdC : decide (x < 106) = false := by simp; omega
          go_wp2_with (first
            | (at_builtin; refine wpList_append_own _ rfl (.tmp 49) (.tmp 57) 43 rfl w.heap.size 50 i0 (.int .u64 0) 1 8 Tryz.underlying43 hi' hz0 hz1 hz2 rfl (by decide) _ _ _ rfl (hown.alloc _) ⟨wr.heap.size, 0, none⟩ 2 2 [.int .u64 x, .int .u64 y] rfl rfl (World.news_of_block (new_at _ _ _ rfl)) (two_one x y) (by have := HLL.out; unfold maxLen; omega) (by have := HLL.out; omega) (by have := hf.size; simp; omega) ?_; intro v2 w2 ho2 hg2 _)
            | fail)
          have hown2 : Own w.heap.size w2 v2 (logWords ws (i + 1)) := by
            unfold Own
            rw [logWords_succ, ← HXY.out.1, ← HXY.out.2, List.length_append, List.map_append]
            exact ho2
          have hf2 : Fr New w w2 := (hf.alloc _).grown hg2 (fun k hk hv => by have := (hown.lt k hv).1; omega)
          clear ho2 hg2
          go_wp2
          go_roundg (n - (i + 1))
          case measure => omega
          case rel => exact ⟨i + 1, by omega, rfl, by go_num, hown2, hf2, fun j hj => by
            rcases Nat.lt_or_ge j i with hlt | hge
            · exact HOK.out j hlt
            · obtain rfl : j = i := by omega
              rw [← HXY.out.1]; exact HOA.out⟩
    · obtain rfl : i = n := by omega
      have HT : Hid (asksS ws = (i, sumL (logWords ws i) == wd ws 9)) := by
        have := asks_right (ws := ws) (by rw [← HH.out]; exact h0) (by rw [← HH.out]; omega) (by rw [HNT.out]; exact HOK.out)
        rw [HNT.out] at this
        exact this
      have hc9 := HW.out wr hf 9 (by omega)
      obtain ⟨av, cv, rfl, hmx, hrow, _⟩ := own_row hown
      have HS : Hid (Calls Tryz.prog 121 #[.slice av (logWords ws i).length cv] wr fun e w' => e = .returned (.int .u64 (sumL (logWords ws i))) ∧ w' = wr) := rsum_any av _ cv (logWords ws i) wr rfl hmx hrow
      obtain ⟨sm, hsm⟩ : ∃ sm, sm = sumL (logWords ws i) := ⟨_, rfl⟩
      obtain ⟨x9, hx9⟩ : ∃ x, x = wd ws 9 := ⟨_, rfl⟩
      rw [← hsm] at HS HT
      rw [← hx9] at hc9 HT
      clear hsm hx9 hown hrow hmx
      go_wp2_with (go_at_call 121; refine calls_same HS.out ?_)
      go_quiet (fail)
      go_wp2
      go_ret2
      rw [HT.out]
      exact ⟨rfl, hf.drewN _⟩
end Go.Proofs.YtbagcjlimdilpaaGreat
/- What the document's Repair keeps in memory while it works, apart from its walk. -/
namespace Go.Proofs.YtbagcjlimdilpaaGreat
open Go.RowKit

/-- the words that are worked on, in a row of their own -/
structure Mem2 (w : World) (g c L : Nat) (cur : List Int) (wr : World) : Prop where
  own : wr.ownsRow w.heap.size 50 1 (.slice (some ⟨g, 0, none⟩) L c) L (cur.map (Value.int .u64))
  len : cur.length = L
  fr : Fr New w wr
theorem Mem2.base {w : World} {g c L : Nat} {cur : List Int} {wr : World} (h : Mem2 w g c L cur wr) : w.heap.size ≤ g := (own_block h.own rfl).1
theorem Mem2.cell {w : World} {g c L : Nat} {cur : List Int} {wr : World} (h : Mem2 w g c L cur wr) (k : Nat) (hk : k < L) : wr.cell? ⟨g, k, none⟩ = some (.int .u64 (wd cur k)) := by
  have hk' : k < cur.length := by rw [h.len]; exact hk
  rw [h.own.cellAt k (by omega)]
  unfold wd
  simp [hk', List.getD]
theorem Mem2.free {w : World} {g c L : Nat} {cur : List Int} {wr : World} (h : Mem2 w g c L cur wr) (k : Nat) : wr.frozen? ⟨g, k, none⟩ = false := h.own.frozenAt k
theorem Mem2.put {w : World} {g c L : Nat} {cur : List Int} {wr : World} (h : Mem2 w g c L cur wr) (k : Nat) (y : Int) : Mem2 w g c L (cur.set k y) (wr.setCell ⟨g, k, none⟩ (.int .u64 y)) :=
  ⟨by rw [List.map_set]; exact (h.own.stored k (.int .u64 y)).1, by simpa using h.len, h.fr.setCell (fun hlt => absurd hlt (by have := h.base; simp; omega)) _⟩
theorem Mem2.grow {w : World} {g c L : Nat} {cur : List Int} {wr w' : World} (h : Mem2 w g c L cur wr) (hf : Fr New wr w') : Mem2 w g c L cur w' := ⟨hf.owns h.own (fun _ _ h => h), h.len, h.fr.same hf⟩
theorem Mem2.rowU {w : World} {g c L : Nat} {cur : List Int} {wr : World} (h : Mem2 w g c L cur wr) : RowU wr (some ⟨g, 0, none⟩) cur := rowU_own h.own
theorem Mem2.cap {w : World} {g c L : Nat} {cur : List Int} {wr : World} (h : Mem2 w g c L cur wr) : L ≤ c := by
  rcases h.own.2 with ⟨h', _⟩ | ⟨g', cap', cur', h', _, _, hc, _⟩
  · cases h'
  · simp only [Value.slice.injEq, Option.some.injEq, Addr.mk.injEq, and_true, true_and] at h'
    omega
/-- a row of another kind stays where a word is put -/
theorem own_put {w wr : World} {g c L : Nat} {cur : List Int} (h : Mem2 w g c L cur wr) (k : Nat) (y : Value) {B : Nat} {e : TypeId} {sz : Nat} {v : Value} {n : Nat} {xs : List Value} (ho : wr.ownsRow B e sz v n xs) (he : e ≠ 50) : (wr.setCell ⟨g, k, none⟩ y).ownsRow B e sz v n xs := by
  have hf : Fr (fun k => k = g) wr (wr.setCell ⟨g, k, none⟩ y) := (Fr.refl (fun k => k = g) wr).setCell (p := ⟨g, k, none⟩) (fun _ => rfl) _
  refine hf.owns ho (fun g' hg' hh => ?_)
  obtain ⟨_, c1, h1⟩ := own_block ho hg'
  obtain ⟨_, c2, h2⟩ := own_block h.own rfl
  exact type_ne h1 h2 he hh
theorem row_put {w wr : World} {g c L : Nat} {cur : List Int} (h : Mem2 w g c L cur wr) (k : Nat) (y : Value) {gb : Nat} {out : List Bool} (ho : BRow wr gb out) : BRow (wr.setCell ⟨g, k, none⟩ y) gb out := by
  have hf : Fr (fun k => k = g) wr (wr.setCell ⟨g, k, none⟩ y) := (Fr.refl (fun k => k = g) wr).setCell (p := ⟨g, k, none⟩) (fun _ => rfl) _
  refine hf.heap ho (fun hh => ?_)
  obtain ⟨_, c2, h2⟩ := own_block h.own rfl
  exact type_ne ho h2 (by decide) hh

/-- the words, the objects and the marks -/
structure Hold (w : World) (g c L : Nat) (cur : List Int) (vl : Value) (l : List Ob) (gb : Nat) (out : List Bool) (wr : World) : Prop where
  mem : Mem2 w g c L cur wr
  obs : OwnO 0 wr vl l
  marks : BRow wr gb out
theorem Hold.put {w : World} {g c L : Nat} {cur : List Int} {vl : Value} {l : List Ob} {gb : Nat} {out : List Bool} {wr : World} (h : Hold w g c L cur vl l gb out wr) (k : Nat) (y : Int) : Hold w g c L (cur.set k y) vl l gb out (wr.setCell ⟨g, k, none⟩ (.int .u64 y)) :=
  ⟨h.mem.put k y, own_put h.mem k _ h.obs (by decide), row_put h.mem k _ h.marks⟩
theorem Hold.grow {w : World} {g c L : Nat} {cur : List Int} {vl : Value} {l : List Ob} {gb : Nat} {out : List Bool} {wr w' : World} (h : Hold w g c L cur vl l gb out wr) (hf : Fr New wr w') : Hold w g c L cur vl l gb out w' :=
  ⟨h.mem.grow hf, hf.owns h.obs (fun _ _ h => h), hf.heap h.marks id⟩

theorem Hold.objAt {w : World} {g c L : Nat} {cur : List Int} {av : Option Addr} {cv : Nat} {l : List Ob} {gb : Nat} {out : List Bool} {wr : World} (h : Hold w g c L cur (.slice av l.length cv) l gb out wr) (i : Nat) (hi : i < l.length) :
    ∃ gl, av = some ⟨gl, 0, none⟩ ∧ wr.cell? ⟨gl, i * 3, none⟩ = some (.int .i64 (l[i]).block) ∧ wr.cell? ⟨gl, i * 3 + 1, none⟩ = some (.int .i64 (l[i]).span) ∧ wr.cell? ⟨gl, i * 3 + 2, none⟩ = some (.int .i64 (l[i]).ptrs) := by
  obtain ⟨gl, c', hv, _, _⟩ := h.obs.form (by omega)
  simp only [Value.slice.injEq] at hv
  have key : ∀ j, j < 3 → wr.cell? ⟨gl, i * 3 + j, none⟩ = (obCells l[i])[j]? := fun j hj => by
    have hv' := hv.1
    subst hv'
    have := h.obs.cellAt (i * 3 + j) (by omega)
    exact this.trans (obsCells_get l i j hi hj)
  exact ⟨gl, hv.1, key 0 (by omega), key 1 (by omega), key 2 (by omega)⟩

theorem own_zero {w : World} {B : Nat} {e : TypeId} {sz : Nat} {v : Value} {n : Nat} {xs : List Value} (h : w.ownsRow B e sz v n xs) : w.ownsRow 0 e sz v n xs := by
  refine ⟨h.1, ?_⟩
  rcases h.2 with h | ⟨g, cap, cur, rfl, _, r⟩
  · exact .inl h
  · exact .inr ⟨g, cap, cur, rfl, Nat.zero_le _, r⟩
theorem emptyU (w : World) : (w.alloc (.cells #[] 50)).ownsRow w.heap.size 50 1 (.slice (some ⟨w.heap.size, 0, none⟩) 0 0) 0 [] := World.ownsRow_made w #[] 0 (Nat.le_refl _) (by decide) (by simp)

theorem copy_news {w : World} {x : Addr} {ws : List Int} (h : RowU w (some x) ws) (o : Obj) : ∀ j u, (ws.map (Value.int .u64))[j]? = some u → (w.alloc o).cell? (x.add j) = some u := by
  intro j u hu
  have hp : 0 < (ws.map (Value.int .u64)).length := by
    rcases Nat.lt_or_ge j (ws.map (Value.int .u64)).length with h | h
    · omega
    · rw [List.getElem?_eq_none h] at hu; cases hu
  obtain ⟨ad, had, hn⟩ := news_row (rowU_fr ((Fr.refl New w).alloc o) h (fun _ _ h => h)) hp
  cases had
  exact hn j u hu
theorem copy_mem {w w1 : World} {g c : Nat} {ws : List Int} (h : w1.ownsRow w.heap.size 50 1 (.slice (some ⟨g, 0, none⟩) (0 + ws.length) c) (0 + ws.length) ([] ++ ws.map (Value.int .u64)))
    (hg : (w.alloc (.cells #[] 50)).grownBy w1 (Value.slice (some ⟨w.heap.size, 0, none⟩) 0 0).ownBlock) : Mem2 w g c ws.length ws w1 :=
  ⟨by simpa using h, rfl, ((Fr.refl New w).alloc _).grown hg (fun k hk hv => by simp [Value.ownBlock] at hv; omega)⟩

theorem walk_mem {w : World} {g c L : Nat} {cur : List Int} {W : World} (M : Mem2 w g c L cur W) (hn : nblk L ≠ 0) :
    Calls Tryz.prog 126 #[.slice (some ⟨g, 0, none⟩) L c] W fun e w' => ∃ vl vb, e = .returned (.tuple #[vl, vb]) ∧ OwnO 0 w' vl (objs cur) ∧ OwnN 0 w' vb (bads cur) ∧ Fr New W w' := by
  have hl := M.len
  subst hl
  refine (walk_any _ c cur W hn M.rowU).mono ?_
  rintro e w' ⟨vl, vb, rfl, h1, h2, h3⟩
  exact ⟨vl, vb, rfl, own_zero h1, own_zero h2, h3⟩
theorem reached_mem {w : World} {g c L : Nat} {cur : List Int} {W : World} (M : Mem2 w g c L cur W) (hm : L ≤ 1048576) (h7 : 7 ≤ L) {vl : Value} (ho : OwnO 0 W vl (objs cur)) :
    Calls Tryz.prog 149 #[.slice (some ⟨g, 0, none⟩) L c, vl] W fun e w' => ∃ out : List Bool, e = .returned (.slice (some ⟨W.heap.size, 0, none⟩) (objs cur).length (objs cur).length) ∧ BRow w' W.heap.size out ∧ out.length = (objs cur).length ∧ (∀ i, out[i]? = some true ↔ Reach cur (objs cur) i) ∧ Fr New W w' := by
  have hl := M.len
  subst hl
  exact reached_any _ c cur vl (objs cur) W hm h7 M.rowU (lies_objs ho) (within_objs cur)
theorem seal_mem {w : World} {g c L : Nat} {cur : List Int} {W : World} (M : Mem2 w g c L cur W) (h8 : 8 ≤ L) (hm : L ≤ 1048576) :
    Calls Tryz.prog 131 #[.slice (some ⟨g, 0, none⟩) L c] W fun e w' => e = .returned (.tuple #[]) ∧ w' = W.setCell ⟨g, 7, none⟩ (.int .u64 (sumL (cur.take 7))) := by
  have hcap := M.cap
  have HS : Hid (Calls Tryz.prog 121 #[.slice (some ⟨g, 0, none⟩) 7 c] W fun e w' => e = .returned (.int .u64 (sumL (cur.take 7))) ∧ w' = W) :=
    rsum_any _ 7 _ (cur.take 7) W (by have := M.len; simp; omega) (by decide) (rowU_take M.rowU 7)
  have hfz := M.free 7
  have hcl := M.cell 7 (by omega)
  go_enter Tryz.func131, Tryz.ntmps131
  go_wp2_with (go_at_call 121; refine calls_same HS.out ?_)
  go_end0
  exact ⟨rfl, rfl⟩

/-- what is put where a record asks for it -/
theorem done_set (ws : List Int) (i : Nat) : (doneS ws i).set (wd ws (10 + 2 * i)).toNat (wd ws (11 + 2 * i)) = doneS ws (i + 1) := rfl
theorem doneS_U {ws : List Int} (hU : ∀ z ∈ ws, U z) (k : Nat) : ∀ z ∈ doneS ws k, U z := by
  induction k with
  | zero => exact hU
  | succ k ih =>
    intro z hz
    rcases List.mem_or_eq_of_mem_set hz with h | rfl
    · exact ih z h
    · exact wd_U hU _
end Go.Proofs.YtbagcjlimdilpaaGreat
/- A search by a list of words that wait, as mathematics: what is marked at its end is what is reached. -/
namespace Go.Proofs.YtbagcjlimdilpaaGreat

/-- the i-th object is marked -/
def mkd (l : List Ob) (M : List Bool) (i : Nat) : Prop := M.getD (hnd l i) false = true
theorem hnd_inj {l : List Ob} (ha : Asc l) {i k : Nat} (hi : i < l.length) (hk : k < l.length) (h : hnd l i = hnd l k) : i = k := by
  rw [hnd_eq hi, hnd_eq hk] at h
  rcases Nat.lt_or_ge i k with h1 | h1
  · have := ha i k hi hk h1; omega
  · rcases Nat.lt_or_ge k i with h2 | h2
    · have := ha k i hk hi h2; omega
    · omega
theorem mk_set {l : List Ob} {M : List Bool} {h i : Nat} (hh : h < M.length) : mkd l (M.set h true) i ↔ hnd l i = h ∨ mkd l M i := by
  unfold mkd
  rw [List.getD_eq_getElem?_getD, List.getD_eq_getElem?_getD]
  by_cases he : hnd l i = h
  · rw [he]; simp [hh]
  · rw [List.getElem?_set_ne (by omega)]; simp [he]
/-- the marks of the objects alone -/
def marksOf (l : List Ob) (M : List Bool) : List Bool := (List.range l.length).map (fun i => M.getD (hnd l i) false)
theorem marksOf_len (l : List Ob) (M : List Bool) : (marksOf l M).length = l.length := by simp [marksOf]
theorem marksOf_get {l : List Ob} {M : List Bool} {i : Nat} (hi : i < l.length) : (marksOf l M)[i]? = some (M.getD (hnd l i) false) := by simp [marksOf, hi]
theorem marksOf_set {l : List Ob} (ha : Asc l) {M : List Bool} {k : Nat} (hk : k < l.length) (hh : hnd l k < M.length) : marksOf l (M.set (hnd l k) true) = (marksOf l M).set k true := by
  apply List.ext_getElem?
  intro i
  by_cases hi : i < l.length
  · rw [marksOf_get hi]
    by_cases he : i = k
    · subst he
      rw [List.getElem?_set_self (by rw [marksOf_len]; exact hi)]
      simp [hh]
    · rw [List.getElem?_set_ne (by omega), marksOf_get hi, List.getD_eq_getElem?_getD, List.getElem?_set_ne (fun hx => he (hnd_inj ha hk hi hx).symm), ← List.getD_eq_getElem?_getD]
  · rw [List.getElem?_eq_none (by rw [marksOf_len]; omega), List.getElem?_eq_none (by simp [marksOf_len]; omega)]
/-- so many objects are not marked -/
def unm (l : List Ob) (M : List Bool) : Nat := unmarked (marksOf l M)
theorem unm_set {l : List Ob} (ha : Asc l) {M : List Bool} {k : Nat} (hk : k < l.length) (hh : hnd l k < M.length) (hn : ¬ mkd l M k) : unm l (M.set (hnd l k) true) + 1 = unm l M := by
  unfold unm
  rw [marksOf_set ha hk hh]
  refine unmarked_set (by rw [marksOf_len]; exact hk) ?_
  have := marksOf_get (M := M) hk
  rw [List.getElem?_eq_getElem (by rw [marksOf_len]; exact hk), Option.some.injEq] at this
  rw [this]
  unfold mkd at hn
  simpa using hn
theorem unm_start (l : List Ob) (n : Nat) : unm l (List.replicate n false) ≤ l.length := by
  unfold unm unmarked
  have := List.countP_le_length (p := fun b => !b) (l := marksOf l (List.replicate n false))
  rw [marksOf_len] at this
  exact this

/-- what the search keeps: R roots have been seen; of object c q pointers alone -/
structure Dfs (ws : List Int) (l : List Ob) (W : List Int) (M : List Bool) (R c q : Nat) : Prop where
  sound : ∀ i, i < l.length → mkd l M i → Reach ws l i
  wsound : ∀ x ∈ W, ∀ k, idx l x = some k → Reach ws l k
  roots : ∀ r, r < R → ∀ k, idx l (wd ws (3 + r)) = some k → mkd l M k ∨ wd ws (3 + r) ∈ W
  ptrs : ∀ i (hi : i < l.length) p k, mkd l M i → p < (l[i]).ptrs → (i = c → p < q) → idx l (wd ws (pl l[i] p)) = some k → mkd l M k ∨ wd ws (pl l[i] p) ∈ W
  room : W.length + 40 * unm l M + (if c < l.length then 32 - q else 0) ≤ R + 40 * l.length
theorem dfs_start (ws : List Int) (l : List Ob) (n : Nat) : Dfs ws l [] (List.replicate n false) 0 l.length 0 := by
  have hno : ∀ i, ¬ mkd l (List.replicate n false) i := fun i h => by
    unfold mkd at h
    rw [List.getD_eq_getElem?_getD, List.getElem?_replicate] at h
    split at h <;> simp at h
  refine ⟨fun i _ h => absurd h (hno i), fun x hx => by simp at hx, fun r hr => by omega, fun i hi p k h => absurd h (hno i), ?_⟩
  have := unm_start l n
  rw [if_neg (by omega)]
  simp
  omega
theorem Dfs.root {ws : List Int} {l : List Ob} {W : List Int} {M : List Bool} {R q : Nat} (h : Dfs ws l W M R l.length q) (hR : R < 4) : Dfs ws l (W ++ [wd ws (3 + R)]) M (R + 1) l.length q := by
  refine ⟨h.sound, fun x hx k hk => ?_, fun r hr k hk => ?_, fun i hi p k h1 h2 h3 h4 => ?_, ?_⟩
  · rcases List.mem_append.1 hx with hx | hx
    · exact h.wsound x hx k hk
    · obtain rfl : x = wd ws (3 + R) := by simpa using hx
      exact reach_root hR hk
  · rcases Nat.lt_or_ge r R with h' | h'
    · rcases h.roots r h' k hk with h1 | h1
      · exact .inl h1
      · exact .inr (List.mem_append_left _ h1)
    · obtain rfl : r = R := by omega
      exact .inr (by simp)
  · rcases h.ptrs i hi p k h1 h2 h3 h4 with h1 | h1
    · exact .inl h1
    · exact .inr (List.mem_append_left _ h1)
  · have := h.room
    rw [if_neg (by omega)] at this ⊢
    simp
    omega
theorem Dfs.drop {ws : List Int} {l : List Ob} {W : List Int} {x : Int} {M : List Bool} {q : Nat} (h : Dfs ws l (W ++ [x]) M 4 l.length q) (hx : ∀ k, idx l x = some k → mkd l M k) : Dfs ws l W M 4 l.length q := by
  have key : ∀ y k, idx l y = some k → (mkd l M k ∨ y ∈ W ++ [x]) → mkd l M k ∨ y ∈ W := fun y k hy hm => by
    rcases hm with hm | hm
    · exact .inl hm
    · rcases List.mem_append.1 hm with hm | hm
      · exact .inr hm
      · obtain rfl : y = x := by simpa using hm
        exact .inl (hx k hy)
  refine ⟨h.sound, fun y hy => h.wsound y (List.mem_append_left _ hy), fun r hr k hk => key _ k hk (h.roots r hr k hk), fun i hi p k h1 h2 h3 h4 => key _ k h4 (h.ptrs i hi p k h1 h2 h3 h4), ?_⟩
  have := h.room
  simp at this ⊢
  omega
theorem Dfs.mark {ws : List Int} {l : List Ob} (ha : Asc l) {W : List Int} {x : Int} {M : List Bool} {q : Nat} (h : Dfs ws l (W ++ [x]) M 4 l.length q) {k : Nat} (hk : k < l.length) (hx : idx l x = some k) (hh : hnd l k < M.length) (hn : ¬ mkd l M k) :
    Dfs ws l W (M.set (hnd l k) true) 4 k 0 := by
  have hm : ∀ i, mkd l M i → mkd l (M.set (hnd l k) true) i := fun i hi => (mk_set hh).2 (.inr hi)
  have hmk : mkd l (M.set (hnd l k) true) k := (mk_set hh).2 (.inl rfl)
  have key : ∀ y j, idx l y = some j → (mkd l M j ∨ y ∈ W ++ [x]) → mkd l (M.set (hnd l k) true) j ∨ y ∈ W := fun y j hy hm' => by
    rcases hm' with hm' | hm'
    · exact .inl (hm j hm')
    · rcases List.mem_append.1 hm' with hm' | hm'
      · exact .inr hm'
      · obtain rfl : y = x := by simpa using hm'
        rw [hx] at hy
        cases hy
        exact .inl hmk
  refine ⟨fun i hi hmi => ?_, fun y hy => h.wsound y (List.mem_append_left _ hy), fun r hr j hj => key _ j hj (h.roots r hr j hj), fun i hi p j h1 h2 h3 h4 => ?_, ?_⟩
  · rcases (mk_set hh).1 hmi with he | he
    · obtain rfl := hnd_inj ha hi hk he
      exact h.wsound x (by simp) i hx
    · exact h.sound i hi he
  · rcases (mk_set hh).1 h1 with he | he
    · obtain rfl := hnd_inj ha hi hk he
      have := h3 rfl
      omega
    · exact key _ j h4 (h.ptrs i hi p j he h2 (fun he => by omega) h4)
  · have := h.room
    have hu := unm_set ha hk hh hn
    rw [if_neg (by omega)] at this
    rw [if_pos hk]
    simp at this ⊢
    omega
theorem Dfs.push {ws : List Int} {l : List Ob} {W : List Int} {M : List Bool} {k q : Nat} (h : Dfs ws l W M 4 k q) (hk : k < l.length) (hm : mkd l M k) (hq : q < (l[k]).ptrs) (hq32 : q < 32) : Dfs ws l (W ++ [wd ws (pl l[k] q)]) M 4 k (q + 1) := by
  refine ⟨h.sound, fun x hx j hj => ?_, fun r hr j hj => ?_, fun i hi p j h1 h2 h3 h4 => ?_, ?_⟩
  · rcases List.mem_append.1 hx with hx | hx
    · exact h.wsound x hx j hj
    · obtain rfl : x = wd ws (pl l[k] q) := by simpa using hx
      exact reach_step hk (h.sound k hk hm) hq hj
  · rcases h.roots r hr j hj with h1 | h1
    · exact .inl h1
    · exact .inr (List.mem_append_left _ h1)
  · by_cases he : i = k ∧ p = q
    · obtain ⟨rfl, rfl⟩ := he
      exact .inr (by simp)
    · rcases h.ptrs i hi p j h1 h2 (fun hik => by have := h3 hik; omega) h4 with h1 | h1
      · exact .inl h1
      · exact .inr (List.mem_append_left _ h1)
  · have := h.room
    rw [if_pos hk] at this ⊢
    simp
    omega
theorem Dfs.all {ws : List Int} {l : List Ob} {W : List Int} {M : List Bool} {k q : Nat} (h : Dfs ws l W M 4 k q) (hk : k < l.length) (hq : (l[k]).ptrs ≤ q) : Dfs ws l W M 4 l.length 0 := by
  refine ⟨h.sound, h.wsound, h.roots, fun i hi p j h1 h2 h3 h4 => h.ptrs i hi p j h1 h2 (fun hik => by subst hik; omega) h4, ?_⟩
  have := h.room
  rw [if_neg (by omega)]
  omega
theorem Dfs.done {ws : List Int} {l : List Ob} {M : List Bool} {q : Nat} (h : Dfs ws l [] M 4 l.length q) (hlt : ∀ r k, idx l r = some k → k < l.length) (i : Nat) (hi : i < l.length) : mkd l M i ↔ Reach ws l i :=
  ⟨h.sound i hi, fun hr => (hr (fun i => i < l.length ∧ mkd l M i) ⟨fun r hr k hk => ⟨hlt _ k hk, (h.roots r hr k hk).resolve_right (by simp)⟩, fun i hi' p k ho hp hk => ⟨hlt _ k hk, (h.ptrs i hi' p k ho.2 hp (fun he => by omega) hk).resolve_right (by simp)⟩⟩).2⟩
end Go.Proofs.YtbagcjlimdilpaaGreat
/- The walk of the program's Kept.Copy: words in memory of their own. -/
namespace Go.Proofs.YtbagcjlimdilpaaGreat
open Go.RowKit

theorem splice_all {xs ys : List Value} (h : xs.length = ys.length) : splice xs 0 ys = ys := by
  unfold splice
  simp [h]
set_option maxRecDepth 100000 in
theorem kcopy_any (a : Option Addr) (cap : Nat) (ws : List Int) (w : World) (hm : ws.length ≤ 1048576) (hp : 0 < ws.length) (hr : RowU w a ws) :
    Calls Tryz.prog 51 #[.slice a ws.length cap] w fun e w' => e = .returned (.slice (some ⟨w.heap.size, 0, none⟩) ws.length ws.length) ∧ Row w' w.heap.size ws ∧ Fr New w w' := by
  obtain ⟨i0, hi, hz0, hz1, hz2⟩ := info_parts Tryz.info50
  obtain ⟨sb, so, rfl, hsb, hcw⟩ := rowU_plain hr hp
  have HRU : Hid (∀ W, Fr New w W → RowU W (some ⟨sb, so, none⟩) ws) := fun W hf => rowU_fr hf hr (fun _ _ h => h)
  have hmin : Hid ((ws.map (Value.int .u64)).length = Nat.min ws.length ws.length) := by show _ = _; simp
  obtain ⟨L, hL⟩ : ∃ L, L = ws.length := ⟨_, rfl⟩
  have HL : Hid (L = ws.length) := hL
  rw [← hL] at hmin hm hp ⊢
  clear hr hcw hL
  go_enter Tryz.func51, Tryz.ntmps51
  go_wp2_with (first
    | (at_make; refine wpList_make_full _ rfl (.tmp 5) (.tmp 5) 105 rfl w.heap.size 50 i0 (.int .u64 0) 1 Tryz.underlying105 hi hz0 hz1 .i64 .i64 _ _ L rfl rfl (by omega) (by omega) (by rw [hz2]; omega) (by unfold maxLen; omega) (Nat.le_refl _) ?_; intro w1 hown1 hg1; have hr1 := Row.ofOwn hown1 (made_zeros _); have hf1 := (Fr.refl New w).grownNew hg1; clear hown1 hg1)
    | (refine wpList_copy_splice rfl (.tmp 7) (.tmp 8) 105 105 rfl 50 Tryz.underlying105 Tryz.size50 (some ⟨w.heap.size, 0, none⟩) (some ⟨sb, so, none⟩) L L L cap (by rfl) (by rfl) w.heap.size 0 _ 50 hr1 (ws.map (Value.int .u64)) hmin.out (fun hp => ⟨rfl, news_row (HRU.out w1 hf1) hp⟩) (by simp [← HL.out]) (ints_oneU _) w.heap.size w (hf1.below (Nat.le_refl _) (fun _ _ h => h)) (Nat.le_refl _) ?_; intro w4 hr4 hb4; have hR4 : Row w4 w.heap.size ws := (by have hr4' := hr4.out; rw [splice_all (by simp [← HL.out])] at hr4'; exact hr4'); have hF4 : Fr New w w4 := ((Fr.ofBelow hb4).mono (fun j hj h => by omega)))
    | fail)
  go_ret
  exact ⟨rfl, hR4, hF4⟩
end Go.Proofs.YtbagcjlimdilpaaGreat
