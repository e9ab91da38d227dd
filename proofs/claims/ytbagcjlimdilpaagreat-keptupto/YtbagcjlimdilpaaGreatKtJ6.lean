/- Texts that follow one another, joined. -/
import Derived.Test.YtbagcjlimdilpaaGreatKtJ1
import Derived.Test.YtbagcjlimdilpaaGreatKtRefE
import Derived.Test.YtbagcjlimdilpaaGreatKtJ4
import Derived.Deep.CutRange
import Derived.Deep.RegionHeld3
import Derived.Maps.AppendAt
import Derived.Deep.AppendLies
/- The walk of the document's 'asks'. -/
namespace Go.Proofs.YtbagcjlimdilpaaGreat
open Go.RowKit

theorem wd_U {ws : List Int} (hU : ∀ z ∈ ws, U z) (i : Nat) : U (wd ws i) := by
  unfold wd
  by_cases hl : i < ws.length
  · rw [List.getD_eq_getElem?_getD, List.getElem?_eq_getElem hl]; exact hU _ (List.getElem_mem _)
  · rw [List.getD_eq_getElem?_getD, List.getElem?_eq_none (by omega)]; exact ⟨by decide, by decide⟩

theorem two_one (x y : Int) : ∀ u ∈ [Value.int .u64 x, Value.int .u64 y], u.oneCell' = true := by
  intro u hu
  simp only [List.mem_cons, List.not_mem_nil, or_false] at hu
  rcases hu with rfl | rfl <;> rfl

set_option maxHeartbeats 1000000 in
set_option maxRecDepth 1000000 in
theorem asks_any (a : Option Addr) (cap : Nat) (ws : List Int) (w : World) (hm : ws.length ≤ 1048576) (h106 : 106 ≤ ws.length) (hU : ∀ z ∈ ws, U z) (hr : RowU w a ws) :
    Calls Tryz.prog 150 #[.slice a ws.length cap] w fun e w' => e = .returned (.tuple #[.int .i64 (asksS ws).1, .bool (asksS ws).2]) ∧ Fr New w w' := by
  obtain ⟨sb, so, rfl, hsb, hcw⟩ := rowU_plain hr (by omega)
  have HW : Hid (∀ wr, Fr New w wr → ∀ i, i < ws.length → wr.cell? ⟨sb, so + i, none⟩ = some (.int .u64 (wd ws i))) := fun wr hf i hi => hf.cell (hcw i hi) id
  have c8 := hcw 8 (by omega)
  have h8U := wd_U hU 8
  obtain ⟨h, hh⟩ : ∃ h, h = wd ws 8 := ⟨_, rfl⟩
  rw [← hh] at c8 h8U
  have HH : Hid (h = wd ws 8) := hh
  obtain ⟨hlo, hhi⟩ := h8U
  have HUU : Hid (∀ z ∈ ws, U z) := hU
  clear hcw hr hh hU
  by_cases h0 : h = 0
  · rw [asks_none (by rw [← HH.out]; exact h0)]
    subst h0
    go_enter Tryz.func150, Tryz.ntmps150
    go_wp2
    go_ret2
    exact ⟨rfl, Fr.refl _ _⟩
  by_cases h48 : 48 < h
  · rw [asks_many (by rw [← HH.out]; exact h0) (by rw [← HH.out]; exact h48)]
    have hd : (h == 0) = false := by simpa using h0
    go_enter Tryz.func150, Tryz.ntmps150
    go_wp2
    go_ret2
    exact ⟨rfl, Fr.refl _ _⟩
  obtain ⟨n, hn⟩ := Int.eq_ofNat_of_zero_le hlo
  have HNN : Hid (h = (n : Int)) := hn
  subst hn
  have hn48 : n ≤ 48 := by omega
  have hd : ((n : Int) == 0) = false := by simpa using h0
  have HNT : Hid ((wd ws 8).toNat = n) := by rw [← HH.out]; exact Int.toNat_natCast n
  have hwL : IntKind.u64.wrap (ws.length : Int) = ws.length := by rw [IntKind.wrap_u64]; omega
  obtain ⟨i0, hi0, hz0, hz1, hz2⟩ := info_parts Tryz.info50
  clear h48 hlo hhi
  go_enter Tryz.func150, Tryz.ntmps150
  go_wp2
  go_loopg [5, 6] n (fun gh v t wr => ∃ i : Nat, i ≤ n ∧ gh = n - i ∧ t = .int .i64 i ∧ Own w.heap.size wr v (logWords ws i) ∧ Fr New w wr ∧ ∀ j, j < i → okAt ws.length (wd ws (10 + 2 * j)) = true)
  case atStart => exact ⟨0, by omega, rfl, rfl, by rw [logWords_zero, ← HH.out]; exact World.ownsRow_lit w #[.int .u64 (n : Int)] 1 (Nat.le_refl _) (by decide) rfl, (Fr.refl _ _).alloc _, fun j hj => by omega⟩
  case round =>
    obtain ⟨i, hin, rfl, rfl, hown, hf, hok⟩ := hrel
    have HOK : Hid (∀ j, j < i → okAt ws.length (wd ws (10 + 2 * j)) = true) := hok
    clear hok
    by_cases hi : i < n
    · have hca := HW.out wr hf (10 + 2 * i) (by omega)
      have hcb := HW.out wr hf (11 + 2 * i) (by omega)
      have haU := wd_U HUU.out (10 + 2 * i)
      obtain ⟨x, hx⟩ : ∃ x, x = wd ws (10 + 2 * i) := ⟨_, rfl⟩
      obtain ⟨y, hy⟩ : ∃ y, y = wd ws (11 + 2 * i) := ⟨_, rfl⟩
      rw [← hx] at hca haU
      rw [← hy] at hcb
      have HXY : Hid (x = wd ws (10 + 2 * i) ∧ y = wd ws (11 + 2 * i)) := ⟨hx, hy⟩
      clear hx hy
      obtain ⟨hx0, hx1⟩ := haU
      have hll := logWords_len ws i
      have HLL : Hid ((logWords ws i).length = 1 + 2 * i) := hll
      clear hll
      rcases hoa : okAt ws.length x with _ | _
      · have HT : Hid (asksS ws = (0, false)) := asks_wrong (by rw [← HH.out]; exact h0) (by rw [← HH.out]; omega) (i := i) (by rw [HNT.out]; exact hi) (by rw [← HXY.out.1]; exact hoa)
        have hwhy : (ws.length : Int) ≤ x ∨ (x < ws.length ∧ 8 ≤ x ∧ x < 106) := by
          by_cases hA : (ws.length : Int) ≤ x
          · exact .inl hA
          · right
            have : ¬ (x < ws.length ∧ (x < 8 ∨ 106 ≤ x)) := fun hh => by rw [okAt_iff.2 hh] at hoa; cases hoa
            omega
        clear hoa
        rcases hwhy with hA | ⟨hA, hB, hC⟩
        · have hdA : decide ((ws.length : Int) ≤ x) = true := by simpa using hA
          go_wp2
          go_ret2
          rw [HT.out]
          exact ⟨rfl, hf⟩
        · have hdA : decide ((ws.length : Int) ≤ x) = false := by simp; omega
          have hdB : decide ((8 : Int) ≤ x) = true := by simpa using hB
          have hdC : decide (x < 106) = true := by simpa using hC
          go_wp2
          go_ret2
          rw [HT.out]
          exact ⟨rfl, hf⟩
      · obtain ⟨hA, hBC⟩ := okAt_iff.1 hoa
        have HOA : Hid (okAt ws.length x = true) := hoa
        clear hoa
        have hdA : decide ((ws.length : Int) ≤ x) = false := by simp; omega
        have hi' := hi0
        rcases hBC with hB | hC
        · have hdB : decide ((8 : Int) ≤ x) = false := by simp; omega
          go_wp2_with (first
            | (at_builtin; refine wpList_append_own _ rfl (.tmp 49) (.tmp 57) 43 rfl w.heap.size 50 i0 (.int .u64 0) 1 8 Tryz.underlying43 hi' hz0 hz1 hz2 rfl (by decide) _ _ _ rfl (hown.alloc _) ⟨wr.heap.size, 0, none⟩ 2 2 [.int .u64 x, .int .u64 y] rfl rfl (World.news_of_block (new_at _ _ _ rfl)) (two_one x y) (by have := HLL.out; unfold maxLen; omega) (by have := HLL.out; omega) (by have := hf.size; simp; omega) ?_; intro v2 w2 ho2 hg2 _)
            | fail)
          have hown2 : Own w.heap.size w2 v2 (logWords ws (i + 1)) := by
            unfold Own
            rw [logWords_succ, ← HXY.out.1, ← HXY.out.2, List.length_append, List.map_append]
            exact ho2
          have hf2 : Fr New w w2 := (hf.alloc _).grown hg2 (fun k hk hv => by have := (hown.lt k hv).1; omega)
          clear ho2 hg2
          go_wp2
          go_roundg (n - (i + 1))
          case measure => omega
          case rel => exact ⟨i + 1, by omega, rfl, by go_num, hown2, hf2, fun j hj => by
            rcases Nat.lt_or_ge j i with hlt | hge
            · exact HOK.out j hlt
            · obtain rfl : j = i := by omega
              rw [← HXY.out.1]; exact HOA.out⟩
        · have hdB : decide ((8 : Int) ≤ x) = true := by simp; omega
          have hdC : decide (x < 106) = false := by simp; omega
          go_wp2_with (first
            | (at_builtin; refine wpList_append_own _ rfl (.tmp 49) (.tmp 57) 43 rfl w.heap.size 50 i0 (.int .u64 0) 1 8 Tryz.underlying43 hi' hz0 hz1 hz2 rfl (by decide) _ _ _ rfl (hown.alloc _) ⟨wr.heap.size, 0, none⟩ 2 2 [.int .u64 x, .int .u64 y] rfl rfl (World.news_of_block (new_at _ _ _ rfl)) (two_one x y) (by have := HLL.out; unfold maxLen; omega) (by have := HLL.out; omega) (by have := hf.size; simp; omega) ?_; intro v2 w2 ho2 hg2 _)
            | fail)
          have hown2 : Own w.heap.size w2 v2 (logWords ws (i + 1)) := by
            unfold Own
            rw [logWords_succ, ← HXY.out.1, ← HXY.out.2, List.length_append, List.map_append]
            exact ho2
          have hf2 : Fr New w w2 := (hf.alloc _).grown hg2 (fun k hk hv => by have := (hown.lt k hv).1; omega)
          clear ho2 hg2
          go_wp2
          go_roundg (n - (i + 1))
          case measure => omega
          case rel => exact ⟨i + 1, by omega, rfl, by go_num, hown2, hf2, fun j hj => by
            rcases Nat.lt_or_ge j i with hlt | hge
            · exact HOK.out j hlt
            · obtain rfl : j = i := by omega
              rw [← HXY.out.1]; exact HOA.out⟩
    · obtain rfl : i = n := by omega
      have HT : Hid (asksS ws = (i, sumL (logWords ws i) == wd ws 9)) := by
        have := asks_right (ws := ws) (by rw [← HH.out]; exact h0) (by rw [← HH.out]; omega) (by rw [HNT.out]; exact HOK.out)
        rw [HNT.out] at this
        exact this
      have hc9 := HW.out wr hf 9 (by omega)
      obtain ⟨av, cv, rfl, hmx, hrow, _⟩ := own_row hown
      have HS : Hid (Calls Tryz.prog 121 #[.slice av (logWords ws i).length cv] wr fun e w' => e = .returned (.int .u64 (sumL (logWords ws i))) ∧ w' = wr) := rsum_any av _ cv (logWords ws i) wr rfl hmx hrow
      obtain ⟨sm, hsm⟩ : ∃ sm, sm = sumL (logWords ws i) := ⟨_, rfl⟩
      obtain ⟨x9, hx9⟩ : ∃ x, x = wd ws 9 := ⟨_, rfl⟩
      rw [← hsm] at HS HT
      rw [← hx9] at hc9 HT
      clear hsm hx9 hown hrow hmx
      go_wp2_with (go_at_call 121; refine calls_same HS.out ?_)
      go_quiet (fail)
      go_wp2
      go_ret2
      rw [HT.out]
      exact ⟨rfl, hf.drewN _⟩
end Go.Proofs.YtbagcjlimdilpaaGreat
/- Walks of the program's Changed: Len, Read, Put, Drop. -/
namespace Go.Proofs.YtbagcjlimdilpaaGreat
open Go.RowKit Go.Maps

/-- changes over a row that is told -/
structure ChgIs (w : World) (cb tb mb : Nat) (ws now : List Int) : Prop where
  cg : w.heap[cb]? = some (.cells #[.iface 97 (.pointer (some ⟨tb, 0, none⟩)), .map (some mb)] 168 (0, 0))
  mp : ∃ D : DataW Unit, w.ownsMap Tryz.prog 3 (plainElem Tryz.prog 50) mb (Maps.size D) D ∧ DiffIs D ws now
  len : now.length = ws.length
  un : ∀ z ∈ now, U z
namespace ChgIs
variable {w : World} {cb tb mb : Nat} {ws now : List Int}
theorem below (h : ChgIs w cb tb mb ws now) : w.cell? ⟨cb, 0, none⟩ = some (.iface 97 (.pointer (some ⟨tb, 0, none⟩))) := ((block_cells h.cg).1 0).trans rfl
theorem map (h : ChgIs w cb tb mb ws now) : w.cell? ⟨cb, 1, none⟩ = some (.map (some mb)) := ((block_cells h.cg).1 1).trans rfl
theorem fr {T : Nat → Prop} {w' : World} (h : ChgIs w cb tb mb ws now) (hf : Fr T w w') (h1 : ¬ T cb) (h2 : ¬ T mb) : ChgIs w' cb tb mb ws now := by
  refine ⟨hf.heap h.cg h1, ?_, h.len, h.un⟩
  obtain ⟨D, ⟨es, clock, hb, r⟩, hd⟩ := h.mp
  exact ⟨D, ⟨es, clock, hf.heap hb h2, r⟩, hd⟩
theorem lt (h : ChgIs w cb tb mb ws now) : mb < w.heap.size := by
  obtain ⟨D, ho, _⟩ := h.mp
  exact ho.lt
end ChgIs
theorem has_no {D : DataW Unit} {ws now : List Int} (h : DiffIs D ws now) {q : Nat} (he : wd now q = wd ws q) : Maps.has D (.int .i64 (q : Int)) = false := by
  rcases hh : Maps.has D (.int .i64 (q : Int)) with _ | _
  · rfl
  · obtain ⟨r, _, hqr, hne⟩ := (h.key _).1 hh
    obtain rfl : q = r := by omega
    exact absurd he hne
theorem has_yes {D : DataW Unit} {ws now : List Int} (h : DiffIs D ws now) {q : Nat} (hq : q < ws.length) (he : wd now q ≠ wd ws q) : Maps.has D (.int .i64 (q : Int)) = true := (h.key _).2 ⟨q, hq, rfl, he⟩

theorem clen_any (cb tb g mb : Nat) (ws now : List Int) (vs : Value) (w : World) (ht : ToldIs w tb g ws vs) (hc : ChgIs w cb tb mb ws now) :
    Calls Tryz.prog 198 #[.pointer (some ⟨cb, 0, none⟩)] w fun e w' => e = .returned (.int .i64 now.length) ∧ w' = w := by
  have hb := hc.below
  have hm := meth_tlen tb w _ ht.head
  rw [hc.len]
  clear ht hc
  go_enter Tryz.func198, Tryz.ntmps198
  go_wp2_with (go_at_call 196; refine calls_same (klen_any _ _ _ _) ?_)
  go_ret
  exact ⟨rfl, rfl⟩
set_option maxHeartbeats 400000 in
theorem cread_any (cb tb g mb : Nat) (ws now : List Int) (vs : Value) (w : World) (i : Nat) (hi : i < ws.length) (ht : ToldIs w tb g ws vs) (hc : ChgIs w cb tb mb ws now) :
    Calls Tryz.prog 70 #[.pointer (some ⟨cb, 0, none⟩), .int .i64 (i : Nat)] w fun e w' => e = .returned (.int .u64 (wd now i)) ∧ w' = w := by
  have hb := hc.below
  have hmp := hc.map
  have hm := meth_tread tb w _ ht.head
  have HR : Hid (Calls Tryz.prog 197 #[.slice (some ⟨g, 0, none⟩) ws.length ws.length, .int .i64 (i : Nat)] w fun e w'' => e = .returned (.int .u64 (wd ws i)) ∧ w'' = w) := kread_any g 0 _ _ i _ w hi (ht.cells i hi)
  have hl : i ≤ 1048576 := by have := ht.len; omega
  obtain ⟨D, hown, hd⟩ := hc.mp
  by_cases he : wd now i = wd ws i
  · have hh := has_no hd he
    rw [he]
    clear ht hc hd he
    go_enter Tryz.func70, Tryz.ntmps70
    go_wp2_with (first
      | (at_lookup; refine wpList_lookup_own_ok_int _ rfl _ _ 166 rfl 3 50 .u64 key_int Tryz.underlying166 Tryz.underlying50 (zero_u64 _) mb _ D rfl hown _ _ rfl (hkey_i i hl) ?_; intro c hat hwc)
      | (go_at_call 197; refine calls_same HR.out ?_))
    go_ret
    exact ⟨rfl, rfl⟩
  · have hh := has_yes hd hi he
    have hv := hd.val i hh
    have HV : Hid (D.atKey (.int .i64 (i : Int)) (.lit (.int .u64 0)) = .lit (.int .u64 (wd now i))) := hv
    clear ht hc hd he hv HR
    go_enter Tryz.func70, Tryz.ntmps70
    go_wp2_with (first
      | (at_lookup; refine wpList_lookup_own_ok_int _ rfl _ _ 166 rfl 3 50 .u64 key_int Tryz.underlying166 Tryz.underlying50 (zero_u64 _) mb _ D rfl hown _ _ rfl (hkey_i i hl) ?_; intro c hat hwc; obtain rfl : c = wd now i := (by have := hat.symm.trans HV.out; cases this; rfl); clear hat))
    go_ret
    exact ⟨rfl, rfl⟩
/-- changes, as a row -/
theorem chg_row {cb tb g mb : Nat} {ws now : List Int} {vs : Value} {w : World} (ht : ToldIs w tb g ws vs) (hc : ChgIs w cb tb mb ws now) :
    RowAt w 101 (.pointer (some ⟨cb, 0, none⟩)) 198 70 (.pointer (some ⟨cb, 0, none⟩)) now :=
  ⟨fun w' _ => meth_clen _ w', fun w' _ => meth_cread _ w', fun w' => ahead_cread _ w', call_clen, call_cread,
    fun w' hf => clen_any cb tb g mb ws now vs w' (ht.fr hf id id) (hc.fr hf id id), fun w' hf i hi => cread_any cb tb g mb ws now vs w' i (by rw [← hc.len]; exact hi) (ht.fr hf id id) (hc.fr hf id id)⟩
set_option maxHeartbeats 400000 in
/-- Put: the map alone is turned -/
theorem cput_any (cb tb g mb : Nat) (ws now : List Int) (vs : Value) (w : World) (i : Nat) (v : Int) (hi : i < ws.length) (hv : U v) (ht : ToldIs w tb g ws vs) (hc : ChgIs w cb tb mb ws now) :
    Calls Tryz.prog 59 #[.pointer (some ⟨cb, 0, none⟩), .int .i64 (i : Nat), .int .u64 v] w fun e w' => e = .returned (.tuple #[]) ∧ ChgIs w' cb tb mb ws (now.set i v) ∧ Fr (fun k => k = mb) w w' ∧ w'.heap.size = w.heap.size := by
  have hb := hc.below
  have hmp := hc.map
  have hm := meth_tread tb w _ ht.head
  have har := ahead_tread ⟨tb, 0, none⟩ w
  have HR : Hid (Calls Tryz.prog 197 #[.slice (some ⟨g, 0, none⟩) ws.length ws.length, .int .i64 (i : Nat)] w fun e w'' => e = .returned (.int .u64 (wd ws i)) ∧ w'' = w) := kread_any g 0 _ _ i _ w hi (ht.cells i hi)
  have hl : i ≤ 1048576 := by have := ht.len; omega
  obtain ⟨D, hown, hd⟩ := hc.mp
  have hsz : Maps.size D ≤ 1048576 := by rw [diff_size hown hd]; have := difP_len ws now; have := ht.len; omega
  have HU : Hid (∀ z ∈ now.set i v, U z) := fun z hz => by
    rcases List.mem_or_eq_of_mem_set hz with h | rfl
    · exact hc.un z h
    · exact hv
  have HT : Hid (∀ w', w.mapTurned w' mb → Fr (fun k => k = mb) w w' ∧ w'.heap.size = w.heap.size ∧ w'.heap[cb]? = w.heap[cb]?) := fun w' hw => by
    have hf : Fr (fun k => k = mb) w w' := (Fr.refl _ w).grown hw.grown (fun k _ hk => by cases hk; rfl)
    refine ⟨hf, ?_, hf.block cb (lt_of_block hc.cg) ?_⟩
    · obtain ⟨_, _, _, _, _, rfl⟩ := hw
      simp [Go.ChangeMaps.setBlock]
    · rintro rfl
      obtain ⟨_, _, hbm, _⟩ := hown
      rw [hc.cg] at hbm
      cases hbm
  have HC : Hid (w.heap[cb]? = some (.cells #[.iface 97 (.pointer (some ⟨tb, 0, none⟩)), .map (some mb)] 168 (0, 0)) ∧ now.length = ws.length ∧ DiffIs D ws now ∧ IsMap D) := ⟨hc.cg, hc.len, hd, hown.isMap⟩
  by_cases he : v = wd ws i
  · subst he
    obtain ⟨x, hx⟩ : ∃ x, x = wd ws i := ⟨_, rfl⟩
    have HX : Hid (x = wd ws i) := hx
    rw [← hx] at HR HU hv ⊢
    clear ht hc hd hx
    go_enter Tryz.func59, Tryz.ntmps59
    go_wp2_with (first
      | (go_at_call 197; refine calls_same HR.out ?_)
      | (at_delete; refine wpList_delete_own _ rfl _ _ 166 3 rfl 50 key_int Tryz.underlying166 _ mb _ D rfl hown _ _ rfl (hkey_i i hl) ?_; intro w1 hown1 hturn1))
    refine bodyPost_ret (v := .tuple #[]) (by simp [results, Tryz.results59, go_sem]) rfl ?_
    obtain ⟨t1, t2, t3⟩ := HT.out w1 hturn1
    obtain ⟨c1, c2, c3, c4⟩ := HC.out
    refine ⟨rfl, ⟨t3.trans c1, ⟨_, owns_tight hown1, ?_⟩, by simpa using c2, HU.out⟩, t1, t2⟩
    rw [HX.out]
    exact diff_del c3 c2 hi
  · have hne : (v == wd ws i) = false := by simpa using he
    obtain ⟨x, hx⟩ : ∃ x, x = wd ws i := ⟨_, rfl⟩
    have HX : Hid (x = wd ws i) := hx
    have HE : Hid (v ≠ wd ws i) := he
    rw [← hx] at HR hne
    have hval : plainElem (H := Unit) Tryz.prog 50 (.int .u64 v) = some (.lit (.int .u64 v), []) := plainElem_int Tryz.underlying50 (WalkArith.wf_u64 (by unfold U at hv; omega))
    clear ht hc hd hx he
    go_enter Tryz.func59, Tryz.ntmps59
    go_wp2_with (first
      | (go_at_call 197; refine calls_same HR.out ?_)
      | (at_mapUpdate; refine wpList_mapUpdate_in _ rfl _ _ _ 166 rfl 3 50 key_int Tryz.underlying166 _ mb _ D rfl hown (by unfold maxLen; omega) _ _ _ rfl rfl (hkey_i i hl) _ [] hval ?_; intro w1 hown1 hturn1))
    go_end0
    obtain ⟨t1, t2, t3⟩ := HT.out w1 hturn1
    obtain ⟨c1, c2, c3, c4⟩ := HC.out
    exact ⟨rfl, ⟨t3.trans c1, ⟨_, owns_tight hown1, diff_put c3 c4 c2 hi HE.out⟩, by simpa using c2, HU.out⟩, t1, t2⟩
end Go.Proofs.YtbagcjlimdilpaaGreat
/- What the document's Repair keeps in memory while it works, apart from its walk. -/
namespace Go.Proofs.YtbagcjlimdilpaaGreat
open Go.RowKit

/-- the words that are worked on, in a row of their own -/
structure Mem2 (w : World) (g c L : Nat) (cur : List Int) (wr : World) : Prop where
  own : wr.ownsRow w.heap.size 50 1 (.slice (some ⟨g, 0, none⟩) L c) L (cur.map (Value.int .u64))
  len : cur.length = L
  fr : Fr New w wr
theorem Mem2.base {w : World} {g c L : Nat} {cur : List Int} {wr : World} (h : Mem2 w g c L cur wr) : w.heap.size ≤ g := (own_block h.own rfl).1
theorem Mem2.cell {w : World} {g c L : Nat} {cur : List Int} {wr : World} (h : Mem2 w g c L cur wr) (k : Nat) (hk : k < L) : wr.cell? ⟨g, k, none⟩ = some (.int .u64 (wd cur k)) := by
  have hk' : k < cur.length := by rw [h.len]; exact hk
  rw [h.own.cellAt k (by omega)]
  unfold wd
  simp [hk', List.getD]
theorem Mem2.free {w : World} {g c L : Nat} {cur : List Int} {wr : World} (h : Mem2 w g c L cur wr) (k : Nat) : wr.frozen? ⟨g, k, none⟩ = false := h.own.frozenAt k
theorem Mem2.put {w : World} {g c L : Nat} {cur : List Int} {wr : World} (h : Mem2 w g c L cur wr) (k : Nat) (y : Int) : Mem2 w g c L (cur.set k y) (wr.setCell ⟨g, k, none⟩ (.int .u64 y)) :=
  ⟨by rw [List.map_set]; exact (h.own.stored k (.int .u64 y)).1, by simpa using h.len, h.fr.setCell (fun hlt => absurd hlt (by have := h.base; simp; omega)) _⟩
theorem Mem2.grow {w : World} {g c L : Nat} {cur : List Int} {wr w' : World} (h : Mem2 w g c L cur wr) (hf : Fr New wr w') : Mem2 w g c L cur w' := ⟨hf.owns h.own (fun _ _ h => h), h.len, h.fr.same hf⟩
theorem Mem2.rowU {w : World} {g c L : Nat} {cur : List Int} {wr : World} (h : Mem2 w g c L cur wr) : RowU wr (some ⟨g, 0, none⟩) cur := rowU_own h.own
theorem Mem2.cap {w : World} {g c L : Nat} {cur : List Int} {wr : World} (h : Mem2 w g c L cur wr) : L ≤ c := by
  rcases h.own.2 with ⟨h', _⟩ | ⟨g', cap', cur', h', _, _, hc, _⟩
  · cases h'
  · simp only [Value.slice.injEq, Option.some.injEq, Addr.mk.injEq, and_true, true_and] at h'
    omega
/-- a row of another kind stays where a word is put -/
theorem own_put {w wr : World} {g c L : Nat} {cur : List Int} (h : Mem2 w g c L cur wr) (k : Nat) (y : Value) {B : Nat} {e : TypeId} {sz : Nat} {v : Value} {n : Nat} {xs : List Value} (ho : wr.ownsRow B e sz v n xs) (he : e ≠ 50) : (wr.setCell ⟨g, k, none⟩ y).ownsRow B e sz v n xs := by
  have hf : Fr (fun k => k = g) wr (wr.setCell ⟨g, k, none⟩ y) := (Fr.refl (fun k => k = g) wr).setCell (p := ⟨g, k, none⟩) (fun _ => rfl) _
  refine hf.owns ho (fun g' hg' hh => ?_)
  obtain ⟨_, c1, h1⟩ := own_block ho hg'
  obtain ⟨_, c2, h2⟩ := own_block h.own rfl
  exact type_ne h1 h2 he hh
theorem row_put {w wr : World} {g c L : Nat} {cur : List Int} (h : Mem2 w g c L cur wr) (k : Nat) (y : Value) {gb : Nat} {out : List Bool} (ho : BRow wr gb out) : BRow (wr.setCell ⟨g, k, none⟩ y) gb out := by
  have hf : Fr (fun k => k = g) wr (wr.setCell ⟨g, k, none⟩ y) := (Fr.refl (fun k => k = g) wr).setCell (p := ⟨g, k, none⟩) (fun _ => rfl) _
  refine hf.heap ho (fun hh => ?_)
  obtain ⟨_, c2, h2⟩ := own_block h.own rfl
  exact type_ne ho h2 (by decide) hh

/-- the words, the objects and the marks -/
structure Hold (w : World) (g c L : Nat) (cur : List Int) (vl : Value) (l : List Ob) (gb : Nat) (out : List Bool) (wr : World) : Prop where
  mem : Mem2 w g c L cur wr
  obs : OwnO 0 wr vl l
  marks : BRow wr gb out
theorem Hold.put {w : World} {g c L : Nat} {cur : List Int} {vl : Value} {l : List Ob} {gb : Nat} {out : List Bool} {wr : World} (h : Hold w g c L cur vl l gb out wr) (k : Nat) (y : Int) : Hold w g c L (cur.set k y) vl l gb out (wr.setCell ⟨g, k, none⟩ (.int .u64 y)) :=
  ⟨h.mem.put k y, own_put h.mem k _ h.obs (by decide), row_put h.mem k _ h.marks⟩
theorem Hold.grow {w : World} {g c L : Nat} {cur : List Int} {vl : Value} {l : List Ob} {gb : Nat} {out : List Bool} {wr w' : World} (h : Hold w g c L cur vl l gb out wr) (hf : Fr New wr w') : Hold w g c L cur vl l gb out w' :=
  ⟨h.mem.grow hf, hf.owns h.obs (fun _ _ h => h), hf.heap h.marks id⟩

theorem Hold.objAt {w : World} {g c L : Nat} {cur : List Int} {av : Option Addr} {cv : Nat} {l : List Ob} {gb : Nat} {out : List Bool} {wr : World} (h : Hold w g c L cur (.slice av l.length cv) l gb out wr) (i : Nat) (hi : i < l.length) :
    ∃ gl, av = some ⟨gl, 0, none⟩ ∧ wr.cell? ⟨gl, i * 3, none⟩ = some (.int .i64 (l[i]).block) ∧ wr.cell? ⟨gl, i * 3 + 1, none⟩ = some (.int .i64 (l[i]).span) ∧ wr.cell? ⟨gl, i * 3 + 2, none⟩ = some (.int .i64 (l[i]).ptrs) := by
  obtain ⟨gl, c', hv, _, _⟩ := h.obs.form (by omega)
  simp only [Value.slice.injEq] at hv
  have key : ∀ j, j < 3 → wr.cell? ⟨gl, i * 3 + j, none⟩ = (obCells l[i])[j]? := fun j hj => by
    have hv' := hv.1
    subst hv'
    have := h.obs.cellAt (i * 3 + j) (by omega)
    exact this.trans (obsCells_get l i j hi hj)
  exact ⟨gl, hv.1, key 0 (by omega), key 1 (by omega), key 2 (by omega)⟩

theorem own_zero {w : World} {B : Nat} {e : TypeId} {sz : Nat} {v : Value} {n : Nat} {xs : List Value} (h : w.ownsRow B e sz v n xs) : w.ownsRow 0 e sz v n xs := by
  refine ⟨h.1, ?_⟩
  rcases h.2 with h | ⟨g, cap, cur, rfl, _, r⟩
  · exact .inl h
  · exact .inr ⟨g, cap, cur, rfl, Nat.zero_le _, r⟩
theorem emptyU (w : World) : (w.alloc (.cells #[] 50)).ownsRow w.heap.size 50 1 (.slice (some ⟨w.heap.size, 0, none⟩) 0 0) 0 [] := World.ownsRow_made w #[] 0 (Nat.le_refl _) (by decide) (by simp)

theorem copy_news {w : World} {x : Addr} {ws : List Int} (h : RowU w (some x) ws) (o : Obj) : ∀ j u, (ws.map (Value.int .u64))[j]? = some u → (w.alloc o).cell? (x.add j) = some u := by
  intro j u hu
  have hp : 0 < (ws.map (Value.int .u64)).length := by
    rcases Nat.lt_or_ge j (ws.map (Value.int .u64)).length with h | h
    · omega
    · rw [List.getElem?_eq_none h] at hu; cases hu
  obtain ⟨ad, had, hn⟩ := news_row (rowU_fr ((Fr.refl New w).alloc o) h (fun _ _ h => h)) hp
  cases had
  exact hn j u hu
theorem copy_mem {w w1 : World} {g c : Nat} {ws : List Int} (h : w1.ownsRow w.heap.size 50 1 (.slice (some ⟨g, 0, none⟩) (0 + ws.length) c) (0 + ws.length) ([] ++ ws.map (Value.int .u64)))
    (hg : (w.alloc (.cells #[] 50)).grownBy w1 (Value.slice (some ⟨w.heap.size, 0, none⟩) 0 0).ownBlock) : Mem2 w g c ws.length ws w1 :=
  ⟨by simpa using h, rfl, ((Fr.refl New w).alloc _).grown hg (fun k hk hv => by simp [Value.ownBlock] at hv; omega)⟩

theorem walk_mem {w : World} {g c L : Nat} {cur : List Int} {W : World} (M : Mem2 w g c L cur W) (hn : nblk L ≠ 0) :
    Calls Tryz.prog 126 #[.slice (some ⟨g, 0, none⟩) L c] W fun e w' => ∃ vl vb, e = .returned (.tuple #[vl, vb]) ∧ OwnO 0 w' vl (objs cur) ∧ OwnN 0 w' vb (bads cur) ∧ Fr New W w' := by
  have hl := M.len
  subst hl
  refine (walk_any _ c cur W hn M.rowU).mono ?_
  rintro e w' ⟨vl, vb, rfl, h1, h2, h3⟩
  exact ⟨vl, vb, rfl, own_zero h1, own_zero h2, h3⟩
theorem reached_mem {w : World} {g c L : Nat} {cur : List Int} {W : World} (M : Mem2 w g c L cur W) (hm : L ≤ 1048576) (h7 : 7 ≤ L) {vl : Value} (ho : OwnO 0 W vl (objs cur)) :
    Calls Tryz.prog 149 #[.slice (some ⟨g, 0, none⟩) L c, vl] W fun e w' => ∃ out : List Bool, e = .returned (.slice (some ⟨W.heap.size, 0, none⟩) (objs cur).length (objs cur).length) ∧ BRow w' W.heap.size out ∧ out.length = (objs cur).length ∧ (∀ i, out[i]? = some true ↔ Reach cur (objs cur) i) ∧ Fr New W w' := by
  have hl := M.len
  subst hl
  exact reached_any _ c cur vl (objs cur) W hm h7 M.rowU (lies_objs ho) (within_objs cur)
theorem seal_mem {w : World} {g c L : Nat} {cur : List Int} {W : World} (M : Mem2 w g c L cur W) (h8 : 8 ≤ L) (hm : L ≤ 1048576) :
    Calls Tryz.prog 131 #[.slice (some ⟨g, 0, none⟩) L c] W fun e w' => e = .returned (.tuple #[]) ∧ w' = W.setCell ⟨g, 7, none⟩ (.int .u64 (sumL (cur.take 7))) := by
  have hcap := M.cap
  have HS : Hid (Calls Tryz.prog 121 #[.slice (some ⟨g, 0, none⟩) 7 c] W fun e w' => e = .returned (.int .u64 (sumL (cur.take 7))) ∧ w' = W) :=
    rsum_any _ 7 _ (cur.take 7) W (by have := M.len; simp; omega) (by decide) (rowU_take M.rowU 7)
  have hfz := M.free 7
  have hcl := M.cell 7 (by omega)
  go_enter Tryz.func131, Tryz.ntmps131
  go_wp2_with (go_at_call 121; refine calls_same HS.out ?_)
  go_end0
  exact ⟨rfl, rfl⟩

/-- what is put where a record asks for it -/
theorem done_set (ws : List Int) (i : Nat) : (doneS ws i).set (wd ws (10 + 2 * i)).toNat (wd ws (11 + 2 * i)) = doneS ws (i + 1) := rfl
theorem doneS_U {ws : List Int} (hU : ∀ z ∈ ws, U z) (k : Nat) : ∀ z ∈ doneS ws k, U z := by
  induction k with
  | zero => exact hU
  | succ k ih =>
    intro z hz
    rcases List.mem_or_eq_of_mem_set hz with h | rfl
    · exact ih z h
    · exact wd_U hU _
end Go.Proofs.YtbagcjlimdilpaaGreat
/- The document's heap in memory; walks of its handle, Read, Root, SetRoot. -/
namespace Go.Proofs.YtbagcjlimdilpaaGreat
open Go.RowKit

/-- the document's heap at block hb: its words now, in a row of their own -/
structure RH (hb gn cn L : Nat) (vw vs : Value) (now : List Int) (w : World) : Prop where
  blk : w.heap[hb]? = some (.cells #[vw, .slice (some ⟨gn, 0, none⟩) L cn, vs] 141 (0, 0))
  own : w.ownsRow 0 50 1 (.slice (some ⟨gn, 0, none⟩) L cn) L (now.map (Value.int .u64))
  len : now.length = L
  n0 : nblk L ≠ 0
theorem RH.fr {hb gn cn L : Nat} {vw vs : Value} {now : List Int} {w w' : World} (h : RH hb gn cn L vw vs now w) (hf : Fr New w w') : RH hb gn cn L vw vs now w' := ⟨hf.heap h.blk id, hf.owns h.own (fun _ _ h => h), h.len, h.n0⟩
theorem RH.cell {hb gn cn L : Nat} {vw vs : Value} {now : List Int} {w : World} (h : RH hb gn cn L vw vs now w) (k : Nat) (hk : k < L) : w.cell? ⟨gn, k, none⟩ = some (.int .u64 (wd now k)) := by
  have hk' : k < now.length := by rw [h.len]; exact hk
  rw [h.own.cellAt k (by omega)]
  unfold wd
  simp [hk', List.getD]
theorem RH.free {hb gn cn L : Nat} {vw vs : Value} {now : List Int} {w : World} (h : RH hb gn cn L vw vs now w) (k : Nat) : w.frozen? ⟨gn, k, none⟩ = false := h.own.frozenAt k
theorem RH.rowU {hb gn cn L : Nat} {vw vs : Value} {now : List Int} {w : World} (h : RH hb gn cn L vw vs now w) : RowU w (some ⟨gn, 0, none⟩) now := rowU_own h.own
theorem RH.put {hb gn cn L : Nat} {vw vs : Value} {now : List Int} {w : World} (h : RH hb gn cn L vw vs now w) (k : Nat) (y : Int) : RH hb gn cn L vw vs (now.set k y) (w.setCell ⟨gn, k, none⟩ (.int .u64 y)) := by
  have hf : Fr (fun j => j = gn) w (w.setCell ⟨gn, k, none⟩ (.int .u64 y)) := (Fr.refl (fun j => j = gn) w).setCell (p := ⟨gn, k, none⟩) (fun _ => rfl) _
  refine ⟨hf.heap h.blk (fun he => ?_), by rw [List.map_set]; exact (h.own.stored k (.int .u64 y)).1, by simpa using h.len, h.n0⟩
  obtain ⟨_, c, hc⟩ := own_block h.own rfl
  exact type_ne h.blk hc (by decide) he
theorem RH.lens {hb gn cn L : Nat} {vw vs : Value} {now : List Int} {w : World} (h : RH hb gn cn L vw vs now w) : 114 ≤ L ∧ L ≤ 362 ∧ L ≤ cn := by
  obtain ⟨h1, h2, h3⟩ := nblk_some h.n0
  refine ⟨by omega, by omega, ?_⟩
  rcases h.own.2 with ⟨h', _⟩ | ⟨g', cap', cur', h', _, _, hc, _⟩
  · cases h'
  · simp only [Value.slice.injEq, Option.some.injEq, Addr.mk.injEq, and_true, true_and] at h'
    omega
theorem RH.walk {hb gn cn L : Nat} {vw vs : Value} {now : List Int} {w : World} (h : RH hb gn cn L vw vs now w) :
    Calls Tryz.prog 126 #[.slice (some ⟨gn, 0, none⟩) L cn] w fun e w' => ∃ vl vb, e = .returned (.tuple #[vl, vb]) ∧ LiesO w' vl (objs now) ∧ Fr New w w' := by
  have hl := h.len
  have := walk_any (some ⟨gn, 0, none⟩) cn now w (by rw [hl]; exact h.n0) h.rowU
  rw [hl] at this
  refine this.mono ?_
  rintro e w' ⟨vl, vb, rfl, h1, _, h3⟩
  exact ⟨vl, vb, rfl, lies_objs h1, h3⟩
theorem idx_low {l : List Ob} {n : Int} (h : n < 1) : idx l n = none := idx_no (fun i hi => by omega)

/-- what 'handle' tells -/
def handleV (l : List Ob) (n : Int) : Value := match idx l n with
  | some k => .tuple #[obV (l.getD k ⟨0, 0, 0⟩), .bool true]
  | none => .tuple #[.agg #[.int .i64 0, .int .i64 0, .int .i64 0], .bool false]
theorem handleV_none {l : List Ob} {n : Int} (h : idx l n = none) : handleV l n = .tuple #[.agg #[.int .i64 0, .int .i64 0, .int .i64 0], .bool false] := by unfold handleV; rw [h]
theorem handleV_some {l : List Ob} {n : Int} {k : Nat} (h : idx l n = some k) (hk : k < l.length) : handleV l n = .tuple #[obV l[k], .bool true] := by unfold handleV; rw [h]; simp [List.getD, hk]

set_option maxHeartbeats 1000000 in
set_option maxRecDepth 100000 in
theorem handle_any (hb gn cn L : Nat) (vw vs : Value) (now : List Int) (n : Int) (w : World) (h0 : -9223372036854775808 ≤ n) (h1 : n ≤ 9223372036854775807) (h : RH hb gn cn L vw vs now w) :
    Calls Tryz.prog 128 #[.pointer (some ⟨hb, 0, none⟩), .int .i64 n] w fun e w' => e = .returned (handleV (objs now) n) ∧ Fr New w w' := by
  obtain ⟨hcb, hzb⟩ := block_cells h.blk
  have hbw : hb < w.heap.size := lt_of_block h.blk
  have hc1 : w.cell? ⟨hb, 1, none⟩ = some (.slice (some ⟨gn, 0, none⟩) L cn) := (hcb 1).trans rfl
  have HW : Hid (∀ o, Calls Tryz.prog 126 #[.slice (some ⟨gn, 0, none⟩) L cn] (w.alloc o) fun e w' => ∃ vl vb, e = .returned (.tuple #[vl, vb]) ∧ LiesO w' vl (objs now) ∧ Fr New (w.alloc o) w') := fun o => (h.fr ((Fr.refl _ _).alloc o)).walk
  obtain ⟨l, hl⟩ : ∃ l, l = objs now := ⟨_, rfl⟩
  rw [← hl] at HW ⊢
  clear hcb hzb hl h
  by_cases hn : n < 1
  · rw [handleV_none (idx_low hn)]
    go_enter Tryz.func128, Tryz.ntmps128
    go_wp2_with (go_at_call 126; refine (HW.out _).mono ?_; rintro e w1 ⟨vl, vb, rfl, hlo, hf1⟩; obtain ⟨hcr, hzr⟩ := block_cells (hf1.heap (k := w.heap.size) (Go.Deep.blk_alloc_new w _) id))
    refine bodyPost_ret (v := .tuple #[.agg #[.int .i64 0, .int .i64 0, .int .i64 0], .bool false]) (by simp [results, Tryz.results128, go_sem, hcr]) rfl ⟨rfl, ?_⟩
    have hf : Fr New w w1 := ((Fr.refl _ _).alloc _).same hf1
    iterate 3 refine Fr.setCell ?_ (fun h => absurd h (by simp)) _
    exact hf
  · have hw1 : IntKind.u64.wrap n = n := by rw [IntKind.wrap_u64]; omega
    rcases hx : idx l n with _ | k
    · rw [handleV_none hx]
      have hfi := findI_none hx
      have HFI : Hid (∀ v w1, LiesO w1 v l → Calls Tryz.prog 130 #[v, .int .u64 n] w1 fun e w' => e = .returned (.int .i64 (-1)) ∧ w' = w1) := fun v w1 hv => by rw [← hfi]; exact find_any v l n w1 hv
      clear hfi hx
      go_enter Tryz.func128, Tryz.ntmps128
      go_wp2_with (first
        | (go_at_call 126; refine (HW.out _).mono ?_; rintro e w1 ⟨vl, vb, rfl, hlo, hf1⟩; obtain ⟨hcr, hzr⟩ := block_cells (hf1.heap (k := w.heap.size) (Go.Deep.blk_alloc_new w _) id))
        | (go_at_call 130; refine calls_same (HFI.out vl w1 hlo) ?_))
      refine bodyPost_ret (v := .tuple #[.agg #[.int .i64 0, .int .i64 0, .int .i64 0], .bool false]) (by simp [results, Tryz.results128, go_sem, hcr]) rfl ⟨rfl, ?_⟩
      have hf : Fr New w w1 := ((Fr.refl _ _).alloc _).same hf1
      iterate 3 refine Fr.setCell ?_ (fun h => absurd h (by simp)) _
      exact hf
    · have hk := idx_lt hx
      rw [handleV_some hx hk]
      have hfi := findI_some hx
      have HFI : Hid (∀ v w1, LiesO w1 v l → Calls Tryz.prog 130 #[v, .int .u64 n] w1 fun e w' => e = .returned (.int .i64 k) ∧ w' = w1) := fun v w1 hv => by rw [← hfi]; exact find_any v l n w1 hv
      have hd : decide ((k : Int) < (l.length : Int)) = true := by simp; omega
      clear hfi hx
      go_enter Tryz.func128, Tryz.ntmps128
      go_wp2_with (first
        | (go_at_call 126; refine (HW.out _).mono ?_; rintro e w1 ⟨vl, vb, rfl, hlo, hf1⟩; obtain ⟨hcr, hzr⟩ := block_cells (hf1.heap (k := w.heap.size) (Go.Deep.blk_alloc_new w _) id))
        | (go_at_call 130; refine calls_same (HFI.out vl w1 hlo) ?_; obtain ⟨av, cv, rfl, _, _, hcl⟩ := hlo; obtain ⟨gl, rfl, _, hcc⟩ := hcl (by omega); obtain ⟨e0, e1, e2⟩ := hcc k hk))
      refine bodyPost_ret (v := .tuple #[obV l[k], .bool true]) (by simp [results, Tryz.results128, go_sem, hcr]) rfl ⟨rfl, ?_⟩
      have hf : Fr New w w1 := ((Fr.refl _ _).alloc _).same hf1
      iterate 3 refine Fr.setCell ?_ (fun h => absurd h (by simp)) _
      exact hf
end Go.Proofs.YtbagcjlimdilpaaGreat
/- Walks of the document's Read, Root, SetRoot. -/
namespace Go.Proofs.YtbagcjlimdilpaaGreat
open Go.RowKit

/-- what Read tells -/
def readS (now : List Int) (n i : Int) : Int × Int := match idx (objs now) n with
  | none => (0, 9)
  | some k => if i < 0 ∨ 8 * (((objs now).getD k ⟨0, 0, 0⟩).span : Int) - 1 ≤ i then (0, 1) else (wd now (pl ((objs now).getD k ⟨0, 0, 0⟩) i.toNat), 0)
/-- what Root tells -/
def rootS (now : List Int) (i : Int) : Int × Int := if i < 0 ∨ 4 ≤ i then (0, 1) else (wrap64 (wd now (3 + i.toNat)), 0)
/-- what SetRoot makes -/
def setRootS (now : List Int) (i n : Int) : List Int × Int := if i < 0 ∨ 4 ≤ i then (now, 1) else if n ≠ 0 ∧ idx (objs now) n = none then (now, 9) else (now.set (3 + i.toNat) n, 0)

set_option maxRecDepth 100000 in
theorem rroot_any (hb gn cn L : Nat) (vw vs : Value) (now : List Int) (i : Int) (w : World) (h : RH hb gn cn L vw vs now w) :
    Calls Tryz.prog 79 #[.pointer (some ⟨hb, 0, none⟩), .int .i64 i] w fun e w' => e = .returned (.tuple #[.int .i64 (rootS now i).1, .int .i64 (rootS now i).2]) ∧ w' = w := by
  obtain ⟨hcb, hzb⟩ := block_cells h.blk
  have hc1 : w.cell? ⟨hb, 1, none⟩ = some (.slice (some ⟨gn, 0, none⟩) L cn) := (hcb 1).trans rfl
  obtain ⟨hl1, hl2, hl3⟩ := h.lens
  unfold rootS
  by_cases h0 : i < 0
  · rw [if_pos (.inl h0)]
    have hd : decide (i < 0) = true := by simpa using h0
    clear hcb hzb h
    go_enter Tryz.func79, Tryz.ntmps79
    go_wp2
    go_ret2
    exact ⟨rfl, rfl⟩
  · by_cases h4 : 4 ≤ i
    · rw [if_pos (.inr h4)]
      have hd : decide (i < 0) = false := by simpa using h0
      have hd4 : decide (4 ≤ i) = true := by simpa using h4
      clear hcb hzb h
      go_enter Tryz.func79, Tryz.ntmps79
      go_wp2
      go_ret2
      exact ⟨rfl, rfl⟩
    · rw [if_neg (by omega)]
      obtain ⟨k, rfl⟩ := Int.eq_ofNat_of_zero_le (show 0 ≤ i by omega)
      have hk : k < 4 := by omega
      have hc := h.cell (3 + k) (by omega)
      simp only [Int.toNat_natCast]
      obtain ⟨x, hx⟩ : ∃ x, x = wd now (3 + k) := ⟨_, rfl⟩
      rw [← hx] at hc ⊢
      have hd4 : decide (4 ≤ (k : Int)) = false := by simp; omega
      clear hcb hzb h hx
      go_enter Tryz.func79, Tryz.ntmps79
      go_wp2
      go_ret2
      exact ⟨rfl, rfl⟩

set_option maxHeartbeats 2000000 in
set_option maxRecDepth 100000 in
theorem rsetRoot_any (hb gn cn L : Nat) (vw vs : Value) (now : List Int) (i n : Int) (w : World) (h0 : -9223372036854775808 ≤ n) (h1 : n ≤ 9223372036854775807) (h : RH hb gn cn L vw vs now w) :
    Calls Tryz.prog 80 #[.pointer (some ⟨hb, 0, none⟩), .int .i64 i, .int .i64 n] w fun e w' => e = .returned (.int .i64 (setRootS now i n).2) ∧ RH hb gn cn L vw vs (setRootS now i n).1 w' ∧ Fr (fun k => k = gn) w w' := by
  have HH : Hid (Calls Tryz.prog 128 #[.pointer (some ⟨hb, 0, none⟩), .int .i64 n] w fun e w' => e = .returned (handleV (objs now) n) ∧ Fr New w w') := handle_any hb gn cn L vw vs now n w h0 h1 h
  obtain ⟨hl1, hl2, hl3⟩ := h.lens
  have hbw : hb < w.heap.size := lt_of_block h.blk
  unfold setRootS
  by_cases hi0 : i < 0
  · rw [if_pos (.inl hi0)]
    have hd : decide (i < 0) = true := by simpa using hi0
    go_enter Tryz.func80, Tryz.ntmps80
    go_wp2
    go_ret
    exact ⟨rfl, h, Fr.refl _ _⟩
  · have hd : decide (i < 0) = false := by simpa using hi0
    by_cases hi4 : 4 ≤ i
    · rw [if_pos (.inr hi4)]
      have hd4 : decide (4 ≤ i) = true := by simpa using hi4
      go_enter Tryz.func80, Tryz.ntmps80
      go_wp2
      go_ret
      exact ⟨rfl, h, Fr.refl _ _⟩
    · rw [if_neg (by omega)]
      obtain ⟨k, rfl⟩ := Int.eq_ofNat_of_zero_le (show 0 ≤ i by omega)
      have hk : k < 4 := by omega
      have hd4 : decide (4 ≤ (k : Int)) = false := by simp; omega
      simp only [Int.toNat_natCast]
      have HCW : Hid (∀ w1, Fr New w w1 → w1.cell? ⟨hb, 1, none⟩ = some (.slice (some ⟨gn, 0, none⟩) L cn) ∧ w1.cell? ⟨gn, 3 + k, none⟩ = some (.int .u64 (wd now (3 + k))) ∧ w1.frozen? ⟨gn, 3 + k, none⟩ = false ∧ gn < w1.heap.size) := fun w1 hf => by
        have h' := h.fr hf
        obtain ⟨_, _, hcc⟩ := own_block h'.own rfl
        exact ⟨((block_cells h'.blk).1 1).trans rfl, h'.cell (3 + k) (by omega), h'.free _, lt_of_block hcc⟩
      rcases hx : idx (objs now) n with _ | j
      · rw [handleV_none hx] at HH
        by_cases hn : n = 0
        · subst hn
          rw [if_neg (by simp)]
          clear hx
          go_enter Tryz.func80, Tryz.ntmps80
          go_wp2_with (go_at_call 128; refine HH.out.mono ?_; rintro e w1 ⟨rfl, hf1⟩; obtain ⟨c1, c2, c3, c4⟩ := HCW.out w1 hf1; have hb1 : hb < w1.heap.size := World.block_lt_of_cell? w1 _ c1)
          go_ret
          exact ⟨rfl, ((h.fr hf1).put (3 + k) 0).fr ((Fr.refl _ _).alloc _), ((((Fr.refl (fun k => k = gn) w).same hf1).setCell (p := ⟨gn, 3 + k, none⟩) (fun _ => rfl) _).alloc _)⟩
        · rw [if_pos ⟨hn, rfl⟩]
          have hdn : (n != 0) = true := by simpa using hn
          clear hx
          go_enter Tryz.func80, Tryz.ntmps80
          go_wp2_with (go_at_call 128; refine HH.out.mono ?_; rintro e w1 ⟨rfl, hf1⟩)
          go_ret
          exact ⟨rfl, h.fr (hf1.alloc _), ((Fr.refl _ _).same hf1).alloc _⟩
      · have hj := idx_lt hx
        rw [handleV_some hx hj] at HH
        have hn1 : 1 ≤ n := by
          rcases Int.lt_or_le n 1 with h' | h'
          · rw [idx_low h'] at hx; cases hx
          · exact h'
        rw [if_neg (by simp)]
        have hw1 : IntKind.u64.wrap n = n := by rw [IntKind.wrap_u64]; omega
        have hdn : (n != 0) = true := by simp; omega
        clear hx
        go_enter Tryz.func80, Tryz.ntmps80
        go_wp2_with (go_at_call 128; refine HH.out.mono ?_; rintro e w1 ⟨rfl, hf1⟩; obtain ⟨c1, c2, c3, c4⟩ := HCW.out w1 hf1; have hb1 : hb < w1.heap.size := World.block_lt_of_cell? w1 _ c1)
        go_ret
        exact ⟨rfl, ((h.fr hf1).put (3 + k) n).fr ((Fr.refl _ _).alloc _), ((((Fr.refl (fun k => k = gn) w).same hf1).setCell (p := ⟨gn, 3 + k, none⟩) (fun _ => rfl) _).alloc _)⟩

set_option maxHeartbeats 2000000 in
set_option maxRecDepth 100000 in
theorem rread_any (hb gn cn L : Nat) (vw vs : Value) (now : List Int) (n i : Int) (w : World) (h0 : -9223372036854775808 ≤ n) (h1 : n ≤ 9223372036854775807) (h : RH hb gn cn L vw vs now w) :
    Calls Tryz.prog 77 #[.pointer (some ⟨hb, 0, none⟩), .int .i64 n, .int .i64 i] w fun e w' => e = .returned (.tuple #[.int .u64 (readS now n i).1, .int .i64 (readS now n i).2]) ∧ Fr New w w' := by
  have HH : Hid (Calls Tryz.prog 128 #[.pointer (some ⟨hb, 0, none⟩), .int .i64 n] w fun e w' => e = .returned (handleV (objs now) n) ∧ Fr New w w') := handle_any hb gn cn L vw vs now n w h0 h1 h
  obtain ⟨hl1, hl2, hl3⟩ := h.lens
  have hbw : hb < w.heap.size := lt_of_block h.blk
  unfold readS
  rcases hx : idx (objs now) n with _ | k
  · rw [handleV_none hx] at HH
    clear hx h
    go_enter Tryz.func77, Tryz.ntmps77
    go_wp2_with (go_at_call 128; refine HH.out.mono ?_; rintro e w1 ⟨rfl, hf1⟩)
    go_ret2
    exact ⟨rfl, hf1.alloc _⟩
  · have hk := idx_lt hx
    rw [handleV_some hx hk] at HH
    have hin := objs_in (List.getElem_mem hk)
    have hnb := nblk_le now.length
    have hgd : (objs now).getD k ⟨0, 0, 0⟩ = (objs now)[k] := by simp [List.getD, hk]
    dsimp only
    rw [hgd]
    rw [h.len] at hin
    obtain ⟨o, ho⟩ : ∃ o, o = (objs now)[k] := ⟨_, rfl⟩
    rw [← ho] at HH hin ⊢
    obtain ⟨b, sp, pt⟩ := o
    simp only at HH hin ⊢
    obtain ⟨g1, g2, g3, g4, g5⟩ := hin
    clear hx hgd ho
    by_cases hi0 : i < 0
    · rw [if_pos (.inl hi0)]
      have hd : decide (i < 0) = true := by simpa using hi0
      go_enter Tryz.func77, Tryz.ntmps77
      go_wp2_with (go_at_call 128; refine HH.out.mono ?_; rintro e w1 ⟨rfl, hf1⟩)
      go_ret2
      exact ⟨rfl, hf1.alloc _⟩
    · have hd : decide (i < 0) = false := by simpa using hi0
      by_cases hi8 : 8 * (sp : Int) - 1 ≤ i
      · rw [if_pos (.inr hi8)]
        have hd8 : decide (8 * (sp : Int) - 1 ≤ i) = true := by simpa using hi8
        go_enter Tryz.func77, Tryz.ntmps77
        go_wp2_with (go_at_call 128; refine HH.out.mono ?_; rintro e w1 ⟨rfl, hf1⟩)
        go_ret2
        exact ⟨rfl, hf1.alloc _⟩
      · rw [if_neg (by omega)]
        obtain ⟨j, rfl⟩ := Int.eq_ofNat_of_zero_le (show 0 ≤ i by omega)
        simp only [Int.toNat_natCast]
        have hd8 : decide (8 * (sp : Int) - 1 ≤ (j : Int)) = false := by simp; omega
        have HPL : Hid (∀ w9, Calls Tryz.prog 129 #[.agg #[.int .i64 b, .int .i64 sp, .int .i64 pt], .int .i64 j] w9 fun e w' => e = .returned (.int .i64 ((pl ⟨b, sp, pt⟩ j : Nat) : Int)) ∧ Fr New w9 w') := fun w9 => by
          have := place_any ⟨b, sp, pt⟩ j w9 (by simp only; omega) (by omega) (by omega)
          rwa [show (106 + 8 * (b : Int) + 1 + (j : Int)) = ((pl ⟨b, sp, pt⟩ j : Nat) : Int) by unfold pl; simp only; omega] at this
        have hq : pl ⟨b, sp, pt⟩ j < L := by unfold pl; simp only; omega
        have HCW : Hid (∀ w1, Fr New w w1 → w1.cell? ⟨hb, 1, none⟩ = some (.slice (some ⟨gn, 0, none⟩) L cn) ∧ w1.cell? ⟨gn, pl ⟨b, sp, pt⟩ j, none⟩ = some (.int .u64 (wd now (pl ⟨b, sp, pt⟩ j)))) := fun w1 hf => by
          have h' := h.fr hf
          exact ⟨((block_cells h'.blk).1 1).trans rfl, h'.cell _ hq⟩
        obtain ⟨q, hqq⟩ : ∃ q, q = pl ⟨b, sp, pt⟩ j := ⟨_, rfl⟩
        rw [← hqq] at HPL hq HCW ⊢
        obtain ⟨x, hx⟩ : ∃ x, x = wd now q := ⟨_, rfl⟩
        rw [← hx] at HCW ⊢
        have hq0 : (0 : Int) ≤ (q : Int) := by omega
        have hq1 : (q : Int) < (L : Int) := by omega
        clear hqq hx h
        go_enter Tryz.func77, Tryz.ntmps77
        go_upto_region 6 with (go_at_call 128; refine HH.out.mono ?_; rintro e w1 ⟨rfl, hf1⟩)
        obtain ⟨c1, c2⟩ := HCW.out w1 hf1
        have hb1 : hb < w1.heap.size := World.block_lt_of_cell? w1 _ c1
        have hg1 : gn < w1.heap.size := World.block_lt_of_cell? w1 _ c2
        go_region_with (first
          | (go_at_call 129; refine (HPL.out _).mono ?_; rintro e w2 ⟨rfl, hf2⟩; have hf2' : Fr New w w2 := (by first | exact (hf1.alloc _).same hf2 | exact (hf1.alloc _).drew.same hf2); obtain ⟨d1, d2⟩ := HCW.out w2 hf2'))
        all_goals (try go_wp2_with fail)
        all_goals
          go_ret2
          exact ⟨rfl, by first | exact hf2' | exact hf2'.drew⟩
end Go.Proofs.YtbagcjlimdilpaaGreat
/- The document's heap whole: its words, its words now, its stores; walks of put, flush, Rollback. -/
namespace Go.Proofs.YtbagcjlimdilpaaGreat
open Go.RowKit

/-- a store -/
structure St where
  k : Int
  at' : Int
  v : Int
def stCells (s : St) : List Value := [.int .i64 s.k, .int .i64 s.at', .int .u64 s.v]
def stsCells (l : List St) : List Value := l.flatMap stCells
theorem stsCells_snoc (l : List St) (s : St) : stsCells (l ++ [s]) = stsCells l ++ stCells s := by simp [stsCells]
theorem stCells_one (s : St) : ∀ u ∈ stCells s, u.oneCell' = true := by
  intro u hu
  simp only [stCells, List.mem_cons, List.not_mem_nil, or_false] at hu
  rcases hu with rfl | rfl | rfl <;> rfl
theorem Tryz.info122 : (Tryz.prog.info? 122).map (fun i => (i.zero, i.size, i.bytes)) = some (some (.agg #[.int .i64 0, .int .i64 0, .int .u64 0]), 3, 24) := by kernel_rfl

/-- the heap at block hb: its words and its stores; vn: its words now, whatever they are -/
structure RHG (hb gw cw L : Nat) (vn vs : Value) (ws : List Int) (st : List St) (w : World) : Prop where
  blk : w.heap[hb]? = some (.cells #[.slice (some ⟨gw, 0, none⟩) L cw, vn, vs] 141 (0, 0))
  ownw : w.ownsRow 0 50 1 (.slice (some ⟨gw, 0, none⟩) L cw) L (ws.map (Value.int .u64))
  owns : w.ownsRow 0 122 3 vs st.length (stsCells st)
  lenw : ws.length = L
  n0 : nblk L ≠ 0
theorem RHG.fr {hb gw cw L : Nat} {vn vs : Value} {ws : List Int} {st : List St} {w w' : World} (h : RHG hb gw cw L vn vs ws st w) (hf : Fr New w w') : RHG hb gw cw L vn vs ws st w' :=
  ⟨hf.heap h.blk id, hf.owns h.ownw (fun _ _ h => h), hf.owns h.owns (fun _ _ h => h), h.lenw, h.n0⟩
theorem RHG.rowU {hb gw cw L : Nat} {vn vs : Value} {ws : List Int} {st : List St} {w : World} (h : RHG hb gw cw L vn vs ws st w) : RowU w (some ⟨gw, 0, none⟩) ws := rowU_own h.ownw

/-- which old blocks a store turns -/
def TurnedH (hb gw : Nat) (vs : Value) (k : Nat) : Prop := k = hb ∨ k = gw ∨ vs.ownBlock = some k
/-- behind an append to the stores, and its keeping -/
theorem RHG.stored {hb gw cw L : Nat} {vn vs : Value} {ws : List Int} {st : List St} {w w1 w2 : World} {s : St} (h : RHG hb gw cw L vn vs ws st w) (hf : Fr New w w1) {v2 : Value}
    (ho : w2.ownsRow 0 122 3 v2 (st.length + 1) (stsCells st ++ stCells s)) (hg : w1.grownBy w2 vs.ownBlock) :
    RHG hb gw cw L vn v2 ws (st ++ [s]) (w2.setCell ⟨hb, 2, none⟩ v2) ∧ Fr (TurnedH hb gw vs) w (w2.setCell ⟨hb, 2, none⟩ v2) := by
  have h1 := h.fr hf
  have h2 : Fr (fun k => vs.ownBlock = some k) w1 w2 := (Fr.refl _ _).grown hg (fun k _ hk => hk)
  have hne : ∀ t, t ≠ 122 → ∀ g cur, w1.heap[g]? = some (.cells cur t (0, 0)) → ¬ vs.ownBlock = some g := fun t ht g cur hg hv => by
    obtain ⟨_, c, hc⟩ := own_block h1.owns hv
    exact type_ne hg hc ht rfl
  have b2 := h2.heap h1.blk (hne _ (by decide) _ _ h1.blk)
  have u : ∀ {v : Value} {n : Nat} {ys : List Value}, w1.ownsRow 0 50 1 v n ys → w2.ownsRow 0 50 1 v n ys := fun hw => h2.owns hw (fun g hg => by
    obtain ⟨_, c, hc⟩ := own_block hw hg
    exact hne _ (by decide) _ _ hc)
  have h3 : Fr (fun k => k = hb) w2 (w2.setCell ⟨hb, 2, none⟩ v2) := (Fr.refl (fun k => k = hb) w2).setCell (p := ⟨hb, 2, none⟩) (fun _ => rfl) _
  have h3' : ∀ {B : Nat} {e : TypeId} {sz : Nat} {v : Value} {n : Nat} {ys : List Value}, e ≠ 141 → w2.ownsRow B e sz v n ys → (w2.setCell ⟨hb, 2, none⟩ v2).ownsRow B e sz v n ys := fun he hw => h3.owns hw (fun g hg hh => by
    obtain ⟨_, c, hc⟩ := own_block hw hg
    exact type_ne hc b2 he hh)
  refine ⟨⟨(heap_setCell_same w2 _ 2 _ _ _ b2).trans (by simp), h3' (by decide) (u h1.ownw), h3' (by decide) (by rw [stsCells_snoc, List.length_append]; exact ho), h.lenw, h.n0⟩, ?_⟩
  exact (((Fr.refl (TurnedH hb gw vs) w).same hf).trans h2 (fun j _ hv => .inr (.inr hv))).trans h3 (fun j _ he => .inl he)

set_option maxRecDepth 100000 in
theorem flush_any (hb gw cw L : Nat) (vn vs : Value) (ws : List Int) (st : List St) (w : World) (h : RHG hb gw cw L vn vs ws st w) (hl : st.length ≤ 1048576) :
    Calls Tryz.prog 133 #[.pointer (some ⟨hb, 0, none⟩)] w fun e w' => e = .returned (.tuple #[]) ∧ ∃ vs', RHG hb gw cw L vn vs' ws (st ++ [⟨2, 0, 0⟩]) w' ∧ Fr (TurnedH hb gw vs) w w' ∧ (vs'.ownBlock = vs.ownBlock ∨ ∀ g, vs'.ownBlock = some g → w.heap.size ≤ g) := by
  obtain ⟨i0, hi, hz0, hz1, hz2⟩ := info_parts Tryz.info122
  obtain ⟨hcb, hzb⟩ := block_cells h.blk
  have hc2 : w.cell? ⟨hb, 2, none⟩ = some vs := (hcb 2).trans rfl
  have hbw : hb < w.heap.size := lt_of_block h.blk
  obtain ⟨sa, sc, rfl⟩ := own_slice h.owns
  clear hcb hzb
  go_enter Tryz.func133, Tryz.ntmps133
  go_wp2_with (first
    | (at_builtin; refine wpList_append_own_at _ rfl (.tmp 6) (.tmp 8) 48 rfl 0 122 i0 _ 3 24 Tryz.underlying48 hi hz0 hz1 hz2 rfl (by decide) _ _ _ rfl (h.owns.alloc _) ⟨w.heap.size, 0, none⟩ 1 1 (stCells ⟨2, 0, 0⟩) rfl rfl (World.news_of_block (Go.Deep.blk_alloc_new w _)) (stCells_one _) (by unfold maxLen; omega) (by omega) (by simp) ?_; intro v2 w2 ho2 hg2 _ hb2; have hfin := h.stored ((Fr.refl New w).alloc _) ho2 hg2; obtain ⟨hcx, hzx⟩ := block_cells (((Fr.refl (fun k => (Value.slice sa st.length sc).ownBlock = some k) _).grown hg2 (fun k _ hk => hk)).heap (((Fr.refl New w).alloc _).heap h.blk id) (fun hv => by obtain ⟨_, c, hc⟩ := own_block h.owns hv; exact type_ne h.blk hc (by decide) rfl)); obtain ⟨a2, c2, rfl⟩ := own_slice ho2)
    | fail)
  go_end0
  exact ⟨rfl, _, hfin.1, hfin.2, by rcases hb2 with h' | h'; exact .inl h'; exact .inr (fun g hg => by rw [h'] at hg; simp at hg; omega)⟩

set_option maxRecDepth 100000 in
theorem put_doc (hb gw cw L : Nat) (vn vs : Value) (ws : List Int) (st : List St) (q : Nat) (y : Int) (w : World) (h : RHG hb gw cw L vn vs ws st w) (hq : q < L) (hl : st.length ≤ 1048576) :
    Calls Tryz.prog 132 #[.pointer (some ⟨hb, 0, none⟩), .int .i64 q, .int .u64 y] w fun e w' => e = .returned (.tuple #[]) ∧ ∃ vs', RHG hb gw cw L vn vs' (ws.set q y) (st ++ [⟨1, q, y⟩]) w' ∧ Fr (TurnedH hb gw vs) w w' ∧ (vs'.ownBlock = vs.ownBlock ∨ ∀ g, vs'.ownBlock = some g → w.heap.size ≤ g) := by
  obtain ⟨i0, hi, hz0, hz1, hz2⟩ := info_parts Tryz.info122
  obtain ⟨hcb, hzb⟩ := block_cells h.blk
  have hc0 : w.cell? ⟨hb, 0, none⟩ = some (.slice (some ⟨gw, 0, none⟩) L cw) := (hcb 0).trans rfl
  have hc2 : w.cell? ⟨hb, 2, none⟩ = some vs := (hcb 2).trans rfl
  have hbw : hb < w.heap.size := lt_of_block h.blk
  have hqc : q < ws.length := by rw [h.lenw]; exact hq
  have hcq : w.cell? ⟨gw, q, none⟩ = some (.int .u64 (wd ws q)) := by
    rw [h.ownw.cellAt q (by omega)]
    unfold wd
    simp [hqc, List.getD]
  have hfq := h.ownw.frozenAt q
  obtain ⟨_, cu, hcu⟩ := own_block h.ownw rfl
  have hgb : ¬ hb = gw := fun he => type_ne h.blk hcu (by decide) he
  have hF1 : Fr (fun k => k = gw) w (w.setCell ⟨gw, q, none⟩ (.int .u64 y)) := (Fr.refl (fun k => k = gw) w).setCell (p := ⟨gw, q, none⟩) (fun _ => rfl) _
  have h1 : RHG hb gw cw L vn vs (ws.set q y) st (w.setCell ⟨gw, q, none⟩ (.int .u64 y)) :=
    ⟨hF1.heap h.blk hgb, by rw [List.map_set]; exact (h.ownw.stored q (.int .u64 y)).1, hF1.owns h.owns (fun g hg he => by
      obtain ⟨_, c1, h1⟩ := own_block h.owns hg
      exact type_ne h1 hcu (by decide) he), by simpa using h.lenw, h.n0⟩
  have hz : (w.setCell ⟨gw, q, none⟩ (.int .u64 y)).heap.size = w.heap.size := World.size_setCell _ _ _
  obtain ⟨sa, sc, rfl⟩ := own_slice h.owns
  have hgw : gw < w.heap.size := lt_of_block hcu
  clear hcb hzb
  go_enter Tryz.func132, Tryz.ntmps132
  go_wp2_with (first
    | (at_builtin; refine wpList_append_own_at _ rfl (.tmp 17) (.tmp 21) 48 rfl 0 122 i0 _ 3 24 Tryz.underlying48 hi hz0 hz1 hz2 rfl (by decide) _ _ _ rfl (h1.owns.alloc _) ⟨w.heap.size, 0, none⟩ 1 1 (stCells ⟨1, q, y⟩) rfl rfl (World.news_of_block (new_at _ _ _ hz)) (stCells_one _) (by unfold maxLen; omega) (by omega) (by simp) ?_; intro v2 w2 ho2 hg2 _ hb2; have hfin := h1.stored ((Fr.refl New _).alloc _) ho2 hg2; obtain ⟨hcx, hzx⟩ := block_cells (((Fr.refl (fun k => (Value.slice sa st.length sc).ownBlock = some k) _).grown hg2 (fun k _ hk => hk)).heap (((Fr.refl New _).alloc _).heap h1.blk id) (fun hv => by obtain ⟨_, c, hc⟩ := own_block h1.owns hv; exact type_ne h1.blk hc (by decide) rfl)); obtain ⟨a2, c2, rfl⟩ := own_slice ho2)
    | fail)
  go_end0
  exact ⟨rfl, _, hfin.1, (hF1.mono (fun j _ he => .inr (.inl he))).trans hfin.2 (fun j _ hj => hj), by rcases hb2 with h' | h'; exact .inl h'; exact .inr (fun g hg => by rw [h'] at hg; simp at hg; omega)⟩

theorem two_put {w : World} {hb : Nat} {x y z : Value} (h : w.heap[hb]? = some (.cells #[x, y, z] 141 (0, 0))) (y' : Value) : (w.setCell ⟨hb, 1, none⟩ y').heap[hb]? = some (.cells #[x, y', z] 141 (0, 0)) := (heap_setCell_same w hb 1 _ _ _ h).trans (by simp)
set_option maxRecDepth 100000 in
theorem rollback_any (hb gw cw L : Nat) (vn vs : Value) (ws : List Int) (st : List St) (w : World) (h : RHG hb gw cw L vn vs ws st w) :
    Calls Tryz.prog 85 #[.pointer (some ⟨hb, 0, none⟩)] w fun e w' => e = .returned (.tuple #[]) ∧ ∃ gn cn, w.heap.size ≤ gn ∧ RHG hb gw cw L (.slice (some ⟨gn, 0, none⟩) L cn) vs ws st w' ∧ w'.ownsRow 0 50 1 (.slice (some ⟨gn, 0, none⟩) L cn) L (ws.map (Value.int .u64)) ∧ Fr (fun k => k = hb) w w' := by
  obtain ⟨i0, hi0, hz0, hz1, hz2⟩ := info_parts Tryz.info50
  obtain ⟨hcb, hzb⟩ := block_cells h.blk
  have hc0 : w.cell? ⟨hb, 0, none⟩ = some (.slice (some ⟨gw, 0, none⟩) L cw) := (hcb 0).trans rfl
  have hbw : hb < w.heap.size := lt_of_block h.blk
  have hL1 : 114 ≤ L := by have := (nblk_some h.n0).1; have := (nblk_some h.n0).2.1; omega
  have hL2 : L ≤ 362 := by have := (nblk_some h.n0).1; have := (nblk_some h.n0).2.2; omega
  have HLN : Hid (ws.length = L) := h.lenw
  have HRW : Hid (RowU w (some ⟨gw, 0, none⟩) ws) := h.rowU
  have HCM : Hid (∀ (w2 : World) (g c : Nat), w2.ownsRow w.heap.size 50 1 (.slice (some ⟨g, 0, none⟩) (0 + L) c) (0 + L) ([] ++ ws.map (Value.int .u64)) → (w.alloc (.cells #[] 50)).grownBy w2 (Value.slice (some ⟨w.heap.size, 0, none⟩) 0 0).ownBlock → Mem2 w g c L ws w2) := fun w2 g c h1 h2 => by
    rw [← HLN.out] at h1 ⊢
    exact copy_mem h1 h2
  clear hcb hzb
  go_enter Tryz.func85, Tryz.ntmps85
  go_wp2_with (first
    | (at_builtin; refine wpList_append_lies _ rfl (.tmp 3) (.tmp 7) 43 rfl w.heap.size 50 i0 (.int .u64 0) 1 8 Tryz.underlying43 hi0 hz0 hz1 hz2 rfl (by decide) _ _ _ rfl (emptyU w) ⟨gw, 0, none⟩ L cw (ws.map (Value.int .u64)) rfl (by simp [HLN.out]) (copy_news HRW.out _) (ints_oneU ws) (by omega) (by unfold maxLen; omega) (by omega) (by simp) _ rfl ?_; intro g cg w2 hown2 hg2 _ _; have M2 : Mem2 w g cg L ws w2 := HCM.out w2 g cg hown2 hg2; clear hown2 hg2; obtain ⟨hcy, hzy⟩ := block_cells (M2.fr.heap h.blk id))
    | fail)
  have h2 := h.fr M2.fr
  have h3 : Fr (fun k => k = hb) w2 (w2.setCell ⟨hb, 1, none⟩ (.slice (some ⟨g, 0, none⟩) (0 + L) cg)) := (Fr.refl (fun k => k = hb) w2).setCell (p := ⟨hb, 1, none⟩) (fun _ => rfl) _
  have hu : ∀ {v : Value} {n : Nat} {ys : List Value} {B : Nat} {e : TypeId} {sz : Nat}, e ≠ 141 → w2.ownsRow B e sz v n ys → ∀ g, v.ownBlock = some g → ¬ g = hb := fun he hw g hg hh => by
    obtain ⟨_, c, hc⟩ := own_block hw hg
    exact type_ne hc h2.blk he hh
  rw [Nat.zero_add] at h3
  go_end0
  exact ⟨rfl, g, cg, M2.base, ⟨two_put h2.blk _, h3.owns h2.ownw (hu (by decide) h2.ownw), h3.owns h2.owns (hu (by decide) h2.owns), h.lenw, h.n0⟩, h3.owns (own_zero M2.own) (hu (by decide) M2.own), ((Fr.refl _ _).same M2.fr).trans h3 (fun j _ he => he)⟩
end Go.Proofs.YtbagcjlimdilpaaGreat
