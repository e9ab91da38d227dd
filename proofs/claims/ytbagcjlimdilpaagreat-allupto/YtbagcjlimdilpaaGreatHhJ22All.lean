/- Texts that follow one another, joined. -/
import Derived.Test.YtbagcjlimdilpaaGreatHhHxG
import Derived.Test.YtbagcjlimdilpaaGreatHhJ17
import Derived.Test.YtbagcjlimdilpaaGreatHhJ21
import Derived.Test.YtbagcjlimdilpaaGreatHhJ2
/- The law's 'step' for all kinds; 'looks'; the start. -/
namespace Go.Proofs.YtbagcjlimdilpaaGreat
open Go.RowKit Go.Maps

theorem sta_start (w : World) : Sta w.heap.size w.heap.size 0 (w.alloc (.cells #[.slice none 0 0, .slice none 0 0, .int .i64 0, .slice none 0 0, .slice none 0 0, .slice none 0 0] 88)) :=
  ⟨fun _ => 0, ⟨.slice none 0 0, .slice none 0 0, .slice none 0 0⟩, 0, .slice none 0 0, 0, [], .slice none 0 0, [], [], [], [],
    ⟨Go.Deep.blk_alloc_new w _, World.ownsRow_nil _ _ _ _, World.ownsRow_nil _ _ _ _, fun e he => absurd he (by simp), fun e he => absurd he (by simp), by omega, Nat.le_refl _, Nat.le_refl _, fun _ _ => rfl⟩, fun v hv => absurd hv (by simp),
    ⟨World.ownsRow_nil _ _ _ _, by simp, fun i hi => absurd hi (by simp), World.ownsRow_nil _ _ _ _, fun e he => absurd he (by simp), World.ownsRow_nil _ _ _ _, fun e he => absurd he (by simp), Nat.le_refl _, Nat.le_refl _⟩, Nat.le_refl _, fun _ _ => rfl⟩
theorem Sta.size {B b N : Nat} {w : World} (h : Sta B b N w) : B ≤ w.heap.size := by
  obtain ⟨col, X, c, vws, nw, xs, vb, es, ps, ss, os, S⟩ := h
  exact S.p.size
theorem Sta.new {B b N : Nat} {w w' : World} (h : Sta B b N w) (hf : Fr New w w') : Sta B b N w' := by
  obtain ⟨col, X, c, vws, nw, xs, vb, es, ps, ss, os, S⟩ := h
  exact ⟨col, X, c, vws, nw, xs, vb, es, ps, ss, os, S.new hf⟩
theorem looks_sta (B b N : Nat) (w : World) (hS : Sta B b N w) (hN : N ≤ 1073741824) :
    Calls Tryz.prog 43 #[.pointer (some ⟨b, 2, none⟩)] w fun e w' => e = .returned (.bool true) ∧ Below B w w' ∧ Sta B b N w' := by
  have hS0 := hS
  obtain ⟨col, X, c, vws, nw, xs, vb, es, ps, ss, os, S⟩ := hS
  have hc := S.cN
  refine (looks_all b c vws X.h vb X.s X.o es ss os B _ w S.p.bk S.p.own (by have := S.p.les; omega) S.p.good S.s.rs (by have := S.s.ls; omega) S.s.gs S.s.ro (by have := S.s.lo; omega) S.s.go).mono ?_
  rintro e w' ⟨rfl, hf⟩
  exact ⟨rfl, S.below hf, hS0.new hf⟩
set_option maxHeartbeats 4000000 in
set_option maxRecDepth 1000000 in
/-- no heap: nothing is asked -/
theorem step_nil (B b N : Nat) (k A D C V : Int) (Wa : Option Addr) (Wl Wc : Nat) (w : World) {col : Nat → Nat} {X : Rest} {c : Nat} {vws : Value} {nw : Nat} {xs : List Value} {vb : Value} {es : List Entry} {ss os : List EntE}
    (S : StaX col X B b c N vws nw xs vb es [] ss os w) (hk : 7 ≤ k) :
    Calls Tryz.prog 42 #[.pointer (some ⟨b, 0, none⟩), opV k A D C V Wa Wl Wc] w fun e w' => e = .returned (.bool true) ∧ Below B w w' ∧ Sta B b (N + 200) w' := by
  obtain ⟨ah, ch, hxh⟩ := own_slice S.s.hs
  have hbk : Wb w b vws (.slice ah 0 ch) c vb X.s X.o := hxh ▸ S.p.bk
  have hcb1 : w.cell? ⟨b, 1, none⟩ = some (.slice ah 0 ch) := ((block_cells hbk).1 1).trans rfl
  have hbW := S.p.lt
  have HSM : Hid (∀ W, Fr New w W → Below B w W ∧ Sta B b (N + 200) W) := fun W hW => S.same hW
  have h1 : decide (k < 1) = false := by simp; omega
  have h6 : decide (k ≤ 6) = false := by simp; omega
  clear S hbk hxh hk
  go_enter Tryz.func42, Tryz.ntmps42
  go_wp2
  go_ret
  exact ⟨rfl, HSM.out _ ((Fr.refl New w).alloc _)⟩
set_option maxHeartbeats 4000000 in
set_option maxRecDepth 1000000 in
theorem step_open (B b N : Nat) (A D C V : Int) (Wa : Option Addr) (Wc : Nat) (zs : List Int) (w : World) (hS : Sta B b N w) (ho : OpOkX A D C V zs) :
    Calls Tryz.prog 42 #[.pointer (some ⟨b, 0, none⟩), opV 6 A D C V Wa zs.length Wc] w fun e w' => e = .returned (.bool true) ∧ Below B w w' ∧ Sta B b (N + 200) w' := by
  have HP : Hid (∀ o, Calls Tryz.prog 73 #[.pointer (some ⟨b, 0, none⟩), opV 6 A D C V Wa zs.length Wc] (w.alloc o) fun e w' => e = .returned (.bool true) ∧ Below B w w' ∧ Sta B b (N + 200) w') := fun o => by
    have hf : Fr New w (w.alloc o) := (Fr.refl New w).alloc o
    obtain ⟨col, X, c, vws, nw, xs, vb, es, ps, ss, os, S⟩ := hS.new hf
    have hbl : Below B w (w.alloc o) := hf.below hS.size (fun _ _ h => h)
    rcases Nat.eq_zero_or_pos nw with rfl | hn
    · refine (plain_noneX B b c 6 A D C V Wa zs.length Wc _ (by decide) (by decide) S.p).mono ?_
      rintro e w' ⟨rfl, h2⟩
      obtain ⟨q1, q2⟩ := S.same h2
      exact ⟨rfl, hbl.trans q1, q2⟩
    · refine (plain_open B b N A D C V Wa zs.length Wc _ S hn ho.a0 ho.a1).mono ?_
      rintro e w' ⟨rfl, q1, q2⟩
      exact ⟨rfl, hbl.trans q1, q2⟩
  clear hS ho
  go_enter Tryz.func42, Tryz.ntmps42
  go_wp2_with (go_at_call 73; refine (HP.out _).mono ?_; rintro e w1 ⟨rfl, hB, hS⟩)
  go_ret
  exact ⟨rfl, hB, hS⟩
theorem step_any (B b N : Nat) (k A D C V : Int) (Wa : Option Addr) (Wc : Nat) (zs : List Int) (w : World) (hk : k ≤ 18) (hS : Sta B b N w) (hN : N ≤ 1073739000) (ho : OpOkX A D C V zs) (hr : RowU w Wa zs) :
    Calls Tryz.prog 42 #[.pointer (some ⟨b, 0, none⟩), opV k A D C V Wa zs.length Wc] w fun e w' => e = .returned (.bool true) ∧ Below B w w' ∧ Sta B b (N + 200) w' := by
  by_cases h5 : k ≤ 5
  · obtain ⟨col, X, c, vws, nw, xs, vb, es, ps, ss, os, S⟩ := hS
    have hc := S.cN
    refine (step_fiveX B b c k A D C V Wa Wc zs w h5 ⟨vws, nw, xs, vb, es, S.p, S.i⟩ (by omega) ho hr).mono ?_
    rintro e w' ⟨rfl, hst, c', hc', hI⟩
    exact ⟨rfl, hst.b, S.five hst hI hc'.1 (by omega)⟩
  · by_cases h6 : k = 6
    · subst h6
      exact step_open B b N A D C V Wa Wc zs w hS ho
    · obtain ⟨col, X, c, vws, nw, xs, vb, es, ps, ss, os, S⟩ := hS
      cases ps with
      | nil => exact step_nil B b N k A D C V Wa zs.length Wc w S (by omega)
      | cons p0 pr =>
        have hp : 0 < (p0 :: pr).length := by simp
        rcases (show k = 7 ∨ k = 8 ∨ k = 9 ∨ k = 10 ∨ k = 11 ∨ k = 12 ∨ k = 13 ∨ k = 14 ∨ k = 15 ∨ k = 16 ∨ k = 17 ∨ k = 18 by omega) with rfl | rfl | rfl | rfl | rfl | rfl | rfl | rfl | rfl | rfl | rfl | rfl
        · exact step_alloc B b N A D C V Wa zs.length Wc zs w S hp ho
        · exact step_free B b N A D C V Wa zs.length Wc zs w S hp ho
        · exact step_read B b N A D C V Wa zs.length Wc zs w S hp ho
        · exact step_write B b N A D C V Wa zs.length Wc zs w S hp ho
        · exact step_root B b N A D C V Wa zs.length Wc zs w S hp ho
        · exact step_setRoot B b N A D C V Wa zs.length Wc zs w S hp ho
        · exact step_objects B b N A D C V Wa zs.length Wc zs w S hp ho hN
        · exact step_commit B b N A D C V Wa zs.length Wc zs w S hp ho hN
        · exact step_back B b N A D C V Wa zs.length Wc zs w S hp ho hN
        · exact step_stores B b N A D C V Wa zs.length Wc zs w S hp ho hN
        · exact step_img B b N A D C V Wa zs.length Wc zs w S hp ho hN
        · exact step_crash B b N A D C V Wa zs.length Wc zs w S hp ho hN
theorem okX (A D C : Int) (h0 : -9223372036854775808 ≤ A) (h1 : A ≤ 9223372036854775807) (h2 : -9223372036854775808 ≤ D) (h3 : D ≤ 9223372036854775807) (h4 : -9223372036854775808 ≤ C) (h5 : C ≤ 9223372036854775807) : OpOkX A D C 0 [] := ⟨h0, h1, h2, h3, h4, h5, U_zeroX, by decide, fun z hz => by cases hz⟩
/-- a step of the law's own -/
theorem step_own (B b N : Nat) (k A D C : Int) (w : World) (hk : k ≤ 18) (hS : Sta B b N w) (hN : N ≤ 1073739000) (h0 : -9223372036854775808 ≤ A) (h1 : A ≤ 9223372036854775807) (h2 : -9223372036854775808 ≤ D) (h3 : D ≤ 9223372036854775807) (h4 : -9223372036854775808 ≤ C) (h5 : C ≤ 9223372036854775807) :
    Calls Tryz.prog 42 #[.pointer (some ⟨b, 0, none⟩), .agg #[.int .i64 k, .int .i64 A, .int .i64 D, .int .i64 C, .int .u64 0, .slice none 0 0]] w fun e w' => e = .returned (.bool true) ∧ Below B w w' ∧ Sta B b (N + 200) w' :=
  step_any B b N k A D C 0 none 0 [] w hk hS hN (okX A D C h0 h1 h2 h3 h4 h5) (rowU_nil _ _)
end Go.Proofs.YtbagcjlimdilpaaGreat
/- A script that lies in memory, with its numbers; the law's first step. -/
namespace Go.Proofs.YtbagcjlimdilpaaGreat
open Go.RowKit Go.Maps

/-- a script, with its numbers -/
def Script3 (w : World) (sb so : Nat) (ops : List OpD) : Prop := Script w sb so ops ∧ ∀ i (h : i < ops.length), OpOkX (ops[i]).A (ops[i]).D (ops[i]).C (ops[i]).V (ops[i]).zs
theorem own_bare (B b N : Nat) (k A D C : Nat) (w : World) (hk : k ≤ 18) (hS : Sta B b N w) (hN : N ≤ 1073739000) (hA : A ≤ 1000) (hD : D ≤ 1000) (hC : C ≤ 1000) :
    Calls Tryz.prog 42 #[.pointer (some ⟨b, 0, none⟩), .agg #[.int .i64 (k : Int), .int .i64 (A : Int), .int .i64 (D : Int), .int .i64 (C : Int), .int .u64 0, .slice none 0 0]] w fun e w' => e = .returned (.bool true) ∧ Below B w w' ∧ Sta B b (N + 200) w' :=
  step_own B b N k A D C w (by omega) hS hN (by omega) (by omega) (by omega) (by omega) (by omega) (by omega)
theorem first_any (w : World) :
    Calls Tryz.prog 42 #[.pointer (some ⟨w.heap.size, 0, none⟩), .agg #[.int .i64 1, .int .i64 0, .int .i64 4, .int .i64 0, .int .u64 0, .slice none 0 0]] (w.alloc (.cells #[.slice none 0 0, .slice none 0 0, .int .i64 0, .slice none 0 0, .slice none 0 0, .slice none 0 0] 88))
      fun e w' => e = .returned (.bool true) ∧ Below w.heap.size w w' ∧ Sta w.heap.size w.heap.size 200 w' :=
  (step_own w.heap.size w.heap.size 0 1 0 4 0 _ (by omega) (sta_start w) (by omega) (by decide) (by decide) (by decide) (by decide) (by decide) (by decide)).mono (by
    rintro e w' ⟨rfl, hb, hS⟩
    exact ⟨rfl, (((Fr.refl New w).alloc _).below (Nat.le_refl _) (fun _ _ h => h)).trans hb, hS⟩)
end Go.Proofs.YtbagcjlimdilpaaGreat
/- The walk of 'plays' and of the law All, over any script that lies in memory. -/
namespace Go.Proofs.YtbagcjlimdilpaaGreat
open Go.RowKit Go.Maps

set_option maxHeartbeats 8000000 in
set_option maxRecDepth 1000000 in
theorem plays_all (a0 : Option Addr) (cap : Nat) (ops : List OpD) (w : World) (hlen : ops.length ≤ 1048576) (ha : 0 < ops.length → ∃ sb so, a0 = some ⟨sb, so, none⟩ ∧ Script3 w sb so ops) :
    Calls Tryz.prog 14 #[.slice a0 ops.length cap, .int .i64 18] w fun e w' => e = .returned (.bool true) ∧ Below w.heap.size w w' := by
  have HS0 := first_any w
  go_enter Tryz.func14, Tryz.ntmps14
  go_wp2_with (first
    | (go_at_call_of 42 (Value.int IntKind.i64 14); refine (own_bare w.heap.size w.heap.size 1200 14 0 0 0 w6 (by omega) hS6 (by omega) (by omega) (by omega) (by omega)).mono ?_; rintro e w7 ⟨rfl, hb7, hS7⟩)
    | (go_at_call_of 42 (Value.int IntKind.i64 12); refine (own_bare w.heap.size w.heap.size 1000 12 0 0 1 w5 (by omega) hS5 (by omega) (by omega) (by omega) (by omega)).mono ?_; rintro e w6 ⟨rfl, hb6, hS6⟩)
    | (go_at_call_of 42 (Value.int IntKind.i64 7); refine (own_bare w.heap.size w.heap.size 800 7 0 1 2 w4 (by omega) hS4 (by omega) (by omega) (by omega) (by omega)).mono ?_; rintro e w5 ⟨rfl, hb5, hS5⟩)
    | (go_at_call_of 42 (Value.int IntKind.i64 6); refine (own_bare w.heap.size w.heap.size 600 6 0 0 0 w3 (by omega) hS3 (by omega) (by omega) (by omega) (by omega)).mono ?_; rintro e w4 ⟨rfl, hb4, hS4⟩)
    | (go_at_call_of 42 (Value.int IntKind.i64 5); refine (own_bare w.heap.size w.heap.size 400 5 0 0 0 w2 (by omega) hS2 (by omega) (by omega) (by omega) (by omega)).mono ?_; rintro e w3 ⟨rfl, hb3, hS3⟩)
    | (go_at_call_of 42 (Value.int IntKind.i64 1); refine HS0.mono ?_; rintro e w1 ⟨rfl, hb1, hS1⟩)
    | (go_at_call_of 42 (Value.int IntKind.i64 4); refine (own_bare w.heap.size w.heap.size 200 4 0 0 0 w1 (by omega) hS1 (by omega) (by omega) (by omega) (by omega)).mono ?_; rintro e w2 ⟨rfl, hb2, hS2⟩)
    | fail)
  have hbA : Below w.heap.size w w7 := (((((hb1.trans hb2).trans hb3).trans hb4).trans hb5).trans hb6).trans hb7
  clear HS0 hS1 hS2 hS3 hS4 hS5 hS6 hb1 hb2 hb3 hb4 hb5 hb6 hb7
  go_loopg [6, 11] ops.length (fun gh t i wr => ∃ k : Nat, k ≤ ops.length ∧ gh = ops.length - k ∧ t = .bool true ∧ i = .int .i64 k ∧ Sta w.heap.size w.heap.size (1400 + 200 * k) wr ∧ Below w.heap.size w wr)
  case atStart => exact ⟨0, Nat.zero_le _, rfl, rfl, rfl, hS7, hbA⟩
  case round =>
    obtain ⟨k, hk, rfl, rfl, rfl, hS, hb⟩ := hrel
    clear hS7 hbA
    by_cases hlt : k < ops.length
    · have hd : decide (k < ops.length) = true := by simpa using hlt
      have hdi : decide ((k : Int) < (ops.length : Int)) = true := by simp; omega
      obtain ⟨sb, so, rfl, hS1, hOK⟩ := ha (by omega)
      obtain ⟨hE, hz, hr⟩ := hS1 k hlt
      have hok := hOK k hlt
      obtain ⟨o, ho⟩ : ∃ o, o = ops[k] := ⟨_, rfl⟩
      rw [← ho] at hE hz hr hok
      clear ho hS1 ha hOK
      have hrw := rowU_below hb hr
      have hE' : ∀ j, j < 6 → wr.cell? ⟨sb, so + k * 6 + j, none⟩ = o.cells[j]? := fun j hj => by
        have h6 := hE j hj
        have hs : ∃ v, o.cells[j]? = some v := by
          have : j < o.cells.length := by simpa [OpD.cells] using hj
          exact ⟨_, List.getElem?_eq_getElem this⟩
        obtain ⟨v, hv⟩ := hs
        rw [hv] at h6 ⊢
        exact (hb.cell (World.block_lt_of_cell? w _ h6)).trans h6
      obtain ⟨ok, oA, oD, oC, oV, oa, oc, oz⟩ := o
      have e0 := hE' 0 (by omega)
      have e1 := hE' 1 (by omega)
      have e2 := hE' 2 (by omega)
      have e3 := hE' 3 (by omega)
      have e4 := hE' 4 (by omega)
      have e5 := hE' 5 (by omega)
      clear hE hE' hr
      simp only [OpD.cells, List.getElem?_cons_zero, List.getElem?_cons_succ, Nat.add_zero] at e0 e1 e2 e3 e4 e5 hz hrw hok
      by_cases hk2 : ok ≤ 18
      · have HST : Hid (Calls Tryz.prog 42 #[.pointer (some ⟨w.heap.size, 0, none⟩), opV ok oA oD oC oV oa oz.length oc] wr fun e w' => e = .returned (.bool true) ∧ Below w.heap.size wr w' ∧ Sta w.heap.size w.heap.size (1400 + 200 * k + 200) w') := step_any w.heap.size w.heap.size (1400 + 200 * k) ok oA oD oC oV oa oc oz wr (by omega) hS (by omega) hok hrw
        clear hok hrw
        go_wp2_with (first
          | (go_at_call 42; refine Calls.mono HST.out ?_; rintro e w2 ⟨rfl, hb2, hS2⟩)
          | (go_at_call 43; refine (looks_sta w.heap.size w.heap.size (1400 + 200 * k + 200) w2 hS2 (by omega)).mono ?_; rintro e w3 ⟨rfl, hb3, hS3⟩)
          | fail)
        go_roundg (ops.length - (k + 1))
        case measure => omega
        case rel => exact ⟨k + 1, by omega, rfl, rfl, by go_num, by rw [show 1400 + 200 * (k + 1) = 1400 + 200 * k + 200 by omega]; exact hS3, (hb.trans hb2).trans hb3⟩
      · clear hok hrw
        go_wp2
        go_roundg (ops.length - (k + 1))
        case measure => omega
        case rel => exact ⟨k + 1, by omega, rfl, rfl, by go_num, hS.more (by omega), hb⟩
    · have hd : decide (k < ops.length) = false := by simp; omega
      have hdi : decide ((k : Int) < (ops.length : Int)) = false := by simp; omega
      have hS' : Sta w.heap.size w.heap.size 209716600 wr := hS.more (by omega)
      clear ha hS
      go_wp2
      go_loopg [6, 13] 13 (fun gh t i wr => ∃ k : Nat, k ≤ 12 ∧ gh = 13 - k ∧ t = .bool true ∧ i = .int .i64 k ∧ Sta w.heap.size w.heap.size (209716600 + 400 * k) wr ∧ Below w.heap.size w wr)
      case atStart => exact ⟨0, by omega, rfl, rfl, rfl, hS', hb⟩
      case round =>
        clear hS' hb hlt hd hdi hk
        obtain ⟨k2, hk12, rfl, rfl, rfl, hS, hb⟩ := hrel
        have HS : Hid (Sta w.heap.size w.heap.size (209716600 + 400 * k2) wr) := hS
        obtain ⟨col, X, c, vws, nw, xs, vb, es, ps, ss, os, S⟩ := hS
        have hfew := S.p.few
        obtain ⟨hcb, hzb⟩ := block_cells S.p.bk
        obtain ⟨aw, cw, rfl⟩ := own_slice S.p.ws
        have hbw := S.p.lt
        clear S
        by_cases hw0 : k2 < nw
        · have hd2 : decide (k2 < nw) = true := by simpa using hw0
          have hd2i : decide ((k2 : Int) < (nw : Int)) = true := by simp; omega
          go_wp2_with (first
            | (go_at_call_of 42 (Value.int IntKind.i64 5); refine (own_bare w.heap.size w.heap.size (209716600 + 400 * k2 + 200) 5 k2 0 0 w2 (by omega) hS2 (by omega) (by omega) (by omega) (by omega)).mono ?_; rintro e w3 ⟨rfl, hb3, hS3⟩)
            | (go_at_call_of 42 (Value.int IntKind.i64 4); refine (own_bare w.heap.size w.heap.size (209716600 + 400 * k2) 4 k2 0 0 wr (by omega) HS.out (by omega) (by omega) (by omega) (by omega)).mono ?_; rintro e w2 ⟨rfl, hb2, hS2⟩)
            | fail)
          go_roundg (13 - (k2 + 1))
          case measure => omega
          case rel => exact ⟨k2 + 1, by omega, rfl, rfl, by go_num, hS3.more (by omega), (hb.trans hb2).trans hb3⟩
        · have hd2 : decide (k2 < nw) = false := by simp; omega
          have hd2i : decide ((k2 : Int) < (nw : Int)) = false := by simp; omega
          have hS' : Sta w.heap.size w.heap.size 209722000 wr := HS.out.more (by omega)
          clear HS
          go_wp2
          go_loopg [6, 15] 5 (fun gh t i wr => ∃ k : Nat, k ≤ 4 ∧ gh = 5 - k ∧ t = .bool true ∧ i = .int .i64 k ∧ Sta w.heap.size w.heap.size (209722000 + 600 * k) wr ∧ Below w.heap.size w wr)
          case atStart => exact ⟨0, by omega, rfl, rfl, rfl, hS', hb⟩
          case round =>
            clear hS' hb hcb hzb hw0 hd2 hd2i hfew hk12 hbw
            obtain ⟨k3, hk4, rfl, rfl, rfl, hS, hb⟩ := hrel
            have HS : Hid (Sta w.heap.size w.heap.size (209722000 + 600 * k3) wr) := hS
            obtain ⟨col, X, c, vws, nw, xs, vb, es, ps, ss, os, S⟩ := hS
            have hfew := S.s.few
            obtain ⟨ah, ch, hxh⟩ := own_slice S.s.hs
            have hcb1 : wr.cell? ⟨w.heap.size, 1, none⟩ = some (.slice ah ps.length ch) := by rw [← hxh]; exact ((block_cells S.p.bk).1 1).trans rfl
            have hbw := S.p.lt
            obtain ⟨nh, hnh⟩ : ∃ nh, nh = ps.length := ⟨_, rfl⟩
            rw [← hnh] at hcb1 hfew
            clear S hxh hnh
            by_cases hh0 : k3 < nh
            · have hd3 : decide (k3 < nh) = true := by simpa using hh0
              have hd3i : decide ((k3 : Int) < (nh : Int)) = true := by simp; omega
              go_wp2_with (first
                | (go_at_call_of 42 (Value.int IntKind.i64 17); refine (own_bare w.heap.size w.heap.size (209722000 + 600 * k3 + 200 + 200) 17 k3 0 0 w3 (by omega) hS3 (by omega) (by omega) (by omega) (by omega)).mono ?_; rintro e w4 ⟨rfl, hb4, hS4⟩)
                | (go_at_call_of 42 (Value.int IntKind.i64 16); refine (own_bare w.heap.size w.heap.size (209722000 + 600 * k3 + 200) 16 k3 0 0 w2 (by omega) hS2 (by omega) (by omega) (by omega) (by omega)).mono ?_; rintro e w3 ⟨rfl, hb3, hS3⟩)
                | (go_at_call_of 42 (Value.int IntKind.i64 13); refine (own_bare w.heap.size w.heap.size (209722000 + 600 * k3) 13 k3 0 0 wr (by omega) HS.out (by omega) (by omega) (by omega) (by omega)).mono ?_; rintro e w2 ⟨rfl, hb2, hS2⟩)
                | fail)
              go_roundg (5 - (k3 + 1))
              case measure => omega
              case rel => exact ⟨k3 + 1, by omega, rfl, rfl, by go_num, hS4.more (by omega), ((hb.trans hb2).trans hb3).trans hb4⟩
            · have hd3 : decide (k3 < nh) = false := by simp; omega
              have hd3i : decide ((k3 : Int) < (nh : Int)) = false := by simp; omega
              go_wp2
              go_ret
              exact ⟨rfl, hb⟩
theorem all_walk (a0 : Option Addr) (cap : Nat) (ops : List OpD) (w : World) (hlen : ops.length ≤ 1048576) (ha : 0 < ops.length → ∃ sb so, a0 = some ⟨sb, so, none⟩ ∧ Script3 w sb so ops) :
    Calls Tryz.prog 8 #[.slice a0 ops.length cap] w fun e w' => e = .returned (.bool true) ∧ Below w.heap.size w w' := by
  go_enter Tryz.func8, Tryz.ntmps8
  go_wp2_with (go_at_call 14; refine (plays_all a0 cap ops w hlen ha).mono ?_; rintro e w1 ⟨rfl, hb⟩)
  go_ret
  exact ⟨rfl, hb⟩
end Go.Proofs.YtbagcjlimdilpaaGreat
