/- The walk of the law's 'plain' for Format and Sum: the answer is the document's. -/
import Derived.Test.YtbagcjlimdilpaaGreatSuStateF
namespace Go.Proofs.YtbagcjlimdilpaaGreat
open Go.RowKit

theorem words_parts {B b c : Nat} {vws : Value} {nw : Nat} {xs : List Value} {vb : Value} {es : List Entry} {w w4 : World} (P : Parts B b c vws nw xs vb es w) (hf : Fr New w w4) (hc : c ≤ 1073741823)
    (ao : Option Addr) (hao : ∀ g, ao = some ⟨g, 0, none⟩ → w.heap.size ≤ g) (zs : List Int) (len : Nat) (hlen : zs.length = len) (hz : len ≤ 1048576) (hl : LR w4 ao zs) :
    Calls Tryz.prog 88 #[.pointer (some ⟨b, 2, none⟩), .slice ao len len] w4 fun e w' => e = .returned (.tuple #[]) ∧ ∃ vb' es', Parts B b (c + 1) vws nw xs vb' es' w' ∧ Fr (T0 b vws vb) w w' ∧ Fr (Turned b ao vb) w4 w' := by
  subst hlen
  have P4 := P.fr hf
  refine (words_any b c vws _ vb _ _ ao zs B es.length (cellsOf es) w4 P4.bk hl P4.own P4.size (by omega) (by have := P.les; omega) hz).mono ?_
  rintro e w5 ⟨rfl, vb', l1, l2, l3, b1, b2, b3, b4⟩
  obtain ⟨P5, h5⟩ := P.words hf hao b1 b2 b3 b4
  exact ⟨rfl, vb', _, P5, h5, b4⟩
theorem image_parts {B b c : Nat} {vws : Value} {nw : Nat} {xs : List Value} {vb : Value} {es : List Entry} {w : World} (P : Parts B b c vws nw xs vb es w)
    (ad : Addr) (zs : List Int) (len cap : Nat) (hlen : zs.length = len) (hp : 0 < len) (hz : len < 1000) (hr : RowU w (some ad) zs) :
    Calls Tryz.prog 89 #[.pointer (some ⟨b, 0, none⟩), .slice (some ad) len cap] w fun e w' => e = .returned (.tuple #[]) ∧ ∃ vws' nw' xs', Parts B b c vws' nw' xs' vb es w' ∧ Fr (TurnedI b vws) w w' := by
  subst hlen
  refine (image_any b c vws _ vb _ _ ad cap zs B nw xs w P.bk P.ws P.size P.few hr hp hz).mono ?_
  rintro e w6 ⟨rfl, vws', nw', xs', hn, b1, b2, b4⟩
  exact ⟨rfl, vws', nw', xs', P.image hn b1 b2 b4, b4⟩
theorem same_len (a a' : Option Addr) (cap cap' : Nat) (zs : List Int) (len : Nat) (w : World) (hlen : zs.length = len) (hm : len ≤ maxLen) (ha : RowU w a zs) (hb : RowU w a' zs) :
    Calls Tryz.prog 87 #[.slice a len cap, .slice a' len cap'] w fun e w' => e = .returned (.bool true) ∧ ∃ n, w' = w.drewN n := by
  subst hlen; exact same_true a a' cap cap' zs w hm ha hb

theorem row_turned {B b c : Nat} {vws : Value} {nw : Nat} {xs : List Value} {vb : Value} {es : List Entry} {w4 w5 : World} (P : Parts B b c vws nw xs vb es w4) {ao : Option Addr} {g : Nat} {zs : List Int}
    (h : Row w4 g zs) (hf : Fr (Turned b ao vb) w4 w5) (hao : ao ≠ some ⟨g, 0, none⟩) : Row w5 g zs := by
  refine h.fr hf ?_
  rintro (rfl | h' | h')
  · exact type_ne h P.bk (by decide) rfl
  · exact hao h'
  · obtain ⟨_, cur, hh⟩ := own_block P.own h'; exact type_ne h hh (by decide) rfl

set_option maxHeartbeats 4000000 in
set_option maxRecDepth 1000000 in
theorem plain_format_yes (B b c : Nat) (A C : Int) (n : Nat) (V : Int) (Wa : Option Addr) (Wl Wc : Nat) (w : World) (hI : Inv B b c w) (hc : c ≤ 1073741823) (h1 : 1 ≤ n) (h2 : n ≤ 32) :
    Calls Tryz.prog 73 #[.pointer (some ⟨b, 0, none⟩), .agg #[.int .i64 1, .int .i64 A, .int .i64 n, .int .i64 C, .int .u64 V, .slice Wa Wl Wc]] w fun e w' => e = .returned (.bool true) ∧ Below B w w' ∧ Inv B b (c + 1) w' := by
  obtain ⟨vws, nw, xs, vb, es, P⟩ := hI
  go_enter Tryz.func73, Tryz.ntmps73
  go_wp2_with (first
    | (go_at_call 37; refine (fmt_yes n _ h1 h2).mono ?_; rintro e w1 ⟨rfl, hr1, hf1⟩; obtain ⟨hcx, hzx⟩ := block_cells (hf1.heap (Go.Deep.blk_alloc_new w _) id); have hr1' : Row w1 (w.heap.size + 1) (imgL n) := by simpa using hr1)
    | (go_at_call 119; refine (rfmt_yes n w1 h1 h2).mono ?_; rintro e w2 ⟨rfl, hr2, hf2⟩; have hr3 := hr1'.fr hf2 id; have hf3 := ((Fr.refl New w).alloc _).same (hf1.same hf2))
    | (go_at_call 87; refine (same_len _ _ _ _ (imgL n) (106 + 8 * n) w2 (imgL_len n) (by unfold maxLen; omega) hr3.rowU hr2.rowU).mono ?_; rintro e w4 ⟨rfl, n4, hw4⟩; have hf4 : Fr New w w4 := (by rw [hw4]; exact hf3.drewN _); have hr4 : Row w4 (w.heap.size + 1) (imgL n) := (by rw [hw4]; exact hr3); have hy4 : Row w4 w1.heap.size (imgL n) := (by rw [hw4]; exact hr2); clear hw4 hr3 hf3)
    | (go_at_call 88; refine (words_parts P hf4 hc (some ⟨w.heap.size + 1, 0, none⟩) (fun g hg => by simp only [Option.some.injEq, Addr.mk.injEq] at hg; omega) (imgL n) (106 + 8 * n) (imgL_len n) (by omega) (.inr ⟨_, rfl, hr4⟩)).mono ?_; rintro e w5 ⟨rfl, vb', es', P5, h5, h45⟩; have hy5 : Row w5 w1.heap.size (imgL n) := row_turned (P.fr hf4) hy4 h45 (fun hh => by simp only [Option.some.injEq, Addr.mk.injEq] at hh; have := hr1'.lt; omega))
    | (go_at_call 89; refine (image_parts P5 ⟨w1.heap.size, 0, none⟩ (imgL n) (106 + 8 * n) (106 + 8 * n) (imgL_len n) (by omega) (by omega) hy5.rowU).mono ?_; rintro e w6 ⟨rfl, vws', nw', xs', P6, h6⟩)
    | fail)
  go_ret
  exact ⟨rfl, (Parts.imageFr h5 h6).below P.size P.old, _, _, _, _, _, P6⟩

set_option maxHeartbeats 4000000 in
set_option maxRecDepth 1000000 in
theorem plain_format_no (B b c : Nat) (A C : Int) (n : Int) (V : Int) (Wa : Option Addr) (Wl Wc : Nat) (w : World) (hI : Inv B b c w) (hc : c ≤ 1073741823) (h : n < 1 ∨ 32 < n) :
    Calls Tryz.prog 73 #[.pointer (some ⟨b, 0, none⟩), .agg #[.int .i64 1, .int .i64 A, .int .i64 n, .int .i64 C, .int .u64 V, .slice Wa Wl Wc]] w fun e w' => e = .returned (.bool true) ∧ Below B w w' ∧ Inv B b (c + 1) w' := by
  obtain ⟨vws, nw, xs, vb, es, P⟩ := hI
  go_enter Tryz.func73, Tryz.ntmps73
  go_wp2_with (first
    | (go_at_call 37; refine calls_same (fmt_no n _ h) ?_)
    | (go_at_call 119; refine calls_same (rfmt_no n _ h) ?_)
    | (go_at_call 87; refine (same_len none none 0 0 [] 0 _ rfl (by decide) (rowU_nil _ _) (rowU_nil _ _)).mono ?_; rintro e w4 ⟨rfl, n4, hw4⟩; have hf4 : Fr New w w4 := (by rw [hw4]; exact ((Fr.refl New w).alloc _).drewN _); clear hw4)
    | (go_at_call 88; refine (words_parts P hf4 hc none (fun g hg => by cases hg) [] 0 rfl (by omega) (.inl ⟨rfl, rfl⟩)).mono ?_; rintro e w5 ⟨rfl, vb', es', P5, h5, _⟩)
    | fail)
  go_ret
  exact ⟨rfl, h5.below P.size P.old, _, _, _, _, _, P5⟩

theorem eight_row {w : World} {g : Nat} {zs : List Int} (hr : Row w g (withEight zs)) : RowU w (some ⟨g, 0, none⟩) zs := by
  have := rowU_take hr.rowU zs.length
  rwa [show (withEight zs).take zs.length = zs by simp [withEight]] at this

set_option maxHeartbeats 4000000 in
set_option maxRecDepth 1000000 in
theorem plain_sum (B b c : Nat) (A D C : Int) (V : Int) (Wa : Option Addr) (Wc : Nat) (zs : List Int) (w : World) (hI : Inv B b c w) (hz : zs.length ≤ 1048576) (hr : RowU w Wa zs) :
    Calls Tryz.prog 73 #[.pointer (some ⟨b, 0, none⟩), .agg #[.int .i64 2, .int .i64 A, .int .i64 D, .int .i64 C, .int .u64 V, .slice Wa zs.length Wc]] w fun e w' => e = .returned (.bool true) ∧ Below B w w' ∧ Inv B b c w' := by
  obtain ⟨vws, nw, xs, vb, es, P⟩ := hI
  have hr0 := fun o => rowU_fr ((Fr.refl New w).alloc o) hr (fun _ _ h => h)
  go_enter Tryz.func73, Tryz.ntmps73
  go_wp2_with (first
    | (go_at_call 120; refine (lent_any Wa Wc zs _ hz (hr0 _)).mono ?_; rintro e w1 ⟨rfl, hr1, hf1⟩; obtain ⟨hcx, hzx⟩ := block_cells (hf1.heap (Go.Deep.blk_alloc_new w _) id); have hr1' : Row w1 (w.heap.size + 1) (withEight zs) := (by simpa using hr1); have hW1 := rowU_fr hf1 (hr0 _) (fun _ _ h => h); have hf2 := ((Fr.refl New w).alloc _).same hf1; clear hr0 hf1)
    | (go_at_call 36; refine calls_same (sum_any _ _ _ zs w1 rfl (by unfold maxLen; omega) (eight_row hr1')) ?_)
    | (go_at_call 121; refine calls_same (rsum_any _ _ _ zs w1 rfl (by unfold maxLen; omega) hW1) ?_)
    | (go_at_call 122; refine (back_true (w.heap.size + 1) Wa Wc zs w1 hz hr1' hW1).mono ?_; rintro e w2 ⟨rfl, hf3⟩; have hf4 := hf2.trans hf3 (fun j hj ht => by omega))
    | fail)
  go_ret
  exact ⟨rfl, hf4.below P.size (fun _ _ h => h), _, _, _, _, _, P.fr hf4⟩
end Go.Proofs.YtbagcjlimdilpaaGreat
