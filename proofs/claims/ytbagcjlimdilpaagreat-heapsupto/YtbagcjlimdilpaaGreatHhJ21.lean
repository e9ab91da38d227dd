/- Texts that follow one another, joined. -/
import Derived.Test.YtbagcjlimdilpaaGreatHhJ20
import Derived.Test.YtbagcjlimdilpaaGreatHhHxR
import Derived.Test.YtbagcjlimdilpaaGreatHhHxW
import Derived.Test.YtbagcjlimdilpaaGreatHhHyA
import Derived.Test.YtbagcjlimdilpaaGreatHhHxG
import Derived.Deep.RegionLaw
/- The law's 'step' for Objects, Commit, Rollback, Image. -/
namespace Go.Proofs.YtbagcjlimdilpaaGreat
open Go.RowKit Go.Maps
attribute [local go_sem ↓] Go.wp_at_zero Go.wp_at_succ

set_option maxHeartbeats 8000000 in
set_option maxRecDepth 1000000 in
theorem step_commit (B b N : Nat) (A D C V : Int) (Wa : Option Addr) (Wl Wc : Nat) (zs : List Int) (w : World) {col : Nat → Nat} {X : Rest} {c : Nat} {vws : Value} {nw : Nat} {xs : List Value} {vb : Value} {es : List Entry} {ps : List Nat} {ss os : List EntE}
    (S : StaX col X B b c N vws nw xs vb es ps ss os w) (hp : 0 < ps.length) (ho : OpOkX A D C V zs) (hN : N ≤ 1073739000) :
    Calls Tryz.prog 42 #[.pointer (some ⟨b, 0, none⟩), opV 14 A D C V Wa Wl Wc] w fun e w' => e = .returned (.bool true) ∧ Below B w w' ∧ Sta B b (N + 200) w' := by
  obtain ⟨i, hi, hpk⟩ := pick_of A ps.length hp
  obtain ⟨gh, ch, hxh, hpc⟩ := S.s.pick hi
  obtain ⟨d, DD, hc1, hc0⟩ := S.s.du i hi
  have hbk : Wb w b vws (.slice (some ⟨gh, 0, none⟩) ps.length ch) c vb X.s X.o := hxh ▸ S.p.bk
  have hcb1 : w.cell? ⟨b, 1, none⟩ = some (.slice (some ⟨gh, 0, none⟩) ps.length ch) := ((block_cells hbk).1 1).trans rfl
  have hbW := S.p.lt
  have hghW : gh < w.heap.size := World.block_lt_of_cell? w _ hpc
  have HPK : Hid (∀ w, Calls Tryz.prog 74 #[.int .i64 A, .int .i64 ps.length] w fun e w' => e = .returned (.int .i64 (i : Int)) ∧ w' = w) := fun w => by have := lpick_any A ps.length w ho.a0 ho.a1 (by omega) (by have := S.s.few; omega); rwa [hpk] at this
  obtain ⟨c0, PC, h1, h2⟩ := pair_commit S i hi DD hc1 hc0 (by omega)
  have H1 : Hid (_) := h1
  have H2 : Hid (_) := h2
  clear h1 h2
  have hnh : ps.length ≤ 4 := S.s.few
  have p0 := DD.c0
  have p1 := DD.c1
  obtain ⟨pb, hpb⟩ : ∃ pb, pb = ps[i] := ⟨_, rfl⟩
  rw [← hpb] at p0 p1 hpc H1
  have hpbW : pb < w.heap.size := World.block_lt_of_cell? w _ p0
  obtain ⟨nh, hnl⟩ : ∃ nh, nh = ps.length := ⟨_, rfl⟩
  rw [← hnl] at hcb1 HPK hnh hp hi
  obtain ⟨hb, ehb⟩ : ∃ hb, hb = d.hb := ⟨_, rfl⟩
  obtain ⟨rb, erb⟩ : ∃ rb, rb = d.rb := ⟨_, rfl⟩
  rw [← ehb] at p0 H1
  rw [← erb] at p1 H1 H2
  clear ehb erb hc1 hc0 DD S hbk hxh hpk hpb hnl
  have hj0 : (0 : Int) ≤ (i : Int) := by omega
  have hj1 : (i : Int) < (nh : Int) := by omega
  have hnz : ((nh : Int) == 0) = false := by simp; omega
  go_enter Tryz.func42, Tryz.ntmps42
  go_upto_region 7 with fail
  go_quiet (first | (go_at_call 74; exact Calls.quiet_of_same (HPK.out _)) | fail)
  have hob2 : ∃ W, W = (w.alloc (.cells #[.int .i64 14, .int .i64 A, .int .i64 D, .int .i64 C, .int .u64 V, .slice Wa Wl Wc] 91)).drewN nq := ⟨_, rfl⟩
  obtain ⟨W, hW⟩ := hob2
  have hWf : Fr New w W := by rw [hW]; exact ((Fr.refl New w).alloc _).drewN _
  have hbox : W.heap[w.heap.size]? = some (.cells #[.int .i64 14, .int .i64 A, .int .i64 D, .int .i64 C, .int .u64 V, .slice Wa Wl Wc] 91 (0, 0)) := by rw [hW]; exact Go.Deep.blk_alloc_new w _
  obtain ⟨hcx, hzx⟩ := block_cells hbox
  rw [← hW]
  have q0 := hWf.cell p0 id
  have q1 := hWf.cell p1 id
  have HWF : Hid (Fr New w W) := hWf
  clear hW hbox hWf p0 p1 hcb1 hpc HPK
  go_wp2_with (first
    | (go_at_call 24; refine (H1.out W HWF.out).mono ?_; rintro e w1 ⟨rfl, hP, y1⟩)
    | (go_at_call 84; refine (H2.out W w1 HWF.out hP).mono ?_; rintro e w2 ⟨rfl, hB, hS⟩)
    | fail)
  go_ret
  exact ⟨rfl, hB, hS⟩

set_option maxHeartbeats 8000000 in
set_option maxRecDepth 1000000 in
theorem step_back (B b N : Nat) (A D C V : Int) (Wa : Option Addr) (Wl Wc : Nat) (zs : List Int) (w : World) {col : Nat → Nat} {X : Rest} {c : Nat} {vws : Value} {nw : Nat} {xs : List Value} {vb : Value} {es : List Entry} {ps : List Nat} {ss os : List EntE}
    (S : StaX col X B b c N vws nw xs vb es ps ss os w) (hp : 0 < ps.length) (ho : OpOkX A D C V zs) (hN : N ≤ 1073739000) :
    Calls Tryz.prog 42 #[.pointer (some ⟨b, 0, none⟩), opV 15 A D C V Wa Wl Wc] w fun e w' => e = .returned (.bool true) ∧ Below B w w' ∧ Sta B b (N + 200) w' := by
  obtain ⟨i, hi, hpk⟩ := pick_of A ps.length hp
  obtain ⟨gh, ch, hxh, hpc⟩ := S.s.pick hi
  obtain ⟨d, DD, hc1, hc0⟩ := S.s.du i hi
  have hbk : Wb w b vws (.slice (some ⟨gh, 0, none⟩) ps.length ch) c vb X.s X.o := hxh ▸ S.p.bk
  have hcb1 : w.cell? ⟨b, 1, none⟩ = some (.slice (some ⟨gh, 0, none⟩) ps.length ch) := ((block_cells hbk).1 1).trans rfl
  have hbW := S.p.lt
  have hghW : gh < w.heap.size := World.block_lt_of_cell? w _ hpc
  have HPK : Hid (∀ w, Calls Tryz.prog 74 #[.int .i64 A, .int .i64 ps.length] w fun e w' => e = .returned (.int .i64 (i : Int)) ∧ w' = w) := fun w => by have := lpick_any A ps.length w ho.a0 ho.a1 (by omega) (by have := S.s.few; omega); rwa [hpk] at this
  obtain ⟨PC, h1, h2⟩ := pair_back S i hi DD hc1 hc0
  have _ := hN
  have H1 : Hid (_) := h1
  have H2 : Hid (_) := h2
  clear h1 h2
  have hnh : ps.length ≤ 4 := S.s.few
  have p0 := DD.c0
  have p1 := DD.c1
  obtain ⟨pb, hpb⟩ : ∃ pb, pb = ps[i] := ⟨_, rfl⟩
  rw [← hpb] at p0 p1 hpc H1
  have hpbW : pb < w.heap.size := World.block_lt_of_cell? w _ p0
  obtain ⟨nh, hnl⟩ : ∃ nh, nh = ps.length := ⟨_, rfl⟩
  rw [← hnl] at hcb1 HPK hnh hp hi
  obtain ⟨hb, ehb⟩ : ∃ hb, hb = d.hb := ⟨_, rfl⟩
  obtain ⟨rb, erb⟩ : ∃ rb, rb = d.rb := ⟨_, rfl⟩
  rw [← ehb] at p0 H1
  rw [← erb] at p1 H1 H2
  clear ehb erb hc1 hc0 DD S hbk hxh hpk hpb hnl
  have hj0 : (0 : Int) ≤ (i : Int) := by omega
  have hj1 : (i : Int) < (nh : Int) := by omega
  have hnz : ((nh : Int) == 0) = false := by simp; omega
  go_enter Tryz.func42, Tryz.ntmps42
  go_upto_region 7 with fail
  go_quiet (first | (go_at_call 74; exact Calls.quiet_of_same (HPK.out _)) | fail)
  have hob2 : ∃ W, W = (w.alloc (.cells #[.int .i64 15, .int .i64 A, .int .i64 D, .int .i64 C, .int .u64 V, .slice Wa Wl Wc] 91)).drewN nq := ⟨_, rfl⟩
  obtain ⟨W, hW⟩ := hob2
  have hWf : Fr New w W := by rw [hW]; exact ((Fr.refl New w).alloc _).drewN _
  have hbox : W.heap[w.heap.size]? = some (.cells #[.int .i64 15, .int .i64 A, .int .i64 D, .int .i64 C, .int .u64 V, .slice Wa Wl Wc] 91 (0, 0)) := by rw [hW]; exact Go.Deep.blk_alloc_new w _
  obtain ⟨hcx, hzx⟩ := block_cells hbox
  rw [← hW]
  have q0 := hWf.cell p0 id
  have q1 := hWf.cell p1 id
  have HWF : Hid (Fr New w W) := hWf
  clear hW hbox hWf p0 p1 hcb1 hpc HPK
  go_wp2_with (first
    | (go_at_call 22; refine (H1.out W HWF.out).mono ?_; rintro e w1 ⟨rfl, hP, y1⟩)
    | (go_at_call 85; refine (H2.out W w1 HWF.out hP).mono ?_; rintro e w2 ⟨rfl, hB, hS⟩)
    | fail)
  go_ret
  exact ⟨rfl, hB, hS⟩

set_option maxHeartbeats 8000000 in
set_option maxRecDepth 1000000 in
theorem step_objects (B b N : Nat) (A D C V : Int) (Wa : Option Addr) (Wl Wc : Nat) (zs : List Int) (w : World) {col : Nat → Nat} {X : Rest} {c : Nat} {vws : Value} {nw : Nat} {xs : List Value} {vb : Value} {es : List Entry} {ps : List Nat} {ss os : List EntE}
    (S : StaX col X B b c N vws nw xs vb es ps ss os w) (hp : 0 < ps.length) (ho : OpOkX A D C V zs) (hN : N ≤ 1073739000) :
    Calls Tryz.prog 42 #[.pointer (some ⟨b, 0, none⟩), opV 13 A D C V Wa Wl Wc] w fun e w' => e = .returned (.bool true) ∧ Below B w w' ∧ Sta B b (N + 200) w' := by
  obtain ⟨i, hi, hpk⟩ := pick_of A ps.length hp
  obtain ⟨gh, ch, hxh, hpc⟩ := S.s.pick hi
  obtain ⟨d, DD, hc1, hc0⟩ := S.s.du i hi
  have hbk : Wb w b vws (.slice (some ⟨gh, 0, none⟩) ps.length ch) c vb X.s X.o := hxh ▸ S.p.bk
  have hcb1 : w.cell? ⟨b, 1, none⟩ = some (.slice (some ⟨gh, 0, none⟩) ps.length ch) := ((block_cells hbk).1 1).trans rfl
  have hbW := S.p.lt
  have hghW : gh < w.heap.size := World.block_lt_of_cell? w _ hpc
  have HPK : Hid (∀ w, Calls Tryz.prog 74 #[.int .i64 A, .int .i64 ps.length] w fun e w' => e = .returned (.int .i64 (i : Int)) ∧ w' = w) := fun w => by have := lpick_any A ps.length w ho.a0 ho.a1 (by omega) (by have := S.s.few; omega); rwa [hpk] at this
  obtain ⟨PT, PO, h1, h2, h3, h4⟩ := pair_objects S i hi DD hN
  have H1 : Hid (_) := h1
  have H2 : Hid (_) := h2
  have H3 : Hid (_) := h3
  have H4 : Hid (_) := h4
  clear h1 h2 h3 h4
  have hnh : ps.length ≤ 4 := S.s.few
  have p0 := DD.c0
  have p1 := DD.c1
  obtain ⟨pb, hpb⟩ : ∃ pb, pb = ps[i] := ⟨_, rfl⟩
  rw [← hpb] at p0 p1 hpc
  have hpbW : pb < w.heap.size := World.block_lt_of_cell? w _ p0
  obtain ⟨nh, hnl⟩ : ∃ nh, nh = ps.length := ⟨_, rfl⟩
  rw [← hnl] at hcb1 HPK hnh hp hi
  obtain ⟨hb, ehb⟩ : ∃ hb, hb = d.hb := ⟨_, rfl⟩
  obtain ⟨rb, erb⟩ : ∃ rb, rb = d.rb := ⟨_, rfl⟩
  rw [← ehb] at p0 H1
  rw [← erb] at p1 H2
  clear ehb erb hc1 hc0 DD S hbk hxh hpk hpb hnl
  have hj0 : (0 : Int) ≤ (i : Int) := by omega
  have hj1 : (i : Int) < (nh : Int) := by omega
  have hnz : ((nh : Int) == 0) = false := by simp; omega
  go_enter Tryz.func42, Tryz.ntmps42
  go_upto_region 7 with fail
  go_quiet (first | (go_at_call 74; exact Calls.quiet_of_same (HPK.out _)) | fail)
  have hob2 : ∃ W, W = (w.alloc (.cells #[.int .i64 13, .int .i64 A, .int .i64 D, .int .i64 C, .int .u64 V, .slice Wa Wl Wc] 91)).drewN nq := ⟨_, rfl⟩
  obtain ⟨W, hW⟩ := hob2
  have hWf : Fr New w W := by rw [hW]; exact ((Fr.refl New w).alloc _).drewN _
  have hbox : W.heap[w.heap.size]? = some (.cells #[.int .i64 13, .int .i64 A, .int .i64 D, .int .i64 C, .int .u64 V, .slice Wa Wl Wc] 91 (0, 0)) := by rw [hW]; exact Go.Deep.blk_alloc_new w _
  obtain ⟨hcx, hzx⟩ := block_cells hbox
  rw [← hW]
  have q0 := hWf.cell p0 id
  have q1 := hWf.cell p1 id
  have HWF : Hid (Fr New w W) := hWf
  clear hW hbox hWf p0 p1 hcb1 hpc HPK
  go_wp2_with (first
    | (go_at_call 45; refine (H1.out W HWF.out).mono ?_; rintro e w1 ⟨v, rfl, hT1, f1⟩; have y1 := f1.cell q1 id; have g1 : Fr New w w1 := HWF.out.same f1)
    | (go_at_call 81; refine (H2.out v w1 g1 hT1).mono ?_; rintro e w2 ⟨u, rfl, hO2, hT2, f2⟩; have g2 : Fr New w w2 := g1.same f2)
    | (go_at_call 82; refine (H3.out v u w2 hT2 hO2).mono ?_; rintro e w3 ⟨rfl, hT3, f3⟩; have g3 : Fr New w w3 := g2.same f3)
    | (go_at_call 83; refine (H4.out v w3 g3 hT3).mono ?_; rintro e w4 ⟨rfl, hB, hS⟩)
    | fail)
  go_ret
  exact ⟨rfl, hB, hS⟩

set_option maxHeartbeats 8000000 in
set_option maxRecDepth 1000000 in
theorem step_img (B b N : Nat) (A D C V : Int) (Wa : Option Addr) (Wl Wc : Nat) (zs : List Int) (w : World) {col : Nat → Nat} {X : Rest} {c : Nat} {vws : Value} {nw : Nat} {xs : List Value} {vb : Value} {es : List Entry} {ps : List Nat} {ss os : List EntE}
    (S : StaX col X B b c N vws nw xs vb es ps ss os w) (hp : 0 < ps.length) (ho : OpOkX A D C V zs) (hN : N ≤ 1073739000) :
    Calls Tryz.prog 42 #[.pointer (some ⟨b, 0, none⟩), opV 17 A D C V Wa Wl Wc] w fun e w' => e = .returned (.bool true) ∧ Below B w w' ∧ Sta B b (N + 200) w' := by
  obtain ⟨i, hi, hpk⟩ := pick_of A ps.length hp
  obtain ⟨gh, ch, hxh, hpc⟩ := S.s.pick hi
  obtain ⟨d, DD, hc1, hc0⟩ := S.s.du i hi
  have hbk : Wb w b vws (.slice (some ⟨gh, 0, none⟩) ps.length ch) c vb X.s X.o := hxh ▸ S.p.bk
  have hcb1 : w.cell? ⟨b, 1, none⟩ = some (.slice (some ⟨gh, 0, none⟩) ps.length ch) := ((block_cells hbk).1 1).trans rfl
  have hbW := S.p.lt
  have hghW : gh < w.heap.size := World.block_lt_of_cell? w _ hpc
  have HPK : Hid (∀ w, Calls Tryz.prog 74 #[.int .i64 A, .int .i64 ps.length] w fun e w' => e = .returned (.int .i64 (i : Int)) ∧ w' = w) := fun w => by have := lpick_any A ps.length w ho.a0 ho.a1 (by omega) (by have := S.s.few; omega); rwa [hpk] at this
  obtain ⟨n, PR, PC, hn, h1, h2, h3, h4, h5⟩ := pair_image S i hi DD (by omega)
  have H1 : Hid (_) := h1
  have H2 : Hid (_) := h2
  have H3 : Hid (_) := h3
  have H4 : Hid (_) := h4
  have H5 : Hid (_) := h5
  have hrbW : d.rb < w.heap.size := lt_of_block DD.rh.g.blk
  clear h1 h2 h3 h4 h5
  have hnh : ps.length ≤ 4 := S.s.few
  have p0 := DD.c0
  have p1 := DD.c1
  obtain ⟨pb, hpb⟩ : ∃ pb, pb = ps[i] := ⟨_, rfl⟩
  rw [← hpb] at p0 p1 hpc H3
  have hpbW : pb < w.heap.size := World.block_lt_of_cell? w _ p0
  obtain ⟨nh, hnl⟩ : ∃ nh, nh = ps.length := ⟨_, rfl⟩
  rw [← hnl] at hcb1 HPK hnh hp hi
  obtain ⟨hb, ehb⟩ : ∃ hb, hb = d.hb := ⟨_, rfl⟩
  obtain ⟨rb, erb⟩ : ∃ rb, rb = d.rb := ⟨_, rfl⟩
  rw [← ehb] at p0 H1
  rw [← erb] at p1 H3 H5 hrbW
  clear ehb erb hc1 hc0 DD S hbk hxh hpk hpb hnl
  have hj0 : (0 : Int) ≤ (i : Int) := by omega
  have hj1 : (i : Int) < (nh : Int) := by omega
  have hnz : ((nh : Int) == 0) = false := by simp; omega
  go_enter Tryz.func42, Tryz.ntmps42
  go_upto_region 7 with fail
  go_quiet (first | (go_at_call 74; exact Calls.quiet_of_same (HPK.out _)) | fail)
  have hob2 : ∃ W, W = (w.alloc (.cells #[.int .i64 17, .int .i64 A, .int .i64 D, .int .i64 C, .int .u64 V, .slice Wa Wl Wc] 91)).drewN nq := ⟨_, rfl⟩
  obtain ⟨W, hW⟩ := hob2
  have hWf : Fr New w W := by rw [hW]; exact ((Fr.refl New w).alloc _).drewN _
  have hbox : W.heap[w.heap.size]? = some (.cells #[.int .i64 17, .int .i64 A, .int .i64 D, .int .i64 C, .int .u64 V, .slice Wa Wl Wc] 91 (0, 0)) := by rw [hW]; exact Go.Deep.blk_alloc_new w _
  obtain ⟨hcx, hzx⟩ := block_cells hbox
  rw [← hW]
  have q0 := hWf.cell p0 id
  have q1 := hWf.cell p1 id
  have HWF : Hid (Fr New w W) := hWf
  clear hW hbox hWf p0 p1 hcb1 hpc HPK
  have r0 := H5.out W HWF.out
  go_wp2_with (first
    | (go_at_call 21; refine (H1.out W HWF.out).mono ?_; rintro e w1 ⟨rfl, hR1, f1⟩; have y1 := f1.cell q1 id; have g1 : Fr New w w1 := HWF.out.same f1; have z1 := H5.out w1 g1)
    | (go_at_call 87; refine (H2.out W.heap.size w1 g1 hR1).mono ?_; rintro e w2 ⟨rfl, hR2, f2⟩; have g2 : Fr New w w2 := g1.same f2)
    | (go_at_call 88; refine (H3.out W.heap.size w2 g2 HWF.out.size hR2).mono ?_; rintro e w3 ⟨rfl, hP3, y3, z3⟩)
    | (go_at_call 89; refine (H4.out w3 hP3).mono ?_; rintro e w4 ⟨rfl, hB, hS⟩)
    | fail)
  go_ret
  exact ⟨rfl, hB, hS⟩
end Go.Proofs.YtbagcjlimdilpaaGreat
/- The walk of the law's 'told'. -/
namespace Go.Proofs.YtbagcjlimdilpaaGreat
open Go.RowKit Go.Maps
attribute [local go_sem ↓] Go.wp_at_zero Go.wp_at_succ

section
variable {col : Nat → Nat} {X : Rest} {B b c N : Nat} {vws : Value} {nw : Nat} {xs : List Value} {vb : Value} {es : List Entry} {ps : List Nat} {ss os : List EntE} {w : World}
theorem pair_told (S : StaX col X B b c N vws nw xs vb es ps ss os w) (i : Nat) (hi : i < ps.length) {d : DV} (D : Duo d N ps[i] w) (hc1 : ∀ k, d.foot ps[i] k → col k = i + 1) (hc0 : ∀ k, d.kept k → col k = 0) (hN : N ≤ 1073739000) {W : World} (hW : Fr New w W) :
    ∃ P1 P2 P3 : World → Prop, Calls Tryz.prog 25 #[.pointer (some ⟨d.hb, 0, none⟩)] W (fun e w1 => e = .returned d.vs ∧ P1 w1 ∧ w1.cell? ⟨ps[i], 1, none⟩ = some (.pointer (some ⟨d.rb, 0, none⟩)) ∧ w1.cell? ⟨d.rb, 2, none⟩ = some d.vr) ∧
      (∀ w1, P1 w1 → Calls Tryz.prog 134 #[d.vs, d.vr] w1 fun e w2 => e = .returned (.bool true) ∧ P2 w2) ∧
      (∀ w2, P2 w2 → Calls Tryz.prog 135 #[.pointer (some ⟨b, 2, none⟩), d.vs] w2 fun e w3 => e = .returned (.tuple #[]) ∧ P3 w3) ∧
      (∀ w3, P3 w3 → w3.heap[ps[i]]? = some (.cells #[.pointer (some ⟨d.hb, 0, none⟩), .pointer (some ⟨d.rb, 0, none⟩), d.va, d.vl, d.vn] 136 (0, 0)) ∧ w3.heap[d.rb]? = some (.cells #[.slice (some ⟨d.gw, 0, none⟩) d.ws.length d.cw, .slice (some ⟨d.gn, 0, none⟩) d.ws.length d.cn, d.vr] 141 (0, 0)) ∧ w3.ownsRow 0 50 1 (.slice (some ⟨d.gw, 0, none⟩) d.ws.length d.cw) d.ws.length (d.ws.map (Value.int .u64)) ∧ ps[i] < w3.heap.size ∧ d.rb < w3.heap.size) ∧
      ∀ w3 w8 g7 c7, P3 w3 → Fr New (((w3.setCell ⟨ps[i], 2, none⟩ d.vn).setCell ⟨ps[i], 3, none⟩ d.vr).setCell ⟨d.rb, 2, none⟩ (.slice none 0 0)) w8 → w3.heap.size ≤ g7 → w8.ownsRow 0 50 1 (.slice (some ⟨g7, 0, none⟩) d.ws.length c7) d.ws.length (d.ws.map (Value.int .u64)) →
        Below B w (w8.setCell ⟨ps[i], 4, none⟩ (.slice (some ⟨g7, 0, none⟩) d.ws.length c7)) ∧ Sta B b (N + 200) (w8.setCell ⟨ps[i], 4, none⟩ (.slice (some ⟨g7, 0, none⟩) d.ws.length c7)) := by
  have DW := D.new hW
  have SW := S.new hW
  have hL : d.L = d.ws.length := D.lens.2.2
  have hcN := S.cN
  refine ⟨fun w1 => PH d.hb d.tb d.cb d.mb d.g (.slice none 0 0) d.ws d.now [] w1 ∧ Fr (fun k => k = d.tb) W w1 ∧ w1.ownsRow 0 122 3 d.vs d.st.length (stsCells d.st),
    fun w2 => ∃ w1, (PH d.hb d.tb d.cb d.mb d.g (.slice none 0 0) d.ws d.now [] w1 ∧ Fr (fun k => k = d.tb) W w1 ∧ w1.ownsRow 0 122 3 d.vs d.st.length (stsCells d.st)) ∧ Fr New w1 w2,
    fun w3 => ∃ w1 w2 vss' l1 l2 l3, PH d.hb d.tb d.cb d.mb d.g (.slice none 0 0) d.ws d.now [] w1 ∧ Fr (fun k => k = d.tb) W w1 ∧ Fr New w1 w2 ∧ Wb w3 b vws X.h (c + 1) vb vss' X.o ∧ w3.ownsRow B 149 5 vss' (ss.length + 1) (entCells ss ++ [d.vs, l1, l2, l3, .int .i64 (1000 + ((c + 1 : Nat) : Int))]) ∧ (∀ u ∈ [d.vs, l1, l2, l3], ∃ k, k ≤ d.st.length + 3 ∧ FullE 122 3 (mkS (1000 + ((c + 1 : Nat) : Int))) w3 u k) ∧ (∀ u ∈ [d.vs, l1, l2, l3], ∀ k, u.ownBlock = some k → w2.heap.size ≤ k ∨ d.vs.ownBlock = some k) ∧ Fr (TurnE b d.vs X.s) w2 w3, ?_, ?_, ?_, ?_, ?_⟩
  · refine (hstores_any d.hb d.tb d.cb d.mb d.g d.vs d.ws d.now d.st W DW.ph).mono ?_
    rintro e w1 ⟨rfl, h1, f1, o1, _⟩
    refine ⟨rfl, ⟨h1, f1, o1⟩, f1.cell DW.c1 (fun e => type_ne DW.blk DW.ph.tg.t.td (by decide) e), f1.cell (((block_cells DW.rh.g.blk).1 2).trans rfl) (fun e => type_ne DW.rh.g.blk DW.ph.tg.t.td (by decide) e)⟩
  · rintro w1 ⟨h1, f1, o1⟩
    have hr : w1.ownsRow 0 122 3 d.vr d.st.length (stsCells d.st) := f1.owns DW.rh.g.owns (fun k hk e => by obtain ⟨_, cc, hh⟩ := own_block DW.rh.g.owns hk; exact type_ne hh DW.ph.tg.t.td (by decide) e)
    refine (sameStores_true d.vs d.vr d.st 0 0 w1 (by have := D.big.1; omega) o1 hr).mono ?_
    rintro e w2 ⟨rfl, n, hn⟩
    exact ⟨rfl, w1, ⟨h1, f1, o1⟩, by rw [hn]; exact (Fr.refl _ _).drewN _⟩
  · rintro w2 ⟨w1, ⟨h1, f1, o1⟩, f2⟩
    have h12 : Fr (fun k => k = d.tb) W w2 := f1.same f2
    refine (stores_any b c vws X.h vb X.s X.o d.vs d.st B ss.length (entCells ss) w2 (h12.heap SW.p.bk (fun e => type_ne SW.p.bk DW.ph.tg.t.td (by decide) e)) (f2.owns o1 (fun _ _ h => h)) (h12.owns SW.s.rs (fun k hk e => by obtain ⟨_, cc, hh⟩ := own_block SW.s.rs hk; exact type_ne hh DW.ph.tg.t.td (by decide) e)) (Nat.le_trans SW.p.size h12.size) (by omega) (by have := S.s.ls; omega) (by have := D.big.1; omega)).mono ?_
    rintro e w3 ⟨rfl, vss', l1, l2, l3, q1, q2, q3, q4, q5⟩
    exact ⟨rfl, w1, w2, vss', l1, l2, l3, h1, f1, f2, q1, q2, q3, q4, q5⟩
  · rintro w3 ⟨w1, w2, vss', l1, l2, l3, h1, f1, f2, q1, q2, q3, q4, q5⟩
    have h12 : Fr (fun k => k = d.tb) W w2 := f1.same f2
    have P2 := h12.heap SW.p.bk (fun e => type_ne SW.p.bk DW.ph.tg.t.td (by decide) e)
    have hS2 : w2.ownsRow B 149 5 X.s ss.length (entCells ss) := h12.owns SW.s.rs (fun k hk e => by obtain ⟨_, cc, hh⟩ := own_block SW.s.rs hk; exact type_ne hh DW.ph.tg.t.td (by decide) e)
    have hvs2 : w2.ownsRow 0 122 3 d.vs d.st.length (stsCells d.st) := h12.owns DW.ph.tg.o (fun k hk e => by obtain ⟨_, cc, hh⟩ := own_block DW.ph.tg.o hk; exact type_ne hh DW.ph.tg.t.td (by decide) e)
    have kE : ∀ k cur t, t ≠ 88 → t ≠ 122 → t ≠ 149 → w2.heap[k]? = some (.cells cur t (0, 0)) → ¬ TurnE b d.vs X.s k := by
      rintro k cur t e1 e2 e3 hk (e | e | e)
      · exact type_ne hk P2 e1 e
      · obtain ⟨_, cc, hh⟩ := own_block hvs2 e; exact type_ne hk hh e2 rfl
      · obtain ⟨_, cc, hh⟩ := own_block hS2 e; exact type_ne hk hh e3 rfl
    have kT : ∀ (k : Nat) (cur : Array Value) (t : TypeId), t ≠ 108 → t ≠ 88 → t ≠ 122 → t ≠ 149 → W.heap[k]? = some (.cells cur t (0, 0)) → w3.heap[k]? = some (.cells cur t (0, 0)) := fun k cur t e0 e1 e2 e3 hk => by
      have h2 := h12.heap hk (fun e => type_ne hk DW.ph.tg.t.td e0 e)
      exact q5.heap h2 (kE _ _ _ e1 e2 e3 h2)
    have hpb := kT _ _ _ (by decide) (by decide) (by decide) (by decide) DW.blk
    have hrb := kT _ _ _ (by decide) (by decide) (by decide) (by decide) DW.rh.g.blk
    rw [hL] at hrb
    refine ⟨hpb, hrb, ?_, lt_of_block hpb, lt_of_block hrb⟩
    have ho := DW.rh.g.ownw
    rw [hL] at ho
    refine ⟨ho.1, ?_⟩
    rcases ho.2 with h | ⟨g, cap, cur, e, hb, hh, r⟩
    · exact .inl h
    · exact .inr ⟨g, cap, cur, e, hb, kT _ _ _ (by decide) (by decide) (by decide) (by decide) hh, r⟩
  · rintro w3 w8 g7 c7 ⟨w1, w2, vss', l1, l2, l3, h1, f1, f2, q1, q2, q3, q4, q5⟩ f8 hg7 o8
    exact told_end S i hi D hc1 hc0 (by omega) hW h1 f1 f2 q1 q2 q3 q4 q5 f8 hg7 o8

set_option maxHeartbeats 8000000 in
set_option maxRecDepth 1000000 in
theorem told_any (S : StaX col X B b c N vws nw xs vb es ps ss os w) (i : Nat) (hi : i < ps.length) {d : DV} (D : Duo d N ps[i] w) (hc1 : ∀ k, d.foot ps[i] k → col k = i + 1) (hc0 : ∀ k, d.kept k → col k = 0) (hN : N ≤ 1073739000) {W : World} (hW : Fr New w W) :
    Calls Tryz.prog 86 #[.pointer (some ⟨b, 0, none⟩), .pointer (some ⟨ps[i], 0, none⟩)] W fun e w' => e = .returned (.bool true) ∧ Below B w w' ∧ Sta B b (N + 200) w' := by
  obtain ⟨i0, hi0, hz0, hz1, hz2⟩ := info_parts Tryz.info50
  obtain ⟨P1, P2, P3, h1, h2, h3, h4, h5⟩ := pair_told S i hi D hc1 hc0 hN hW
  have DW := D.new hW
  have p0 := DW.c0
  have hbW : b < W.heap.size := (S.new hW).p.lt
  have hpbW : ps[i] < W.heap.size := lt_of_block DW.blk
  have hne : ps[i] ≠ d.rb := fun e => type_ne D.blk D.rh.g.blk (by decide) e
  have hlens := D.lens
  obtain ⟨avs, cvs, evs⟩ := own_slice D.ph.tg.o
  obtain ⟨avr, cvr, evr⟩ := own_slice D.rh.g.owns
  obtain ⟨ava, cva, eva⟩ := own_slice D.a
  obtain ⟨avl, cvl, evl⟩ := own_slice D.l
  obtain ⟨avn, cvn, evn⟩ := own_slice D.n
  rw [evs, evr] at h1
  rw [evs, evr] at h2
  rw [evs] at h3
  rw [eva, evl, evn, evr] at h4
  rw [evn, evr] at h5
  obtain ⟨ws, ews⟩ : ∃ ws, ws = d.ws := ⟨_, rfl⟩
  obtain ⟨n, hn⟩ : ∃ n, n = d.ws.length := ⟨_, rfl⟩
  rw [← hn] at h4 h5 hlens
  rw [← ews] at h4 h5 hn
  have H4 : Hid (_) := h4
  have H5 : Hid (_) := h5
  have H3 : Hid (_) := h3
  have H2 : Hid (_) := h2
  have H1 : Hid (_) := h1
  obtain ⟨pb, hpb⟩ : ∃ pb, pb = ps[i] := ⟨_, rfl⟩
  obtain ⟨rb, hrb⟩ : ∃ rb, rb = d.rb := ⟨_, rfl⟩
  obtain ⟨hb, ehb⟩ : ∃ hb, hb = d.hb := ⟨_, rfl⟩
  obtain ⟨gw, egw⟩ : ∃ gw, gw = d.gw := ⟨_, rfl⟩
  obtain ⟨gn, egn⟩ : ∃ gn, gn = d.gn := ⟨_, rfl⟩
  obtain ⟨cw, ecw⟩ : ∃ cw, cw = d.cw := ⟨_, rfl⟩
  obtain ⟨cn, ecn⟩ : ∃ cn, cn = d.cn := ⟨_, rfl⟩
  rw [← hpb] at p0 hpbW hne H1 H4 H5 ⊢
  rw [← hrb] at hne H1 H4 H5
  rw [← ehb] at p0 H1 H4
  rw [← egw, ← egn, ← ecw, ← ecn] at H4
  have HWL : Hid ((ws.map (Value.int .u64)).length = n) := by show _ = _; rw [List.length_map, hn]
  clear h1 h2 h3 h4 h5 evs evr eva evl evn ews hpb hrb ehb egw egn ecw ecn hn DW D S hc1 hc0 hW
  go_enter Tryz.func86, Tryz.ntmps86
  go_upto_region 4 with (first
    | (go_at_call 25; refine Calls.mono H1.out ?_; rintro e w1 ⟨rfl, hP1, y1, y2⟩)
    | (go_at_call 134; refine (H2.out w1 hP1).mono ?_; rintro e w2 ⟨rfl, hP2⟩)
    | (go_at_call 135; refine (H3.out w2 hP2).mono ?_; rintro e w3 ⟨rfl, hP3⟩; obtain ⟨k1, k2, k3, k4, k5⟩ := H4.out w3 hP3)
    | fail)
  obtain ⟨hc3, hz3⟩ := block_cells k1
  obtain ⟨hr3, hrz3⟩ := block_cells k2
  have hw6 : ∃ w6, w6 = ((w3.setCell ⟨pb, 2, none⟩ (.slice avn d.zn.length cvn)).setCell ⟨pb, 3, none⟩ (.slice avr d.st.length cvr)).setCell ⟨rb, 2, none⟩ (.slice none 0 0) := ⟨_, rfl⟩
  obtain ⟨w6, hw6⟩ := hw6
  have b4' := (heap_setCell_same w3 pb 2 _ _ (.slice avn d.zn.length cvn) k1).trans (show _ = some (.cells #[.pointer (some ⟨hb, 0, none⟩), .pointer (some ⟨rb, 0, none⟩), .slice avn d.zn.length cvn, .slice avl d.sl.length cvl, .slice avn d.zn.length cvn] 136 (0, 0)) by simp)
  have b5' := (heap_setCell_same _ pb 3 _ _ (.slice avr d.st.length cvr) b4').trans (show _ = some (.cells #[.pointer (some ⟨hb, 0, none⟩), .pointer (some ⟨rb, 0, none⟩), .slice avn d.zn.length cvn, .slice avr d.st.length cvr, .slice avn d.zn.length cvn] 136 (0, 0)) by simp)
  have f5 : Fr (fun k => k = pb) w3 ((w3.setCell ⟨pb, 2, none⟩ (.slice avn d.zn.length cvn)).setCell ⟨pb, 3, none⟩ (.slice avr d.st.length cvr)) := ((Fr.refl (fun k => k = pb) w3).setCell (p := ⟨pb, 2, none⟩) (fun _ => rfl) _).setCell (p := ⟨pb, 3, none⟩) (fun _ => rfl) _
  have r5' := f5.heap k2 (Ne.symm hne)
  have f6 : Fr (fun k => k = pb ∨ k = rb) w3 w6 := by rw [hw6]; exact (f5.mono (fun _ _ e => .inl e)).trans ((Fr.refl (fun k => k = rb) _).setCell (p := ⟨rb, 2, none⟩) (fun _ => rfl) _) (fun _ _ e => .inr e)
  have b6 : w6.heap[pb]? = some (.cells #[.pointer (some ⟨hb, 0, none⟩), .pointer (some ⟨rb, 0, none⟩), .slice avn d.zn.length cvn, .slice avr d.st.length cvr, .slice avn d.zn.length cvn] 136 (0, 0)) := by
    rw [hw6]
    exact ((Fr.refl (fun k => k = rb) _).setCell (p := ⟨rb, 2, none⟩) (fun _ => rfl) _).heap b5' hne
  have r6 : w6.heap[rb]? = some (.cells #[.slice (some ⟨gw, 0, none⟩) n cw, .slice (some ⟨gn, 0, none⟩) n cn, .slice none 0 0] 141 (0, 0)) := by
    rw [hw6]
    exact (heap_setCell_same _ rb 2 _ _ _ r5').trans (by simp)
  have o6 : w6.ownsRow 0 50 1 (.slice (some ⟨gw, 0, none⟩) n cw) n (ws.map (Value.int .u64)) := f6.owns k3 (fun k hk e => by
    obtain ⟨_, cc, hh⟩ := own_block k3 hk
    rcases e with e | e
    · exact type_ne hh k1 (by decide) e
    · exact type_ne hh k2 (by decide) e)
  have hs36 : w6.heap.size = w3.heap.size := by rw [hw6]; simp
  have HNW : Hid (∀ j u, (ws.map (Value.int .u64))[j]? = some u → (w6.alloc (.cells #[] 50)).cell? ((⟨gw, 0, none⟩ : Addr).add j) = some u) := fun j u hj => (((Fr.refl New w6).alloc _).owns o6 (fun _ _ h => h)).cells rfl j u hj
  have H6 : Hid (∀ w8 g7 c7, Fr New w6 w8 → w6.heap.size ≤ g7 → w8.ownsRow 0 50 1 (.slice (some ⟨g7, 0, none⟩) n c7) n (ws.map (Value.int .u64)) → Below B w (w8.setCell ⟨pb, 4, none⟩ (.slice (some ⟨g7, 0, none⟩) n c7)) ∧ Sta B b (N + 200) (w8.setCell ⟨pb, 4, none⟩ (.slice (some ⟨g7, 0, none⟩) n c7))) := fun w8 g7 c7 f8 hg ho => H5.out w3 w8 g7 c7 hP3 (by rw [← hw6]; exact f8) (by omega) ho
  clear b4' b5' f5 r5' f6 o6 H1 H2 H3 H4 H5 k1 k2 k3
  go_upto_region 7 with fail
  rw [← hw6]
  obtain ⟨hc6, hz6⟩ := block_cells b6
  obtain ⟨hr6, hrz6⟩ := block_cells r6
  have hpb6 : pb < w6.heap.size := lt_of_block b6
  have hrb6 : rb < w6.heap.size := lt_of_block r6
  clear hw6 hc3 hz3 hr3 hrz3 hs36 hP3
  go_wp2_with (first
    | (at_builtin; refine wpList_append_own_at _ rfl (.tmp 50) (.tmp 57) 43 rfl w6.heap.size 50 i0 (.int .u64 0) 1 8 Tryz.underlying43 hi0 hz0 hz1 hz2 rfl (by decide) _ _ _ rfl (emptyU w6) ⟨gw, 0, none⟩ n cw (ws.map (Value.int .u64)) rfl (by rw [HWL.out, Nat.mul_one]) HNW.out (ints_oneU _) (by unfold maxLen; omega) (by omega) (by simp) ?_; intro v4 w8 ho8 hg8 _ _; rw [Nat.zero_add, List.nil_append] at ho8; have f8 : Fr New w6 w8 := ((Fr.refl New w6).alloc _).grown hg8 (fun k hk e => by have : w6.heap.size = k := Option.some.inj e; omega); obtain ⟨g7, c7, rfl, _, _⟩ := ho8.form (by omega); have b8 := f8.heap b6 id; obtain ⟨hc8, hz8⟩ := block_cells b8; have hpb8 : pb < w8.heap.size := lt_of_block b8; have hgg := (own_block ho8 (g := g7) rfl).1; have hE := H6.out w8 g7 c7 f8 hgg (own_of ho8); clear ho8 hg8 b8)
    | fail)
  go_ret
  exact ⟨rfl, hE⟩
end
end Go.Proofs.YtbagcjlimdilpaaGreat
/- The law's 'step' for Stores and Crash. -/
namespace Go.Proofs.YtbagcjlimdilpaaGreat
open Go.RowKit Go.Maps
attribute [local go_sem ↓] Go.wp_at_zero Go.wp_at_succ

set_option maxHeartbeats 8000000 in
set_option maxRecDepth 1000000 in
theorem step_stores (B b N : Nat) (A D C V : Int) (Wa : Option Addr) (Wl Wc : Nat) (zs : List Int) (w : World) {col : Nat → Nat} {X : Rest} {c : Nat} {vws : Value} {nw : Nat} {xs : List Value} {vb : Value} {es : List Entry} {ps : List Nat} {ss os : List EntE}
    (S : StaX col X B b c N vws nw xs vb es ps ss os w) (hp : 0 < ps.length) (ho : OpOkX A D C V zs) (hN : N ≤ 1073739000) :
    Calls Tryz.prog 42 #[.pointer (some ⟨b, 0, none⟩), opV 16 A D C V Wa Wl Wc] w fun e w' => e = .returned (.bool true) ∧ Below B w w' ∧ Sta B b (N + 200) w' := by
  obtain ⟨i, hi, hpk⟩ := pick_of A ps.length hp
  obtain ⟨gh, ch, hxh, hpc⟩ := S.s.pick hi
  obtain ⟨d, DD, hc1, hc0⟩ := S.s.du i hi
  have hbk : Wb w b vws (.slice (some ⟨gh, 0, none⟩) ps.length ch) c vb X.s X.o := hxh ▸ S.p.bk
  have hcb1 : w.cell? ⟨b, 1, none⟩ = some (.slice (some ⟨gh, 0, none⟩) ps.length ch) := ((block_cells hbk).1 1).trans rfl
  have hbW := S.p.lt
  have hghW : gh < w.heap.size := World.block_lt_of_cell? w _ hpc
  have HPK : Hid (∀ w, Calls Tryz.prog 74 #[.int .i64 A, .int .i64 ps.length] w fun e w' => e = .returned (.int .i64 (i : Int)) ∧ w' = w) := fun w => by have := lpick_any A ps.length w ho.a0 ho.a1 (by omega) (by have := S.s.few; omega); rwa [hpk] at this
  have H1 : Hid (∀ W, Fr New w W → Calls Tryz.prog 86 #[.pointer (some ⟨b, 0, none⟩), .pointer (some ⟨ps[i], 0, none⟩)] W fun e w' => e = .returned (.bool true) ∧ Below B w w' ∧ Sta B b (N + 200) w') := fun W hW => told_any S i hi DD hc1 hc0 hN hW
  have hnh : ps.length ≤ 4 := S.s.few
  have p0 := DD.c0
  have p1 := DD.c1
  obtain ⟨pb, hpb⟩ : ∃ pb, pb = ps[i] := ⟨_, rfl⟩
  rw [← hpb] at p0 p1 hpc H1
  have hpbW : pb < w.heap.size := World.block_lt_of_cell? w _ p0
  obtain ⟨nh, hnl⟩ : ∃ nh, nh = ps.length := ⟨_, rfl⟩
  rw [← hnl] at hcb1 HPK hnh hp hi
  obtain ⟨hb, ehb⟩ : ∃ hb, hb = d.hb := ⟨_, rfl⟩
  obtain ⟨rb, erb⟩ : ∃ rb, rb = d.rb := ⟨_, rfl⟩
  rw [← ehb] at p0
  rw [← erb] at p1
  clear ehb erb hc1 hc0 DD S hbk hxh hpk hpb hnl
  have hj0 : (0 : Int) ≤ (i : Int) := by omega
  have hj1 : (i : Int) < (nh : Int) := by omega
  have hnz : ((nh : Int) == 0) = false := by simp; omega
  go_enter Tryz.func42, Tryz.ntmps42
  go_upto_region 7 with fail
  go_quiet (first | (go_at_call 74; exact Calls.quiet_of_same (HPK.out _)) | fail)
  have hob2 : ∃ W, W = (w.alloc (.cells #[.int .i64 16, .int .i64 A, .int .i64 D, .int .i64 C, .int .u64 V, .slice Wa Wl Wc] 91)).drewN nq := ⟨_, rfl⟩
  obtain ⟨W, hW⟩ := hob2
  have hWf : Fr New w W := by rw [hW]; exact ((Fr.refl New w).alloc _).drewN _
  have hbox : W.heap[w.heap.size]? = some (.cells #[.int .i64 16, .int .i64 A, .int .i64 D, .int .i64 C, .int .u64 V, .slice Wa Wl Wc] 91 (0, 0)) := by rw [hW]; exact Go.Deep.blk_alloc_new w _
  obtain ⟨hcx, hzx⟩ := block_cells hbox
  rw [← hW]
  have q0 := hWf.cell p0 id
  have q1 := hWf.cell p1 id
  have HWF : Hid (Fr New w W) := hWf
  clear hW hbox hWf p0 p1 hcb1 hpc HPK
  go_wp2_with (first
    | (go_at_call 86; refine (H1.out W HWF.out).mono ?_; rintro e w1 ⟨rfl, hB, hS⟩)
    | fail)
  go_ret
  exact ⟨rfl, hB, hS⟩

section
variable {col : Nat → Nat} {X : Rest} {B b c N : Nat} {vws : Value} {nw : Nat} {xs : List Value} {vb : Value} {es : List Entry} {ps : List Nat} {ss os : List EntE} {w : World}
/-- what a crash leaves becomes an image -/
theorem pair_crash (S : StaX col X B b c N vws nw xs vb es ps ss os w) (i : Nat) (hi : i < ps.length) {d : DV} (D : Duo d N ps[i] w) (hN : N ≤ 1073739000) (hsl : d.sl ≠ []) :
    ∃ ga ca gl cl n m, d.va = .slice (some ⟨ga, 0, none⟩) n ca ∧ d.vl = .slice (some ⟨gl, 0, none⟩) m cl ∧ 0 < m ∧ m ≤ 1073739000 ∧ n ≤ 362 ∧
      ∀ (nn : Nat) (V : Int) (tn : Nat), nn ≤ m → tn < 64 → U V → ∃ PI : Nat → Nat → World → Prop, (∀ W, Fr New w W → Calls Tryz.prog 90 #[.slice (some ⟨ga, 0, none⟩) n ca, .slice (some ⟨gl, 0, none⟩) m cl, .int .i64 (nn : Int), .int .u64 V, .int .i64 (tn : Int)] W fun e w1 => ∃ g7 c7, e = .returned (.slice (some ⟨g7, 0, none⟩) n c7) ∧ PI g7 c7 w1 ∧ Fr New W w1) ∧
        ∀ g7 c7 w1, Fr New w w1 → PI g7 c7 w1 → Calls Tryz.prog 89 #[.pointer (some ⟨b, 0, none⟩), .slice (some ⟨g7, 0, none⟩) n c7] w1 fun e w2 => e = .returned (.tuple #[]) ∧ (Below B w w2 ∧ Sta B b (N + 200) w2) ∧ Fr (TurnedI b vws) w1 w2 := by
  have hla := D.la hsl
  have hlens := D.lens
  have hm0 : 0 < d.sl.length := by cases h : d.sl with | nil => exact absurd h hsl | cons a r => simp
  obtain ⟨ga, ca, ea, _, _⟩ := D.a.form (show 0 < d.za.length by omega)
  obtain ⟨gl, cl, el, _, _⟩ := D.l.form hm0
  refine ⟨ga, ca, gl, cl, d.za.length, d.sl.length, ea, el, hm0, by have := D.big.2; omega, by omega, fun nn V tn hnn htn hV => ⟨fun g7 c7 w1 => Own 0 w1 (.slice (some ⟨g7, 0, none⟩) d.za.length c7) (leftW d.za d.sl (lastF d.sl nn) (bitP V tn) nn), fun W hW => ?_, fun g7 c7 w1 hf hP => ?_⟩⟩
  · have DW := D.new hW
    have ha := DW.a
    rw [ea] at ha
    have hl := DW.l
    rw [el] at hl
    refine (crashed_any ga ca d.za (.slice (some ⟨gl, 0, none⟩) d.sl.length cl) d.sl 0 nn V tn htn W (rowU_own ha) (by omega) (by omega) hl hnn (by have := D.big.2; omega) (by rw [hla]; exact D.us)).mono ?_
    rintro e w1 ⟨v, rfl, ho, hf⟩
    have hlen : (leftW d.za d.sl (lastF d.sl nn) (bitP V tn) nn).length = d.za.length := leftW_len ..
    obtain ⟨g7, c7, rfl, _, _⟩ := ho.form (by omega)
    have ho0 : Own 0 w1 (.slice (some ⟨g7, 0, none⟩) (leftW d.za d.sl (lastF d.sl nn) (bitP V tn) nn).length c7) (leftW d.za d.sl (lastF d.sl nn) (bitP V tn) nn) := own_base ho
    rw [hlen] at ho0 ⊢
    exact ⟨g7, c7, rfl, ho0, hf⟩
  · have hlen : (leftW d.za d.sl (lastF d.sl nn) (bitP V tn) nn).length = d.za.length := leftW_len ..
    have S1 := S.new hf
    refine (image2_partsX S1.p S1.i ⟨g7, 0, none⟩ _ d.za.length c7 hlen (by omega) (leftW_U D.ua (fun s hs => (D.us s hs).2) nn hnn) (rowU_own (by have h0 := hP; unfold Own at h0; rw [hlen] at h0; exact h0))).mono ?_
    rintro e w2 ⟨rfl, I6, h6⟩
    have hst : Stay B w1 w2 := S1.p.stay (h6.mono (fun k _ ht => by rcases ht with h | h; exact .inl h; exact .inr (.inl h)))
    exact ⟨rfl, ⟨(S.below hf).trans hst.b, S1.five hst I6 (Nat.le_refl _) (by have := S.cN; omega)⟩, h6⟩
end

set_option maxHeartbeats 8000000 in
set_option maxRecDepth 1000000 in
theorem step_crash (B b N : Nat) (A D C V : Int) (Wa : Option Addr) (Wl Wc : Nat) (zs : List Int) (w : World) {col : Nat → Nat} {X : Rest} {c : Nat} {vws : Value} {nw : Nat} {xs : List Value} {vb : Value} {es : List Entry} {ps : List Nat} {ss os : List EntE}
    (S : StaX col X B b c N vws nw xs vb es ps ss os w) (hp : 0 < ps.length) (ho : OpOkX A D C V zs) (hN : N ≤ 1073739000) :
    Calls Tryz.prog 42 #[.pointer (some ⟨b, 0, none⟩), opV 18 A D C V Wa Wl Wc] w fun e w' => e = .returned (.bool true) ∧ Below B w w' ∧ Sta B b (N + 200) w' := by
  obtain ⟨i, hi, hpk⟩ := pick_of A ps.length hp
  have hi0 := hi
  obtain ⟨gh, ch, hxh, hpc⟩ := S.s.pick hi
  obtain ⟨d, DD, hc1, hc0⟩ := S.s.du i hi
  have hbk : Wb w b vws (.slice (some ⟨gh, 0, none⟩) ps.length ch) c vb X.s X.o := hxh ▸ S.p.bk
  have hcb1 : w.cell? ⟨b, 1, none⟩ = some (.slice (some ⟨gh, 0, none⟩) ps.length ch) := ((block_cells hbk).1 1).trans rfl
  have hbW := S.p.lt
  have hghW : gh < w.heap.size := World.block_lt_of_cell? w _ hpc
  have HPK : Hid (∀ w, Calls Tryz.prog 74 #[.int .i64 A, .int .i64 ps.length] w fun e w' => e = .returned (.int .i64 (i : Int)) ∧ w' = w) := fun w => by have := lpick_any A ps.length w ho.a0 ho.a1 (by omega) (by have := S.s.few; omega); rwa [hpk] at this
  have hV := ho.v
  have hD0 := ho.d0
  have hD1 := ho.d1
  have hC0 := ho.c0
  have hC1 := ho.c1
  have HSM : Hid (∀ W, Fr New w W → Below B w W ∧ Sta B b (N + 200) W) := fun W hW => S.same hW
  obtain ⟨alv, clv, elv⟩ := own_slice DD.l
  have p3 := DD.c3
  have p2 := DD.c2
  have hnh : ps.length ≤ 4 := S.s.few
  have p0 := DD.c0
  have p1 := DD.c1
  obtain ⟨pb, hpb⟩ : ∃ pb, pb = ps[i] := ⟨_, rfl⟩
  rw [← hpb] at p0 p1 hpc p2 p3
  have hpbW : pb < w.heap.size := World.block_lt_of_cell? w _ p0
  obtain ⟨nh, hnl⟩ : ∃ nh, nh = ps.length := ⟨_, rfl⟩
  rw [← hnl] at hcb1 HPK hnh hp hi
  obtain ⟨hb, ehb⟩ : ∃ hb, hb = d.hb := ⟨_, rfl⟩
  obtain ⟨rb, erb⟩ : ∃ rb, rb = d.rb := ⟨_, rfl⟩
  rw [← ehb] at p0
  rw [← erb] at p1
  by_cases hsl : d.sl = []
  · rw [elv, hsl, List.length_nil] at p3
    clear ehb erb hc1 hc0 DD S hbk hxh hpk hpb hnl elv p0 p1 p2
    have hj0 : (0 : Int) ≤ (i : Int) := by omega
    have hj1 : (i : Int) < (nh : Int) := by omega
    have hnz : ((nh : Int) == 0) = false := by simp; omega
    go_enter Tryz.func42, Tryz.ntmps42
    go_upto_region 7 with fail
    go_quiet (first | (go_at_call 74; exact Calls.quiet_of_same (HPK.out _)) | fail)
    go_wp2
    go_ret
    exact ⟨rfl, HSM.out _ (((Fr.refl New w).alloc _).drewN _)⟩
  obtain ⟨ga, ca, gl, cl, n, m, ea, el, hm0, hm1, hn1, hcr⟩ := pair_crash S i hi0 DD hN hsl
  obtain ⟨nn, hnn, hpn⟩ := pick_of D (m + 1) (by omega)
  obtain ⟨tn, htn, hpt⟩ := pick_of C 64 (by omega)
  obtain ⟨PI, hc, him⟩ := hcr nn V tn (by omega) htn hV
  have HPB : Hid (∀ w, Calls Tryz.prog 74 #[.int .i64 D, .int .i64 ((m : Int) + 1)] w fun e w' => e = .returned (.int .i64 (nn : Int)) ∧ w' = w) := fun w => by have := lpick_any D ((m : Int) + 1) w hD0 hD1 (by omega) (by omega); rwa [show pickI D ((m : Int) + 1) = (nn : Int) by rw [← hpn]; push_cast; rfl] at this
  have HPC : Hid (∀ w, Calls Tryz.prog 74 #[.int .i64 C, .int .i64 64] w fun e w' => e = .returned (.int .i64 (tn : Int)) ∧ w' = w) := fun w => by have := lpick_any C 64 w hC0 hC1 (by omega) (by omega); rwa [show pickI C 64 = (tn : Int) from hpt] at this
  have HC : Hid (_) := hc
  have HI : Hid (_) := him
  have HNP : Hid (∀ (w1 w2 : World) (a : Addr) (v : Value), Fr New w w1 → Fr (TurnedI b vws) w1 w2 → (a.block = pb ∨ a.block = w.heap.size) → w1.cell? a = some v → w2.cell? a = some v) := fun w1 w2 a v hf h6 ha hv => h6.cell hv (fun ht => by
    rcases ha with e | e
    · have hb1 : ¬ TurnedI b vws pb := fun ht => by
        have := S.p.lty pb (by rcases ht with h | h; exact .inl h; exact .inr (.inl h))
        rw [hpb] at this
        exact L3.not DD.blk (by unfold L3y; decide) this
      exact hb1 (e ▸ ht)
    · rcases ht with h | h
      · have := S.p.lt; omega
      · have := (S.p.ws.lt _ h).2; omega)
  have HDZ : decide ((0 : Int) < (m : Int)) = true := by simpa using hm0
  have hwm : IntKind.i64.wrap ((m : Int) + 1) = (m : Int) + 1 := by rw [IntKind.wrap_i64]; omega
  rw [ea] at p2
  rw [el] at p3
  clear ehb erb hc1 hc0 DD S hbk hxh hpk hpb hnl elv hc him hcr hpn hpt hsl ea el
  have hj0 : (0 : Int) ≤ (i : Int) := by omega
  have hj1 : (i : Int) < (nh : Int) := by omega
  have hnz : ((nh : Int) == 0) = false := by simp; omega
  go_enter Tryz.func42, Tryz.ntmps42
  go_upto_region 7 with fail
  go_quiet (first | (go_at_call 74; exact Calls.quiet_of_same (HPK.out _)) | fail)
  have hob2 : ∃ W, W = (w.alloc (.cells #[.int .i64 18, .int .i64 A, .int .i64 D, .int .i64 C, .int .u64 V, .slice Wa Wl Wc] 91)).drewN nq := ⟨_, rfl⟩
  obtain ⟨W, hW⟩ := hob2
  have hWf : Fr New w W := by rw [hW]; exact ((Fr.refl New w).alloc _).drewN _
  have hbox : W.heap[w.heap.size]? = some (.cells #[.int .i64 18, .int .i64 A, .int .i64 D, .int .i64 C, .int .u64 V, .slice Wa Wl Wc] 91 (0, 0)) := by rw [hW]; exact Go.Deep.blk_alloc_new w _
  obtain ⟨hcx, hzx⟩ := block_cells hbox
  rw [← hW]
  have q0 := hWf.cell p0 id
  have q1 := hWf.cell p1 id
  have q2 := hWf.cell p2 id
  have q3 := hWf.cell p3 id
  have x2 : W.cell? ⟨w.heap.size, 2, none⟩ = some (.int .i64 D) := ((block_cells hbox).1 2).trans rfl
  have x3 : W.cell? ⟨w.heap.size, 3, none⟩ = some (.int .i64 C) := ((block_cells hbox).1 3).trans rfl
  have x4 : W.cell? ⟨w.heap.size, 4, none⟩ = some (.int .u64 V) := ((block_cells hbox).1 4).trans rfl
  have HWF : Hid (Fr New w W) := hWf
  clear hW hbox hWf p0 p1 p2 p3 hcb1 hpc HPK
  go_upto_region 56 with fail
  have hobs : ∃ ob, ob = w.heap.size := ⟨_, rfl⟩
  obtain ⟨ob, hob⟩ := hobs
  rw [← hob] at x2 x3 x4 HNP
  rw [← hob]
  have hobW : ob < W.heap.size := World.block_lt_of_cell? W _ x2
  have hpbW2 : pb < W.heap.size := World.block_lt_of_cell? W _ q2
  clear hob hcx hzx q0 q1
  go_region_held3 (fun w' => w'.cell? ⟨pb, 2, none⟩ = some (.slice (some ⟨ga, 0, none⟩) n ca) ∧ w'.cell? ⟨pb, 3, none⟩ = some (.slice (some ⟨gl, 0, none⟩) m cl) ∧ w'.cell? ⟨ob, 2, none⟩ = some (.int .i64 D) ∧ w'.cell? ⟨ob, 3, none⟩ = some (.int .i64 C) ∧ w'.cell? ⟨ob, 4, none⟩ = some (.int .u64 V)) (first | go_keep | with_reducible exact hkeep2 | with_reducible exact hkeep1)
    (first
      | (go_at_call_of 74 (Value.int .i64 64); refine calls_same (HPC.out _) ?_)
      | (go_at_call 74; refine calls_same (HPB.out _) ?_)
      | (go_at_call 90; refine (HC.out _ (by first | with_reducible exact HWF.out | with_reducible exact HWF.out.drew)).mono ?_; rintro e w1 ⟨g7, c7, rfl, hP1, f1⟩; have f1' : Fr New W w1 := (by first | with_reducible exact f1 | with_reducible exact f1.undrew); have hg1 : Fr New w w1 := HWF.out.same f1'; have hkeep1 : w1.cell? ⟨pb, 2, none⟩ = some (.slice (some ⟨ga, 0, none⟩) n ca) ∧ w1.cell? ⟨pb, 3, none⟩ = some (.slice (some ⟨gl, 0, none⟩) m cl) ∧ w1.cell? ⟨ob, 2, none⟩ = some (.int .i64 D) ∧ w1.cell? ⟨ob, 3, none⟩ = some (.int .i64 C) ∧ w1.cell? ⟨ob, 4, none⟩ = some (.int .u64 V) := ⟨f1'.cell q2 id, f1'.cell q3 id, f1'.cell x2 id, f1'.cell x3 id, f1'.cell x4 id⟩)
      | (go_at_call 89; refine (HI.out g7 c7 w1 hg1 hP1).mono ?_; rintro e w2 ⟨rfl, hBS, f2⟩; have hkeep2 : w2.cell? ⟨pb, 2, none⟩ = some (.slice (some ⟨ga, 0, none⟩) n ca) ∧ w2.cell? ⟨pb, 3, none⟩ = some (.slice (some ⟨gl, 0, none⟩) m cl) ∧ w2.cell? ⟨ob, 2, none⟩ = some (.int .i64 D) ∧ w2.cell? ⟨ob, 3, none⟩ = some (.int .i64 C) ∧ w2.cell? ⟨ob, 4, none⟩ = some (.int .u64 V) := ⟨HNP.out w1 w2 _ _ hg1 f2 (.inl rfl) hkeep1.1, HNP.out w1 w2 _ _ hg1 f2 (.inl rfl) hkeep1.2.1, HNP.out w1 w2 _ _ hg1 f2 (.inr rfl) hkeep1.2.2.1, HNP.out w1 w2 _ _ hg1 f2 (.inr rfl) hkeep1.2.2.2.1, HNP.out w1 w2 _ _ hg1 f2 (.inr rfl) hkeep1.2.2.2.2⟩)
      | fail)
  all_goals
    go_wp2
    go_ret
    exact ⟨rfl, hBS⟩
end Go.Proofs.YtbagcjlimdilpaaGreat
/- The walk of the law's 'plain' for Open. -/
namespace Go.Proofs.YtbagcjlimdilpaaGreat
open Go.RowKit Go.Maps
attribute [local go_sem ↓] Go.wp_at_zero Go.wp_at_succ

set_option maxHeartbeats 8000000 in
set_option maxRecDepth 1000000 in
theorem plain_open (B b N : Nat) (A D C V : Int) (Wa : Option Addr) (Wl Wc : Nat) (w : World) {col : Nat → Nat} {X : Rest} {c : Nat} {vws : Value} {nw : Nat} {xs : List Value} {vb : Value} {es : List Entry} {ps : List Nat} {ss os : List EntE}
    (S : StaX col X B b c N vws nw xs vb es ps ss os w) (hn : 0 < nw) (hA0 : -9223372036854775808 ≤ A) (hA1 : A ≤ 9223372036854775807) :
    Calls Tryz.prog 73 #[.pointer (some ⟨b, 0, none⟩), opV 6 A D C V Wa Wl Wc] w fun e w' => e = .returned (.bool true) ∧ Below B w w' ∧ Sta B b (N + 200) w' := by
  have HSM : Hid (∀ W, Fr New w W → Below B w W ∧ Sta B b (N + 200) W) := fun W hW => S.same hW
  have hn12 := S.p.few
  have hp0 := pickI_nonneg A nw (by omega)
  have hp1 := pickI_lt A nw (by omega)
  have HPK : Hid (∀ w, Calls Tryz.prog 74 #[.int .i64 A, .int .i64 nw] w fun e w' => e = .returned (.int .i64 (pickI A nw)) ∧ w' = w) := fun w => lpick_any A nw w hA0 hA1 (by omega) (by omega)
  obtain ⟨j, hj⟩ := Int.eq_ofNat_of_zero_le hp0
  rw [hj] at hp1 HPK
  have hjn : j < nw := by omega
  obtain ⟨gw, cw, av, cv, zs, hvw, hcj, hrz, hcz, hz1, hzU⟩ := S.p.pick S.i hn j hjn
  obtain ⟨hcb, hzb⟩ := block_cells S.p.bk
  have hbW := S.p.lt
  have hcb0 : w.cell? ⟨b, 0, none⟩ = some (.slice (some ⟨gw, 0, none⟩) nw cw) := hvw ▸ (hcb 0).trans rfl
  have HRZ : Hid (∀ w', Fr New w w' → RowU w' av zs) := fun w' hf => rowU_fr hf hrz (fun _ _ h => h)
  have HLN : Hid (∀ w', Fr New w w' → Calls Tryz.prog 120 #[.slice av zs.length cv] w' fun e w'' => e = .returned (.slice (some ⟨w'.heap.size, 0, none⟩) (zs.length + 8) (zs.length + 8)) ∧ Row w'' w'.heap.size (withEight zs) ∧ Fr New w' w'') := fun w' hf => lent_any av cv zs w' (by omega) (HRZ.out w' hf)
  have HOP : Hid (∀ g w', Row w' g (withEight zs) → Calls Tryz.prog 20 #[.slice (some ⟨g, 0, none⟩) zs.length (zs.length + 8)] w' fun e w'' => ∃ v c, e = .returned (.tuple #[v, .int .i64 c]) ∧ OpenTo zs w' v c w'' ∧ Fr New w' w'') := fun g w' hr => popen_any _ _ zs w' (by omega) hzU (eight_row hr)
  have HRO : Hid (∀ w', Fr New w w' → Calls Tryz.prog 125 #[.slice av zs.length cv] w' fun e w'' => Fr New w' w'' ∧ ((∃ c, e = .returned (.tuple #[.pointer none, .int .i64 c]) ∧ OpenErr zs c) ∨ (OpenOk zs ∧ ∃ hb gw cw gn cn vs, e = .returned (.tuple #[.pointer (some ⟨hb, 0, none⟩), .int .i64 0]) ∧ RHG hb gw cw zs.length (.slice (some ⟨gn, 0, none⟩) zs.length cn) vs (openW zs) (openSt zs) w'' ∧ w''.ownsRow 0 50 1 (.slice (some ⟨gn, 0, none⟩) zs.length cn) zs.length ((openW zs).map (Value.int .u64)) ∧ gw ≠ gn ∧ w'.heap.size ≤ hb ∧ w'.heap.size ≤ gw ∧ w'.heap.size ≤ gn ∧ ∀ k, vs.ownBlock = some k → w'.heap.size ≤ k))) := fun w' hf => open_doc av cv zs w' (by omega) hzU (HRZ.out w' hf)
  have HBK : Hid (∀ g w', Row w' g (withEight zs) → Fr New w w' → Calls Tryz.prog 122 #[.slice (some ⟨g, 0, none⟩) (zs.length + 8) (zs.length + 8), .slice av zs.length cv] w' fun e w'' => e = .returned (.bool true) ∧ Fr (fun k => k = g) w' w'') := fun g w' hr hf => back_true g av cv zs w' (by omega) hr (HRZ.out w' hf)
  have hnz : ((nw : Int) == 0) = false := by simp; omega
  have hj0 : (0 : Int) ≤ (j : Int) := by omega
  have hj1 : (j : Int) < (nw : Int) := by omega
  have hgw : gw < w.heap.size := World.block_lt_of_cell? w _ hcj
  obtain ⟨n, hnl⟩ : ∃ n, n = zs.length := ⟨_, rfl⟩
  rw [← hnl] at hcj HLN HBK HOP HRO hcz hz1
  have HNL : Hid (n = zs.length) := hnl
  have HZU : Hid (∀ z ∈ zs, U z) := hzU
  clear hzU hp0 hj hnl
  by_cases hok : OpenOk zs
  · have hlz : 114 ≤ zs.length := by have := nblk_some hok.1; omega
    obtain ⟨ad, hav⟩ : ∃ ad, av = some ad := by obtain ⟨ad, had, _⟩ := hrz 0 (by omega); exact ⟨ad, had⟩
    subst hav
    obtain ⟨ah, ch, hxh⟩ := own_slice S.s.hs
    have hHS : w.ownsRow B 133 1 (.slice ah ps.length ch) ps.length (ptrs ps) := hxh ▸ S.s.hs
    have hBK : Wb w b vws (.slice ah ps.length ch) c vb X.s X.o := hxh ▸ S.p.bk
    have hB0 : B ≤ w.heap.size := S.p.size
    have HOK : Hid (∀ g w', Row w' g (withEight zs) → Calls Tryz.prog 20 #[.slice (some ⟨g, 0, none⟩) n (n + 8)] w' fun e w'' => ∃ hb, e = .returned (.tuple #[.pointer (some ⟨hb, 0, none⟩), .int .i64 0]) ∧ (∃ tb cb mb g vs, PH hb tb cb mb g vs (openW zs) (openW zs) (openSt zs) w'' ∧ w'.heap.size ≤ hb ∧ w'.heap.size ≤ tb ∧ w'.heap.size ≤ cb ∧ w'.heap.size ≤ mb ∧ w'.heap.size ≤ g ∧ ∀ k, vs.ownBlock = some k → w'.heap.size ≤ k) ∧ Fr New w' w'') := fun g w' hr => by
      refine (HOP.out g w' hr).mono ?_
      rintro e w2 ⟨v, c, rfl, ⟨herr, _⟩ | ⟨_, rfl, hb, tb, cb, mb, g, vs, rfl, q⟩, hf⟩
      · exact (open_not herr hok).elim
      · exact ⟨hb, rfl, ⟨tb, cb, mb, g, vs, q⟩, hf⟩
    have HRK : Hid (∀ w', Fr New w w' → Calls Tryz.prog 125 #[.slice (some ad) n cv] w' fun e w'' => ∃ rb, e = .returned (.tuple #[.pointer (some ⟨rb, 0, none⟩), .int .i64 0]) ∧ (∃ gw cw gn cn vs, RHG rb gw cw n (.slice (some ⟨gn, 0, none⟩) n cn) vs (openW zs) (openSt zs) w'' ∧ w''.ownsRow 0 50 1 (.slice (some ⟨gn, 0, none⟩) n cn) n ((openW zs).map (Value.int .u64)) ∧ gw ≠ gn ∧ w'.heap.size ≤ rb ∧ w'.heap.size ≤ gw ∧ w'.heap.size ≤ gn ∧ ∀ k, vs.ownBlock = some k → w'.heap.size ≤ k) ∧ Fr New w' w'') := fun w' hf => by
      refine (HRO.out w' hf).mono ?_
      rintro e w2 ⟨h2, ⟨c, _, herr⟩ | ⟨_, rb, gw, cw, gn, cn, vs, rfl, q⟩⟩
      · exact (open_not herr hok).elim
      · exact ⟨rb, rfl, ⟨gw, cw, gn, cn, vs, q⟩, h2⟩
    by_cases h4 : ps.length < 4
    · have HEND : Hid (∀ w1 w2 w3 w4 w5 w7 w8 hb rb g7 c7 pb g c', Fr New w w1 → w.heap.size + 1 < w1.heap.size → Fr New w1 w2 → (∃ tb cb mb g vs, PH hb tb cb mb g vs (openW zs) (openW zs) (openSt zs) w2 ∧ w1.heap.size ≤ hb ∧ w1.heap.size ≤ tb ∧ w1.heap.size ≤ cb ∧ w1.heap.size ≤ mb ∧ w1.heap.size ≤ g ∧ ∀ k, vs.ownBlock = some k → w1.heap.size ≤ k) → Fr New w2 w3 → (∃ gw cw gn cn vs, RHG rb gw cw n (.slice (some ⟨gn, 0, none⟩) n cn) vs (openW zs) (openSt zs) w3 ∧ w3.ownsRow 0 50 1 (.slice (some ⟨gn, 0, none⟩) n cn) n ((openW zs).map (Value.int .u64)) ∧ gw ≠ gn ∧ w2.heap.size ≤ rb ∧ w2.heap.size ≤ gw ∧ w2.heap.size ≤ gn ∧ ∀ k, vs.ownBlock = some k → w2.heap.size ≤ k) →
          Fr (fun k => k = w.heap.size + 1) w3 w4 → Fr New w4 w5 → w4.heap.size ≤ g7 → Own 0 w5 (.slice (some ⟨g7, 0, none⟩) n c7) zs → Fr New w5 w7 → w5.heap.size ≤ pb → w7.heap[pb]? = some (.cells #[.pointer (some ⟨hb, 0, none⟩), .pointer (some ⟨rb, 0, none⟩), .slice none 0 0, .slice none 0 0, .slice (some ⟨g7, 0, none⟩) n c7] 136 (0, 0)) → Fr (fun k => (Value.slice ah ps.length ch).ownBlock = some k) w7 w8 → w8.ownsRow B 133 1 (.slice (some ⟨g, 0, none⟩) (ps.length + 1) c') (ps.length + 1) (ptrs ps ++ [.pointer (some ⟨pb, 0, none⟩)]) → Wb w8 b vws (.slice ah ps.length ch) c vb X.s X.o →
          Below B w (w8.setCell ⟨b, 1, none⟩ (.slice (some ⟨g, 0, none⟩) (ps.length + 1) c')) ∧ Sta B b (N + 200) (w8.setCell ⟨b, 1, none⟩ (.slice (some ⟨g, 0, none⟩) (ps.length + 1) c'))) := by
        intro w1 w2 w3 w4 w5 w7 w8 hb rb g7 c7 pb g c' f1 hlw f2 hp f3 hr f4 f5 hg7 o5 f7 hpb hpb7 f8 o8 b8
        obtain ⟨tb, cb, mb, g0, vs, hp, q1, q2, q3, q4, q5, q6⟩ := hp
        obtain ⟨gw, cw, gn, cn, vr, hr, hr2, hgg, l1, l2, l3, l4⟩ := hr
        have hs1 := f1.size
        have hs2 := f2.size
        rw [HNL.out] at hr hr2 o5 hpb7
        rw [← hxh] at f8 b8
        refine open_end S h4 hok HZU.out (f1.same f2) hp ⟨by omega, by omega, by omega, by omega, by omega, fun k hk => by have := q6 k hk; omega⟩ f3 hr hr2 hgg ⟨l1, l2, l3, l4⟩ f4 (by omega) (fun k hk => ?_) (by omega) f5 hg7 o5 f7 hpb hpb7 f8 o8 b8
        rcases hk with e | e | e | e | e | e
        · omega
        · omega
        · omega
        · omega
        · omega
        · have := q6 k e; omega
      have hd4 : decide ((ps.length : Int) < 4) = true := by simp; omega
      obtain ⟨nh, hnh⟩ : ∃ nh, nh = ps.length := ⟨_, rfl⟩
      obtain ⟨ys, hys⟩ : ∃ ys, ys = ptrs ps := ⟨_, rfl⟩
      rw [← hnh, ← hys] at hHS HEND
      rw [← hnh] at hBK hd4 h4
      have HHS : Hid (w.ownsRow B 133 1 (.slice ah nh ch) nh ys) := hHS
      clear hok HOP HRO hxh S hnh hys hcb hzb hrz hHS
      go_enter Tryz.func73, Tryz.ntmps73
      go_upto_region 17 with fail
      go_quiet (first | (go_at_call 74; exact Calls.quiet_of_same (HPK.out _)) | fail)
      go_upto_region 54 with (first
        | (go_at_call 120; refine (HLN.out _ (((Fr.refl New w).alloc _).drewN _)).mono ?_; rintro e w1 ⟨rfl, hr1, hf1⟩; have hf1' : Fr New w w1 := ((Fr.refl New w).alloc _).drewN _ |>.same hf1; obtain ⟨hcx, hzx⟩ := block_cells (hf1.heap (k := w.heap.size) (Go.Deep.blk_alloc_new w _) id); have hr1' : Row w1 (w.heap.size + 1) (withEight zs) := (by simpa using hr1); have hlw : w.heap.size + 1 < w1.heap.size := hr1'.lt)
        | (go_at_call 20; refine (HOK.out (w.heap.size + 1) w1 hr1').mono ?_; rintro e w2 ⟨hb, rfl, hP2, hf2⟩)
        | (go_at_call 125; refine (HRK.out w2 (hf1'.same hf2)).mono ?_; rintro e w3 ⟨rb, rfl, hP3, hf3⟩)
        | (go_at_call 122; refine (HBK.out (w.heap.size + 1) w3 ((hr1'.fr hf2 id).fr hf3 id) ((hf1'.same hf2).same hf3)).mono ?_; rintro e w4 ⟨rfl, hf4⟩; have hg4 : Fr New w w4 := ((hf1'.same hf2).same hf3).trans hf4 (fun j hj ht => by omega); have hbk4 := hg4.heap hBK id; obtain ⟨hcb4, hzb4⟩ := block_cells hbk4)
        | fail)
      have hb4 := lt_of_block hbk4
      have hrow4 : RowU w4 (some ad) zs := HRZ.out w4 hg4
      have hhs4 := hg4.owns HHS.out (fun _ _ h => h)
      have hB4 : B ≤ w4.heap.size := Nat.le_trans hB0 hg4.size
      have HE2 : Hid (∀ w5 w7 w8 g7 c7 pb g c', Fr New w4 w5 → w4.heap.size ≤ g7 → Own 0 w5 (.slice (some ⟨g7, 0, none⟩) n c7) zs → Fr New w5 w7 → w5.heap.size ≤ pb → w7.heap[pb]? = some (.cells #[.pointer (some ⟨hb, 0, none⟩), .pointer (some ⟨rb, 0, none⟩), .slice none 0 0, .slice none 0 0, .slice (some ⟨g7, 0, none⟩) n c7] 136 (0, 0)) → Fr (fun k => (Value.slice ah nh ch).ownBlock = some k) w7 w8 → w8.ownsRow B 133 1 (.slice (some ⟨g, 0, none⟩) (nh + 1) c') (nh + 1) (ys ++ [.pointer (some ⟨pb, 0, none⟩)]) → Wb w8 b vws (.slice ah nh ch) c vb X.s X.o → Below B w (w8.setCell ⟨b, 1, none⟩ (.slice (some ⟨g, 0, none⟩) (nh + 1) c')) ∧ Sta B b (N + 200) (w8.setCell ⟨b, 1, none⟩ (.slice (some ⟨g, 0, none⟩) (nh + 1) c'))) := fun w5 w7 w8 g7 c7 pb g c' => HEND.out w1 w2 w3 w4 w5 w7 w8 hb rb g7 c7 pb g c' hf1' hlw hf2 hP2 hf3 hP3 hf4
      have HRW : Hid (RowU w4 (some ad) zs) := hrow4
      clear HEND hP2 hP3 HOK HRK HBK HLN HPK hf1 hf1' hf2 hf3 hf4 hr1 hr1' hrow4 hcj hcx hzx hg4 hBK
      have hnl := HNL.out
      subst hnl
      go_region_law (first
        | (refine step_copiedK (W := w4) (cap := cv) HRW.out (by omega) (by omega) (.tmp 285) (.tmp 286) rfl rfl (by simp [Act.eval]) (by simp [Act.eval]) (by first | exact (Fr.refl New w4).alloc _ | exact (Fr.refl New w4).drew.alloc _) (by first | exact Go.Deep.blk_alloc_new w4 _ | exact Go.Deep.blk_alloc_new w4.drew _) ?_; intro g7 c7 w5 hg7 ho5 hf5; obtain ⟨hc5, hz5⟩ := block_cells (hf5.heap hbk4 id); have hb5 := lt_of_block (hf5.heap hbk4 id))
        | (refine step_heaps hbk4 hhs4 hB4 h4 ((hf5.alloc _).alloc _) (w5.heap.size + 1) w5.heap.size (new_at2 w5 _ _) (.tmp 282) (.tmp 290) rfl rfl (by simp [Act.eval]) (by simp [Act.eval]) ?_; intro g c' w8 ho8 hbk8 hf8; obtain ⟨hc8, hz8⟩ := block_cells hbk8; have hE := HE2.out w5 _ w8 g7 c7 w5.heap.size g c' hf5 hg7 ho5 (((Fr.refl New w5).alloc _).alloc _) (Nat.le_refl _) (((Fr.refl New _).alloc _).heap (Go.Deep.blk_alloc_new w5 _) id) hf8 ho8 hbk8))
      all_goals
        go_wp2
        go_ret
        exact ⟨rfl, hE⟩
    · have h4' : decide ((ps.length : Int) < 4) = false := by simp; omega
      obtain ⟨nh, hnh⟩ : ∃ nh, nh = ps.length := ⟨_, rfl⟩
      rw [← hnh] at hBK h4'
      clear hok HOP HRO hxh S hnh hcb hzb hrz hHS h4
      go_enter Tryz.func73, Tryz.ntmps73
      go_upto_region 17 with fail
      go_quiet (first | (go_at_call 74; exact Calls.quiet_of_same (HPK.out _)) | fail)
      go_wp2_with (first
        | (go_at_call 120; refine (HLN.out _ (((Fr.refl New w).alloc _).drewN _)).mono ?_; rintro e w1 ⟨rfl, hr1, hf1⟩; have hf1' : Fr New w w1 := ((Fr.refl New w).alloc _).drewN _ |>.same hf1; obtain ⟨hcx, hzx⟩ := block_cells (hf1.heap (k := w.heap.size) (Go.Deep.blk_alloc_new w _) id); have hr1' : Row w1 (w.heap.size + 1) (withEight zs) := (by simpa using hr1); have hlw : w.heap.size + 1 < w1.heap.size := hr1'.lt)
        | (go_at_call 20; refine (HOK.out (w.heap.size + 1) w1 hr1').mono ?_; rintro e w2 ⟨hb, rfl, hP2, hf2⟩)
        | (go_at_call 125; refine (HRK.out w2 (hf1'.same hf2)).mono ?_; rintro e w3 ⟨rb, rfl, hP3, hf3⟩)
        | (go_at_call 122; refine (HBK.out (w.heap.size + 1) w3 ((hr1'.fr hf2 id).fr hf3 id) ((hf1'.same hf2).same hf3)).mono ?_; rintro e w4 ⟨rfl, hf4⟩; have hg4 : Fr New w w4 := ((hf1'.same hf2).same hf3).trans hf4 (fun j hj ht => by omega); have hbk4 := hg4.heap hBK id; obtain ⟨hcb4, hzb4⟩ := block_cells hbk4)
        | fail)
      go_ret
      exact ⟨rfl, HSM.out w4 hg4⟩
  · have HER : Hid (∀ g w', Row w' g (withEight zs) → Calls Tryz.prog 20 #[.slice (some ⟨g, 0, none⟩) n (n + 8)] w' fun e w'' => ∃ c, e = .returned (.tuple #[.pointer none, .int .i64 c]) ∧ OpenErr zs c ∧ Fr New w' w'') := fun g w' hr => by
      refine (HOP.out g w' hr).mono ?_
      rintro e w2 ⟨v, c, rfl, ⟨herr, rfl⟩ | ⟨h, _⟩, hf⟩
      · exact ⟨c, rfl, herr, hf⟩
      · exact absurd h hok
    have HRR : Hid (∀ w', Fr New w w' → Calls Tryz.prog 125 #[.slice av n cv] w' fun e w'' => ∃ c, e = .returned (.tuple #[.pointer none, .int .i64 c]) ∧ OpenErr zs c ∧ Fr New w' w'') := fun w' hf => by
      refine (HRO.out w' hf).mono ?_
      rintro e w2 ⟨h2, ⟨c, rfl, herr⟩ | ⟨h, _⟩⟩
      · exact ⟨c, rfl, herr, h2⟩
      · exact absurd h hok
    clear HOP HRO S hcb hzb hrz hok
    go_enter Tryz.func73, Tryz.ntmps73
    go_upto_region 17 with fail
    go_quiet (first | (go_at_call 74; exact Calls.quiet_of_same (HPK.out _)) | fail)
    go_wp2_with (first
      | (go_at_call 120; refine (HLN.out _ (((Fr.refl New w).alloc _).drewN _)).mono ?_; rintro e w1 ⟨rfl, hr1, hf1⟩; have hf1' : Fr New w w1 := ((Fr.refl New w).alloc _).drewN _ |>.same hf1; obtain ⟨hcx, hzx⟩ := block_cells (hf1.heap (k := w.heap.size) (Go.Deep.blk_alloc_new w _) id); have hr1' : Row w1 (w.heap.size + 1) (withEight zs) := (by simpa using hr1); have hlw : w.heap.size + 1 < w1.heap.size := hr1'.lt)
      | (go_at_call 20; refine (HER.out (w.heap.size + 1) w1 hr1').mono ?_; rintro e w2 ⟨cd, rfl, hE1, hf2⟩)
      | (go_at_call 125; refine (HRR.out w2 (hf1'.same hf2)).mono ?_; rintro e w3 ⟨cd2, rfl, hE2, hf3⟩; obtain ⟨he1, he2⟩ := open_err_one hE1 hE2; subst he1; have hcd : (cd == 0) = false := (by simpa using he2); have hcd2 : (cd != 0) = true := (by simpa using he2))
      | (go_at_call 122; refine (HBK.out (w.heap.size + 1) w3 ((hr1'.fr hf2 id).fr hf3 id) ((hf1'.same hf2).same hf3)).mono ?_; rintro e w4 ⟨rfl, hf4⟩; have hg4 : Fr New w w4 := ((hf1'.same hf2).same hf3).trans hf4 (fun j hj ht => by omega))
      | fail)
    go_ret
    exact ⟨rfl, HSM.out w4 hg4⟩
end Go.Proofs.YtbagcjlimdilpaaGreat
