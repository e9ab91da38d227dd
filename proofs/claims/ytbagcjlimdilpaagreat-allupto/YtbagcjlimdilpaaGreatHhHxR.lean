/- The law's 'step' for calls of a heap that turn no more than its words now. -/
import Derived.Test.YtbagcjlimdilpaaGreatHhJ17
import Derived.Test.YtbagcjlimdilpaaGreatHhHxG
import Derived.Test.YtbagcjlimdilpaaGreatHhJ14
import Derived.Test.YtbagcjlimdilpaaGreatHhPhB
import Derived.Deep.RegionHeld3
import Derived.Deep.DrawnRows
import Derived.BigQuiet
namespace Go.Proofs.YtbagcjlimdilpaaGreat
open Go.RowKit Go.Maps
attribute [local go_sem ↓] Go.wp_at_zero Go.wp_at_succ

/-- which pair a raw number speaks of -/
theorem pick_of (A : Int) (n : Nat) (hn : 0 < n) : ∃ i : Nat, i < n ∧ pickI A n = (i : Int) := by
  have h0 := pickI_nonneg A n (by omega)
  have h1 := pickI_lt A n (by omega)
  obtain ⟨i, hi⟩ := Int.eq_ofNat_of_zero_le h0
  exact ⟨i, by omega, hi⟩
theorem Side.pick {col : Nat → Nat} {X : Rest} {B c N : Nat} {ps : List Nat} {ss os : List EntE} {w : World} (S : Side col X B c N ps ss os w) {i : Nat} (hi : i < ps.length) :
    ∃ gh ch, X.h = .slice (some ⟨gh, 0, none⟩) ps.length ch ∧ w.cell? ⟨gh, i, none⟩ = some (.pointer (some ⟨ps[i], 0, none⟩)) := by
  have ho := S.hs
  obtain ⟨gh, ch, hx, _, _⟩ := ho.form (by omega)
  rw [hx] at ho
  refine ⟨gh, ch, hx, ?_⟩
  have := ho.cellAt i (by omega)
  rw [this]
  simp [ptrs, hi]

set_option maxHeartbeats 8000000 in
set_option maxRecDepth 1000000 in
theorem step_alloc (B b N : Nat) (A D C V : Int) (Wa : Option Addr) (Wl Wc : Nat) (zs : List Int) (w : World) {col : Nat → Nat} {X : Rest} {c : Nat} {vws : Value} {nw : Nat} {xs : List Value} {vb : Value} {es : List Entry} {ps : List Nat} {ss os : List EntE}
    (S : StaX col X B b c N vws nw xs vb es ps ss os w) (hp : 0 < ps.length) (ho : OpOkX A D C V zs) :
    Calls Tryz.prog 42 #[.pointer (some ⟨b, 0, none⟩), opV 7 A D C V Wa Wl Wc] w fun e w' => e = .returned (.bool true) ∧ Below B w w' ∧ Sta B b (N + 200) w' := by
  obtain ⟨i, hi, hpk⟩ := pick_of A ps.length hp
  obtain ⟨gh, ch, hxh, hpc⟩ := S.s.pick hi
  obtain ⟨d, DD, hc1, hc0⟩ := S.s.du i hi
  have hbk : Wb w b vws (.slice (some ⟨gh, 0, none⟩) ps.length ch) c vb X.s X.o := hxh ▸ S.p.bk
  have hcb1 : w.cell? ⟨b, 1, none⟩ = some (.slice (some ⟨gh, 0, none⟩) ps.length ch) := ((block_cells hbk).1 1).trans rfl
  have hbW := S.p.lt
  have hghW : gh < w.heap.size := World.block_lt_of_cell? w _ hpc
  have HPK : Hid (∀ w, Calls Tryz.prog 74 #[.int .i64 A, .int .i64 ps.length] w fun e w' => e = .returned (.int .i64 (i : Int)) ∧ w' = w) := fun w => by have := lpick_any A ps.length w ho.a0 ho.a1 (by omega) (by have := S.s.few; omega); rwa [hpk] at this
  have HPX : Hid (∀ w', Fr New w w' → Calls Tryz.prog 38 #[.pointer (some ⟨d.hb, 0, none⟩), .int .i64 D, .int .i64 C] w' fun e w'' => ∃ (r : List Int) (x c : Int), e = .returned (.tuple #[.int .i64 x, .int .i64 c]) ∧ AllocIs d.now D C r x c ∧ PH d.hb d.tb d.cb d.mb d.g d.vs d.ws r d.st w'' ∧ Fr (fun k => k = d.mb) w' w'') := fun w' hf =>
    (halloc_any d.hb d.tb d.cb d.mb d.g d.vs d.ws d.now d.st D C w' (DD.ph.new hf) DD.hw.gn.bad).mono (fun e w'' ⟨r, x, c, h1, h2, h3, h4⟩ => ⟨r, x, c, h1, h2, h3, h4⟩)
  have HRX : Hid (∀ w' w'', Fr New w w' → Fr (fun k => k = d.mb) w' w'' → Calls Tryz.prog 75 #[.pointer (some ⟨d.rb, 0, none⟩), .int .i64 D, .int .i64 C] w'' fun e w3 => ∃ (r : List Int) (x c : Int), e = .returned (.tuple #[.int .i64 x, .int .i64 c]) ∧ AllocIs d.now D C r x c ∧ RH d.rb d.gn d.cn d.L (.slice (some ⟨d.gw, 0, none⟩) d.L d.cw) d.vr r w3 ∧ Fr (fun k => k = d.gn) w'' w3) := fun w' w'' hf hf2 => by
    have hr := ((DD.new hf).rhMap hf2).rh
    exact (ralloc_any d.rb d.gn d.cn d.L _ d.vr d.now D C w'' hr).mono (fun e w3 ⟨r, x, c, h1, h2, h3, h4⟩ => ⟨r, x, c, h1, h2, h3, h4⟩)
  have HONE : Hid (∀ r x c r2 x2 c2, AllocIs d.now D C r x c → AllocIs d.now D C r2 x2 c2 → r = r2 ∧ x = x2 ∧ c = c2) := fun r x c r2 x2 c2 h h2 => alloc_one h h2
  have HKX : Hid (∀ W w1, Fr New w W → Fr (fun k => k = d.mb) W w1 → w1.cell? ⟨ps[i], 0, none⟩ = some (.pointer (some ⟨d.hb, 0, none⟩)) ∧ w1.cell? ⟨ps[i], 1, none⟩ = some (.pointer (some ⟨d.rb, 0, none⟩))) := fun W w1 hf hf2 => by
    have D1 := DD.new hf
    exact ⟨hf2.cell D1.c0 (D1.ph.mapNe D1.blk), hf2.cell D1.c1 (D1.ph.mapNe D1.blk)⟩
  have HNE0 : Hid (ps[i] ≠ d.gn) := fun e => by obtain ⟨c, hc⟩ := DD.gt1; exact type_ne DD.blk hc (by decide) e
  have HDR0 : Hid (∀ r w', RH d.rb d.gn d.cn d.L (.slice (some ⟨d.gw, 0, none⟩) d.L d.cw) d.vr r w' → RH d.rb d.gn d.cn d.L (.slice (some ⟨d.gw, 0, none⟩) d.L d.cw) d.vr r w'.drew) := fun r w' h => h.fr ((Fr.refl New w').drew)
  have HMB : Hid (d.mb < w.heap.size ∧ d.gn < w.heap.size) := ⟨DD.ph.cg.lt, by obtain ⟨c, hc⟩ := DD.gt1; exact lt_of_block hc⟩
  have HEND : Hid (∀ W w1 w2 r x c, Fr New w W → AllocIs d.now D C r x c → PH d.hb d.tb d.cb d.mb d.g d.vs d.ws r d.st w1 → Fr (fun k => k = d.mb) W w1 → RH d.rb d.gn d.cn d.L (.slice (some ⟨d.gw, 0, none⟩) d.L d.cw) d.vr r w2 → Fr (fun k => k = d.gn) w1 w2 → Below B w w2 ∧ Sta B b (N + 200) w2) := fun W w1 w2 r x c hf hR h1 f1 h2 f2 => by
    obtain ⟨q1, q2⟩ := (S.new hf).calls i hi (DD.new hf) hc1 hc0 h1 f1 h2 f2 ((fun r x c h => alloc_hw DD.hw h) r x c hR)
    exact ⟨(hf.below S.p.size (fun _ _ h => h)).trans q2, q1⟩
  have hnh : ps.length ≤ 4 := S.s.few
  have p0 := DD.c0
  have p1 := DD.c1
  obtain ⟨pb, hpb⟩ : ∃ pb, pb = ps[i] := ⟨_, rfl⟩
  rw [← hpb] at HKX p0 p1 hpc HNE0
  have hpbW : pb < w.heap.size := World.block_lt_of_cell? w _ p0
  obtain ⟨nh, hnl⟩ : ∃ nh, nh = ps.length := ⟨_, rfl⟩
  rw [← hnl] at hcb1 HPK hnh hp hi
  obtain ⟨hb, ehb⟩ : ∃ hb, hb = d.hb := ⟨_, rfl⟩
  obtain ⟨rb, erb⟩ : ∃ rb, rb = d.rb := ⟨_, rfl⟩
  obtain ⟨mb, emb⟩ : ∃ mb, mb = d.mb := ⟨_, rfl⟩
  obtain ⟨gn, egn⟩ : ∃ gn, gn = d.gn := ⟨_, rfl⟩
  obtain ⟨PHr, ePH⟩ : ∃ PHr : List Int → World → Prop, PHr = fun r w => PH d.hb d.tb d.cb d.mb d.g d.vs d.ws r d.st w := ⟨_, rfl⟩
  obtain ⟨RHr, eRH⟩ : ∃ RHr : List Int → World → Prop, RHr = fun r w => RH d.rb d.gn d.cn d.L (.slice (some ⟨d.gw, 0, none⟩) d.L d.cw) d.vr r w := ⟨_, rfl⟩
  obtain ⟨RR, eRR⟩ : ∃ RR : List Int → Int → Int → Prop, RR = fun r x c => AllocIs d.now D C r x c := ⟨_, rfl⟩
  have HPX2 : Hid (∀ w', Fr New w w' → Calls Tryz.prog 38 #[.pointer (some ⟨hb, 0, none⟩), .int .i64 D, .int .i64 C] w' fun e w'' => ∃ (r : List Int) (x c : Int), e = .returned (.tuple #[.int .i64 x, .int .i64 c]) ∧ RR r x c ∧ PHr r w'' ∧ Fr (fun k => k = mb) w' w'') := by rw [ehb, emb, ePH, eRR]; exact HPX
  have HRX2 : Hid (∀ w' w'', Fr New w w' → Fr (fun k => k = mb) w' w'' → Calls Tryz.prog 75 #[.pointer (some ⟨rb, 0, none⟩), .int .i64 D, .int .i64 C] w'' fun e w3 => ∃ (r : List Int) (x c : Int), e = .returned (.tuple #[.int .i64 x, .int .i64 c]) ∧ RR r x c ∧ RHr r w3 ∧ Fr (fun k => k = gn) w'' w3) := by rw [erb, emb, egn, eRH, eRR]; exact HRX
  have HONE2 : Hid (∀ r x c r2 x2 c2, RR r x c → RR r2 x2 c2 → r = r2 ∧ x = x2 ∧ c = c2) := by rw [eRR]; exact HONE
  have HEND2 : Hid (∀ W w1 w2 r x c, Fr New w W → RR r x c → PHr r w1 → Fr (fun k => k = mb) W w1 → RHr r w2 → Fr (fun k => k = gn) w1 w2 → Below B w w2 ∧ Sta B b (N + 200) w2) := by rw [emb, egn, ePH, eRH, eRR]; exact HEND
  have HKX2 : Hid (∀ W w1, Fr New w W → Fr (fun k => k = mb) W w1 → w1.cell? ⟨pb, 0, none⟩ = some (.pointer (some ⟨hb, 0, none⟩)) ∧ w1.cell? ⟨pb, 1, none⟩ = some (.pointer (some ⟨rb, 0, none⟩))) := by rw [ehb, erb, emb]; exact HKX
  have HNE : Hid (pb ≠ gn) := by rw [egn]; exact HNE0
  have HDR : Hid (∀ r w', RHr r w' → RHr r w'.drew) := by rw [eRH]; exact HDR0
  have HMB2 : Hid (mb < w.heap.size ∧ gn < w.heap.size) := by rw [emb, egn]; exact HMB
  rw [← ehb] at p0
  rw [← erb] at p1
  clear HPX HRX HONE HEND HKX HMB HNE0 HDR0 ehb erb emb egn ePH eRH eRR hc1 hc0 DD S hbk hxh hpk hpb hnl
  have hj0 : (0 : Int) ≤ (i : Int) := by omega
  have hj1 : (i : Int) < (nh : Int) := by omega
  have hnz : ((nh : Int) == 0) = false := by simp; omega
  go_enter Tryz.func42, Tryz.ntmps42
  go_upto_region 7 with fail
  go_quiet (first | (go_at_call 74; exact Calls.quiet_of_same (HPK.out _)) | fail)
  go_upto_region 10 with fail
  have hob2 : ∃ W ob, W = (w.alloc (.cells #[.int .i64 7, .int .i64 A, .int .i64 D, .int .i64 C, .int .u64 V, .slice Wa Wl Wc] 91)).drewN nq ∧ ob = w.heap.size := ⟨_, _, rfl, rfl⟩
  obtain ⟨W, ob, hW, hob⟩ := hob2
  have hWf : Fr New w W := by rw [hW]; exact ((Fr.refl New w).alloc _).drewN _
  have hbox : W.heap[ob]? = some (.cells #[.int .i64 7, .int .i64 A, .int .i64 D, .int .i64 C, .int .u64 V, .slice Wa Wl Wc] 91 (0, 0)) := by rw [hW, hob]; exact Go.Deep.blk_alloc_new w _
  rw [← hW, ← hob]
  have q0 := hWf.cell p0 id
  have q1 := hWf.cell p1 id
  have x2 : W.cell? ⟨ob, 2, none⟩ = some (.int .i64 D) := ((block_cells hbox).1 2).trans rfl
  have x3 : W.cell? ⟨ob, 3, none⟩ = some (.int .i64 C) := ((block_cells hbox).1 3).trans rfl
  have hobW : ob < W.heap.size := lt_of_block hbox
  have hpbW2 : pb < W.heap.size := World.block_lt_of_cell? W _ q0
  have hobmb : ob ≠ mb := by have := HMB2.out.1; omega
  have hobgn : ob ≠ gn := by have := HMB2.out.2; omega
  have HWF : Hid (Fr New w W) := hWf
  clear hW hob hbox hWf p0 p1 hcb1 hpc HPK
  go_region_held3 (fun w' => w'.cell? ⟨pb, 0, none⟩ = some (.pointer (some ⟨hb, 0, none⟩)) ∧ w'.cell? ⟨ob, 2, none⟩ = some (.int .i64 D) ∧ w'.cell? ⟨ob, 3, none⟩ = some (.int .i64 C)) (first | go_keep | with_reducible exact hkeep1)
    (first
      | (go_at_call 38; refine (HPX2.out _ (by first | exact HWF.out | exact HWF.out.drew)).mono ?_; rintro e w1 ⟨r, x, c1, rfl, hR1, hP1, f1⟩; have f1' : Fr (fun k => k = mb) W w1 := (by first | exact f1 | exact f1.undrew); obtain ⟨y0, y1⟩ := HKX2.out W w1 HWF.out f1'; have z2 : w1.cell? ⟨ob, 2, none⟩ = some (.int .i64 D) := f1'.cell x2 hobmb; have z3 : w1.cell? ⟨ob, 3, none⟩ = some (.int .i64 C) := f1'.cell x3 hobmb; have hkeep1 : w1.cell? ⟨pb, 0, none⟩ = some (.pointer (some ⟨hb, 0, none⟩)) ∧ w1.cell? ⟨ob, 2, none⟩ = some (.int .i64 D) ∧ w1.cell? ⟨ob, 3, none⟩ = some (.int .i64 C) := ⟨y0, z2, z3⟩)
      | fail)
  all_goals
    clear hkeep1
    go_upto_region 11 with fail
    go_region_held3 (fun w' => w'.cell? ⟨pb, 1, none⟩ = some (.pointer (some ⟨rb, 0, none⟩)) ∧ w'.cell? ⟨ob, 2, none⟩ = some (.int .i64 D) ∧ w'.cell? ⟨ob, 3, none⟩ = some (.int .i64 C)) (first | go_keep | with_reducible exact hkeep2)
      (first
        | (go_at_call 75; refine (HRX2.out W _ HWF.out (by first | exact f1' | exact f1'.drew)).mono ?_; rintro e w2 ⟨r2, x2, c2, rfl, hR2, hP2, f2⟩; have f2' : Fr (fun k => k = gn) w1 w2 := (by first | exact f2 | exact f2.undrew); have y2 : w2.cell? ⟨pb, 1, none⟩ = some (.pointer (some ⟨rb, 0, none⟩)) := f2'.cell y1 HNE.out; have v2 : w2.cell? ⟨ob, 2, none⟩ = some (.int .i64 D) := f2'.cell z2 hobgn; have v3 : w2.cell? ⟨ob, 3, none⟩ = some (.int .i64 C) := f2'.cell z3 hobgn; have hkeep2 : w2.cell? ⟨pb, 1, none⟩ = some (.pointer (some ⟨rb, 0, none⟩)) ∧ w2.cell? ⟨ob, 2, none⟩ = some (.int .i64 D) ∧ w2.cell? ⟨ob, 3, none⟩ = some (.int .i64 C) := ⟨y2, v2, v3⟩; obtain ⟨rfl, rfl, rfl⟩ := HONE2.out _ _ _ _ _ _ hR1 hR2)
        | fail)
    all_goals
      go_wp2
      go_ret
      exact ⟨rfl, HEND2.out W w1 _ _ _ _ HWF.out hR1 hP1 f1' (by first | exact hP2 | exact HDR.out _ _ hP2) (by first | exact f2' | exact f2'.drew)⟩

set_option maxHeartbeats 8000000 in
set_option maxRecDepth 1000000 in
theorem step_free (B b N : Nat) (A D C V : Int) (Wa : Option Addr) (Wl Wc : Nat) (zs : List Int) (w : World) {col : Nat → Nat} {X : Rest} {c : Nat} {vws : Value} {nw : Nat} {xs : List Value} {vb : Value} {es : List Entry} {ps : List Nat} {ss os : List EntE}
    (S : StaX col X B b c N vws nw xs vb es ps ss os w) (hp : 0 < ps.length) (ho : OpOkX A D C V zs) :
    Calls Tryz.prog 42 #[.pointer (some ⟨b, 0, none⟩), opV 8 A D C V Wa Wl Wc] w fun e w' => e = .returned (.bool true) ∧ Below B w w' ∧ Sta B b (N + 200) w' := by
  obtain ⟨i, hi, hpk⟩ := pick_of A ps.length hp
  obtain ⟨gh, ch, hxh, hpc⟩ := S.s.pick hi
  obtain ⟨d, DD, hc1, hc0⟩ := S.s.du i hi
  have hbk : Wb w b vws (.slice (some ⟨gh, 0, none⟩) ps.length ch) c vb X.s X.o := hxh ▸ S.p.bk
  have hcb1 : w.cell? ⟨b, 1, none⟩ = some (.slice (some ⟨gh, 0, none⟩) ps.length ch) := ((block_cells hbk).1 1).trans rfl
  have hbW := S.p.lt
  have hghW : gh < w.heap.size := World.block_lt_of_cell? w _ hpc
  have HPK : Hid (∀ w, Calls Tryz.prog 74 #[.int .i64 A, .int .i64 ps.length] w fun e w' => e = .returned (.int .i64 (i : Int)) ∧ w' = w) := fun w => by have := lpick_any A ps.length w ho.a0 ho.a1 (by omega) (by have := S.s.few; omega); rwa [hpk] at this
  have HPX : Hid (∀ w', Fr New w w' → Calls Tryz.prog 40 #[.pointer (some ⟨d.hb, 0, none⟩), .int .i64 D] w' fun e w'' => ∃ (r : List Int) (x c : Int), e = .returned (.int .i64 c) ∧ (FreeIs d.now D r c ∧ x = (0 : Int)) ∧ PH d.hb d.tb d.cb d.mb d.g d.vs d.ws r d.st w'' ∧ Fr (fun k => k = d.mb) w' w'') := fun w' hf =>
    (hfree_any d.hb d.tb d.cb d.mb d.g d.vs d.ws d.now d.st D w' ho.d0 ho.d1 (DD.ph.new hf)).mono (fun e w'' ⟨r, c, h1, h2, h3, h4⟩ => ⟨r, 0, c, h1, ⟨h2, rfl⟩, h3, h4⟩)
  have HRX : Hid (∀ w' w'', Fr New w w' → Fr (fun k => k = d.mb) w' w'' → Calls Tryz.prog 76 #[.pointer (some ⟨d.rb, 0, none⟩), .int .i64 D] w'' fun e w3 => ∃ (r : List Int) (x c : Int), e = .returned (.int .i64 c) ∧ (FreeIs d.now D r c ∧ x = (0 : Int)) ∧ RH d.rb d.gn d.cn d.L (.slice (some ⟨d.gw, 0, none⟩) d.L d.cw) d.vr r w3 ∧ Fr (fun k => k = d.gn) w'' w3) := fun w' w'' hf hf2 => by
    have hr := ((DD.new hf).rhMap hf2).rh
    exact (rfree_any d.rb d.gn d.cn d.L _ d.vr d.now D w'' ho.d0 ho.d1 hr).mono (fun e w3 ⟨r, c, h1, h2, h3, h4⟩ => ⟨r, 0, c, h1, ⟨h2, rfl⟩, h3, h4⟩)
  have HONE : Hid (∀ r x c r2 x2 c2, (FreeIs d.now D r c ∧ x = (0 : Int)) → (FreeIs d.now D r2 c2 ∧ x2 = (0 : Int)) → r = r2 ∧ x = x2 ∧ c = c2) := fun r x c r2 x2 c2 h h2 => ⟨(free_one h.1 h2.1).1, h.2.trans h2.2.symm, (free_one h.1 h2.1).2⟩
  have HKX : Hid (∀ W w1, Fr New w W → Fr (fun k => k = d.mb) W w1 → w1.cell? ⟨ps[i], 0, none⟩ = some (.pointer (some ⟨d.hb, 0, none⟩)) ∧ w1.cell? ⟨ps[i], 1, none⟩ = some (.pointer (some ⟨d.rb, 0, none⟩))) := fun W w1 hf hf2 => by
    have D1 := DD.new hf
    exact ⟨hf2.cell D1.c0 (D1.ph.mapNe D1.blk), hf2.cell D1.c1 (D1.ph.mapNe D1.blk)⟩
  have HNE0 : Hid (ps[i] ≠ d.gn) := fun e => by obtain ⟨c, hc⟩ := DD.gt1; exact type_ne DD.blk hc (by decide) e
  have HDR0 : Hid (∀ r w', RH d.rb d.gn d.cn d.L (.slice (some ⟨d.gw, 0, none⟩) d.L d.cw) d.vr r w' → RH d.rb d.gn d.cn d.L (.slice (some ⟨d.gw, 0, none⟩) d.L d.cw) d.vr r w'.drew) := fun r w' h => h.fr ((Fr.refl New w').drew)
  have HMB : Hid (d.mb < w.heap.size ∧ d.gn < w.heap.size) := ⟨DD.ph.cg.lt, by obtain ⟨c, hc⟩ := DD.gt1; exact lt_of_block hc⟩
  have HEND : Hid (∀ W w1 w2 r x c, Fr New w W → (FreeIs d.now D r c ∧ x = (0 : Int)) → PH d.hb d.tb d.cb d.mb d.g d.vs d.ws r d.st w1 → Fr (fun k => k = d.mb) W w1 → RH d.rb d.gn d.cn d.L (.slice (some ⟨d.gw, 0, none⟩) d.L d.cw) d.vr r w2 → Fr (fun k => k = d.gn) w1 w2 → Below B w w2 ∧ Sta B b (N + 200) w2) := fun W w1 w2 r x c hf hR h1 f1 h2 f2 => by
    obtain ⟨q1, q2⟩ := (S.new hf).calls i hi (DD.new hf) hc1 hc0 h1 f1 h2 f2 ((fun r x c h => free_hw DD.hw h.1) r x c hR)
    exact ⟨(hf.below S.p.size (fun _ _ h => h)).trans q2, q1⟩
  have hnh : ps.length ≤ 4 := S.s.few
  have p0 := DD.c0
  have p1 := DD.c1
  obtain ⟨pb, hpb⟩ : ∃ pb, pb = ps[i] := ⟨_, rfl⟩
  rw [← hpb] at HKX p0 p1 hpc HNE0
  have hpbW : pb < w.heap.size := World.block_lt_of_cell? w _ p0
  obtain ⟨nh, hnl⟩ : ∃ nh, nh = ps.length := ⟨_, rfl⟩
  rw [← hnl] at hcb1 HPK hnh hp hi
  obtain ⟨hb, ehb⟩ : ∃ hb, hb = d.hb := ⟨_, rfl⟩
  obtain ⟨rb, erb⟩ : ∃ rb, rb = d.rb := ⟨_, rfl⟩
  obtain ⟨mb, emb⟩ : ∃ mb, mb = d.mb := ⟨_, rfl⟩
  obtain ⟨gn, egn⟩ : ∃ gn, gn = d.gn := ⟨_, rfl⟩
  obtain ⟨PHr, ePH⟩ : ∃ PHr : List Int → World → Prop, PHr = fun r w => PH d.hb d.tb d.cb d.mb d.g d.vs d.ws r d.st w := ⟨_, rfl⟩
  obtain ⟨RHr, eRH⟩ : ∃ RHr : List Int → World → Prop, RHr = fun r w => RH d.rb d.gn d.cn d.L (.slice (some ⟨d.gw, 0, none⟩) d.L d.cw) d.vr r w := ⟨_, rfl⟩
  obtain ⟨RR, eRR⟩ : ∃ RR : List Int → Int → Int → Prop, RR = fun r x c => (FreeIs d.now D r c ∧ x = (0 : Int)) := ⟨_, rfl⟩
  have HPX2 : Hid (∀ w', Fr New w w' → Calls Tryz.prog 40 #[.pointer (some ⟨hb, 0, none⟩), .int .i64 D] w' fun e w'' => ∃ (r : List Int) (x c : Int), e = .returned (.int .i64 c) ∧ RR r x c ∧ PHr r w'' ∧ Fr (fun k => k = mb) w' w'') := by rw [ehb, emb, ePH, eRR]; exact HPX
  have HRX2 : Hid (∀ w' w'', Fr New w w' → Fr (fun k => k = mb) w' w'' → Calls Tryz.prog 76 #[.pointer (some ⟨rb, 0, none⟩), .int .i64 D] w'' fun e w3 => ∃ (r : List Int) (x c : Int), e = .returned (.int .i64 c) ∧ RR r x c ∧ RHr r w3 ∧ Fr (fun k => k = gn) w'' w3) := by rw [erb, emb, egn, eRH, eRR]; exact HRX
  have HONE2 : Hid (∀ r x c r2 x2 c2, RR r x c → RR r2 x2 c2 → r = r2 ∧ x = x2 ∧ c = c2) := by rw [eRR]; exact HONE
  have HEND2 : Hid (∀ W w1 w2 r x c, Fr New w W → RR r x c → PHr r w1 → Fr (fun k => k = mb) W w1 → RHr r w2 → Fr (fun k => k = gn) w1 w2 → Below B w w2 ∧ Sta B b (N + 200) w2) := by rw [emb, egn, ePH, eRH, eRR]; exact HEND
  have HKX2 : Hid (∀ W w1, Fr New w W → Fr (fun k => k = mb) W w1 → w1.cell? ⟨pb, 0, none⟩ = some (.pointer (some ⟨hb, 0, none⟩)) ∧ w1.cell? ⟨pb, 1, none⟩ = some (.pointer (some ⟨rb, 0, none⟩))) := by rw [ehb, erb, emb]; exact HKX
  have HNE : Hid (pb ≠ gn) := by rw [egn]; exact HNE0
  have HDR : Hid (∀ r w', RHr r w' → RHr r w'.drew) := by rw [eRH]; exact HDR0
  have HMB2 : Hid (mb < w.heap.size ∧ gn < w.heap.size) := by rw [emb, egn]; exact HMB
  rw [← ehb] at p0
  rw [← erb] at p1
  clear HPX HRX HONE HEND HKX HMB HNE0 HDR0 ehb erb emb egn ePH eRH eRR hc1 hc0 DD S hbk hxh hpk hpb hnl
  have hj0 : (0 : Int) ≤ (i : Int) := by omega
  have hj1 : (i : Int) < (nh : Int) := by omega
  have hnz : ((nh : Int) == 0) = false := by simp; omega
  go_enter Tryz.func42, Tryz.ntmps42
  go_upto_region 7 with fail
  go_quiet (first | (go_at_call 74; exact Calls.quiet_of_same (HPK.out _)) | fail)
  go_upto_region 14 with fail
  have hob2 : ∃ W ob, W = (w.alloc (.cells #[.int .i64 8, .int .i64 A, .int .i64 D, .int .i64 C, .int .u64 V, .slice Wa Wl Wc] 91)).drewN nq ∧ ob = w.heap.size := ⟨_, _, rfl, rfl⟩
  obtain ⟨W, ob, hW, hob⟩ := hob2
  have hWf : Fr New w W := by rw [hW]; exact ((Fr.refl New w).alloc _).drewN _
  have hbox : W.heap[ob]? = some (.cells #[.int .i64 8, .int .i64 A, .int .i64 D, .int .i64 C, .int .u64 V, .slice Wa Wl Wc] 91 (0, 0)) := by rw [hW, hob]; exact Go.Deep.blk_alloc_new w _
  rw [← hW, ← hob]
  have q0 := hWf.cell p0 id
  have q1 := hWf.cell p1 id
  have x2 : W.cell? ⟨ob, 2, none⟩ = some (.int .i64 D) := ((block_cells hbox).1 2).trans rfl
  have hobW : ob < W.heap.size := lt_of_block hbox
  have hpbW2 : pb < W.heap.size := World.block_lt_of_cell? W _ q0
  have hobmb : ob ≠ mb := by have := HMB2.out.1; omega
  have hobgn : ob ≠ gn := by have := HMB2.out.2; omega
  have HWF : Hid (Fr New w W) := hWf
  clear hW hob hbox hWf p0 p1 hcb1 hpc HPK
  go_region_held3 (fun w' => w'.cell? ⟨pb, 0, none⟩ = some (.pointer (some ⟨hb, 0, none⟩)) ∧ w'.cell? ⟨ob, 2, none⟩ = some (.int .i64 D)) (first | go_keep | with_reducible exact hkeep1)
    (first
      | (go_at_call 40; refine (HPX2.out _ (by first | exact HWF.out | exact HWF.out.drew)).mono ?_; rintro e w1 ⟨r, x, c1, rfl, hR1, hP1, f1⟩; have f1' : Fr (fun k => k = mb) W w1 := (by first | exact f1 | exact f1.undrew); obtain ⟨y0, y1⟩ := HKX2.out W w1 HWF.out f1'; have z2 : w1.cell? ⟨ob, 2, none⟩ = some (.int .i64 D) := f1'.cell x2 hobmb; have hkeep1 : w1.cell? ⟨pb, 0, none⟩ = some (.pointer (some ⟨hb, 0, none⟩)) ∧ w1.cell? ⟨ob, 2, none⟩ = some (.int .i64 D) := ⟨y0, z2⟩)
      | fail)
  all_goals
    clear hkeep1
    go_upto_region 15 with fail
    go_region_held3 (fun w' => w'.cell? ⟨pb, 1, none⟩ = some (.pointer (some ⟨rb, 0, none⟩)) ∧ w'.cell? ⟨ob, 2, none⟩ = some (.int .i64 D)) (first | go_keep | with_reducible exact hkeep2)
      (first
        | (go_at_call 76; refine (HRX2.out W _ HWF.out (by first | exact f1' | exact f1'.drew)).mono ?_; rintro e w2 ⟨r2, x2, c2, rfl, hR2, hP2, f2⟩; have f2' : Fr (fun k => k = gn) w1 w2 := (by first | exact f2 | exact f2.undrew); have y2 : w2.cell? ⟨pb, 1, none⟩ = some (.pointer (some ⟨rb, 0, none⟩)) := f2'.cell y1 HNE.out; have v2 : w2.cell? ⟨ob, 2, none⟩ = some (.int .i64 D) := f2'.cell z2 hobgn; have hkeep2 : w2.cell? ⟨pb, 1, none⟩ = some (.pointer (some ⟨rb, 0, none⟩)) ∧ w2.cell? ⟨ob, 2, none⟩ = some (.int .i64 D) := ⟨y2, v2⟩; obtain ⟨rfl, rfl, rfl⟩ := HONE2.out _ _ _ _ _ _ hR1 hR2)
        | fail)
    all_goals
      go_wp2
      go_ret
      exact ⟨rfl, HEND2.out W w1 _ _ _ _ HWF.out hR1 hP1 f1' (by first | exact hP2 | exact HDR.out _ _ hP2) (by first | exact f2' | exact f2'.drew)⟩

set_option maxHeartbeats 8000000 in
set_option maxRecDepth 1000000 in
theorem step_read (B b N : Nat) (A D C V : Int) (Wa : Option Addr) (Wl Wc : Nat) (zs : List Int) (w : World) {col : Nat → Nat} {X : Rest} {c : Nat} {vws : Value} {nw : Nat} {xs : List Value} {vb : Value} {es : List Entry} {ps : List Nat} {ss os : List EntE}
    (S : StaX col X B b c N vws nw xs vb es ps ss os w) (hp : 0 < ps.length) (ho : OpOkX A D C V zs) :
    Calls Tryz.prog 42 #[.pointer (some ⟨b, 0, none⟩), opV 9 A D C V Wa Wl Wc] w fun e w' => e = .returned (.bool true) ∧ Below B w w' ∧ Sta B b (N + 200) w' := by
  obtain ⟨i, hi, hpk⟩ := pick_of A ps.length hp
  obtain ⟨gh, ch, hxh, hpc⟩ := S.s.pick hi
  obtain ⟨d, DD, hc1, hc0⟩ := S.s.du i hi
  have hbk : Wb w b vws (.slice (some ⟨gh, 0, none⟩) ps.length ch) c vb X.s X.o := hxh ▸ S.p.bk
  have hcb1 : w.cell? ⟨b, 1, none⟩ = some (.slice (some ⟨gh, 0, none⟩) ps.length ch) := ((block_cells hbk).1 1).trans rfl
  have hbW := S.p.lt
  have hghW : gh < w.heap.size := World.block_lt_of_cell? w _ hpc
  have HPK : Hid (∀ w, Calls Tryz.prog 74 #[.int .i64 A, .int .i64 ps.length] w fun e w' => e = .returned (.int .i64 (i : Int)) ∧ w' = w) := fun w => by have := lpick_any A ps.length w ho.a0 ho.a1 (by omega) (by have := S.s.few; omega); rwa [hpk] at this
  have HPX : Hid (∀ w', Fr New w w' → Calls Tryz.prog 39 #[.pointer (some ⟨d.hb, 0, none⟩), .int .i64 D, .int .i64 C] w' fun e w'' => ∃ (r : List Int) (x c : Int), e = .returned (.tuple #[.int .u64 x, .int .i64 c]) ∧ (r = d.now ∧ x = (readS d.now D C).1 ∧ c = (readS d.now D C).2) ∧ PH d.hb d.tb d.cb d.mb d.g d.vs d.ws r d.st w'' ∧ Fr (fun k => k = d.mb) w' w'') := fun w' hf =>
    (hread_any d.hb d.tb d.cb d.mb d.g d.vs d.ws d.now d.st D C w' ho.d0 ho.d1 (DD.ph.new hf)).mono (fun e w'' ⟨h1, h2⟩ => ⟨d.now, _, _, h1, ⟨rfl, rfl, rfl⟩, (DD.ph.new hf).new h2, h2.mono (fun _ _ h => h.elim)⟩)
  have HRX : Hid (∀ w' w'', Fr New w w' → Fr (fun k => k = d.mb) w' w'' → Calls Tryz.prog 77 #[.pointer (some ⟨d.rb, 0, none⟩), .int .i64 D, .int .i64 C] w'' fun e w3 => ∃ (r : List Int) (x c : Int), e = .returned (.tuple #[.int .u64 x, .int .i64 c]) ∧ (r = d.now ∧ x = (readS d.now D C).1 ∧ c = (readS d.now D C).2) ∧ RH d.rb d.gn d.cn d.L (.slice (some ⟨d.gw, 0, none⟩) d.L d.cw) d.vr r w3 ∧ Fr (fun k => k = d.gn) w'' w3) := fun w' w'' hf hf2 => by
    have hr := ((DD.new hf).rhMap hf2).rh
    exact (rread_any d.rb d.gn d.cn d.L _ d.vr d.now D C w'' ho.d0 ho.d1 hr).mono (fun e w3 ⟨h1, h2⟩ => ⟨d.now, _, _, h1, ⟨rfl, rfl, rfl⟩, hr.fr h2, h2.mono (fun _ _ h => h.elim)⟩)
  have HONE : Hid (∀ r x c r2 x2 c2, (r = d.now ∧ x = (readS d.now D C).1 ∧ c = (readS d.now D C).2) → (r2 = d.now ∧ x2 = (readS d.now D C).1 ∧ c2 = (readS d.now D C).2) → r = r2 ∧ x = x2 ∧ c = c2) := fun r x c r2 x2 c2 h h2 => ⟨h.1.trans h2.1.symm, h.2.1.trans h2.2.1.symm, h.2.2.trans h2.2.2.symm⟩
  have HKX : Hid (∀ W w1, Fr New w W → Fr (fun k => k = d.mb) W w1 → w1.cell? ⟨ps[i], 0, none⟩ = some (.pointer (some ⟨d.hb, 0, none⟩)) ∧ w1.cell? ⟨ps[i], 1, none⟩ = some (.pointer (some ⟨d.rb, 0, none⟩))) := fun W w1 hf hf2 => by
    have D1 := DD.new hf
    exact ⟨hf2.cell D1.c0 (D1.ph.mapNe D1.blk), hf2.cell D1.c1 (D1.ph.mapNe D1.blk)⟩
  have HNE0 : Hid (ps[i] ≠ d.gn) := fun e => by obtain ⟨c, hc⟩ := DD.gt1; exact type_ne DD.blk hc (by decide) e
  have HDR0 : Hid (∀ r w', RH d.rb d.gn d.cn d.L (.slice (some ⟨d.gw, 0, none⟩) d.L d.cw) d.vr r w' → RH d.rb d.gn d.cn d.L (.slice (some ⟨d.gw, 0, none⟩) d.L d.cw) d.vr r w'.drew) := fun r w' h => h.fr ((Fr.refl New w').drew)
  have HMB : Hid (d.mb < w.heap.size ∧ d.gn < w.heap.size) := ⟨DD.ph.cg.lt, by obtain ⟨c, hc⟩ := DD.gt1; exact lt_of_block hc⟩
  have HEND : Hid (∀ W w1 w2 r x c, Fr New w W → (r = d.now ∧ x = (readS d.now D C).1 ∧ c = (readS d.now D C).2) → PH d.hb d.tb d.cb d.mb d.g d.vs d.ws r d.st w1 → Fr (fun k => k = d.mb) W w1 → RH d.rb d.gn d.cn d.L (.slice (some ⟨d.gw, 0, none⟩) d.L d.cw) d.vr r w2 → Fr (fun k => k = d.gn) w1 w2 → Below B w w2 ∧ Sta B b (N + 200) w2) := fun W w1 w2 r x c hf hR h1 f1 h2 f2 => by
    obtain ⟨q1, q2⟩ := (S.new hf).calls i hi (DD.new hf) hc1 hc0 h1 f1 h2 f2 ((fun r x c h => h.1 ▸ DD.hw) r x c hR)
    exact ⟨(hf.below S.p.size (fun _ _ h => h)).trans q2, q1⟩
  have hnh : ps.length ≤ 4 := S.s.few
  have p0 := DD.c0
  have p1 := DD.c1
  obtain ⟨pb, hpb⟩ : ∃ pb, pb = ps[i] := ⟨_, rfl⟩
  rw [← hpb] at HKX p0 p1 hpc HNE0
  have hpbW : pb < w.heap.size := World.block_lt_of_cell? w _ p0
  obtain ⟨nh, hnl⟩ : ∃ nh, nh = ps.length := ⟨_, rfl⟩
  rw [← hnl] at hcb1 HPK hnh hp hi
  obtain ⟨hb, ehb⟩ : ∃ hb, hb = d.hb := ⟨_, rfl⟩
  obtain ⟨rb, erb⟩ : ∃ rb, rb = d.rb := ⟨_, rfl⟩
  obtain ⟨mb, emb⟩ : ∃ mb, mb = d.mb := ⟨_, rfl⟩
  obtain ⟨gn, egn⟩ : ∃ gn, gn = d.gn := ⟨_, rfl⟩
  obtain ⟨PHr, ePH⟩ : ∃ PHr : List Int → World → Prop, PHr = fun r w => PH d.hb d.tb d.cb d.mb d.g d.vs d.ws r d.st w := ⟨_, rfl⟩
  obtain ⟨RHr, eRH⟩ : ∃ RHr : List Int → World → Prop, RHr = fun r w => RH d.rb d.gn d.cn d.L (.slice (some ⟨d.gw, 0, none⟩) d.L d.cw) d.vr r w := ⟨_, rfl⟩
  obtain ⟨RR, eRR⟩ : ∃ RR : List Int → Int → Int → Prop, RR = fun r x c => (r = d.now ∧ x = (readS d.now D C).1 ∧ c = (readS d.now D C).2) := ⟨_, rfl⟩
  have HPX2 : Hid (∀ w', Fr New w w' → Calls Tryz.prog 39 #[.pointer (some ⟨hb, 0, none⟩), .int .i64 D, .int .i64 C] w' fun e w'' => ∃ (r : List Int) (x c : Int), e = .returned (.tuple #[.int .u64 x, .int .i64 c]) ∧ RR r x c ∧ PHr r w'' ∧ Fr (fun k => k = mb) w' w'') := by rw [ehb, emb, ePH, eRR]; exact HPX
  have HRX2 : Hid (∀ w' w'', Fr New w w' → Fr (fun k => k = mb) w' w'' → Calls Tryz.prog 77 #[.pointer (some ⟨rb, 0, none⟩), .int .i64 D, .int .i64 C] w'' fun e w3 => ∃ (r : List Int) (x c : Int), e = .returned (.tuple #[.int .u64 x, .int .i64 c]) ∧ RR r x c ∧ RHr r w3 ∧ Fr (fun k => k = gn) w'' w3) := by rw [erb, emb, egn, eRH, eRR]; exact HRX
  have HONE2 : Hid (∀ r x c r2 x2 c2, RR r x c → RR r2 x2 c2 → r = r2 ∧ x = x2 ∧ c = c2) := by rw [eRR]; exact HONE
  have HEND2 : Hid (∀ W w1 w2 r x c, Fr New w W → RR r x c → PHr r w1 → Fr (fun k => k = mb) W w1 → RHr r w2 → Fr (fun k => k = gn) w1 w2 → Below B w w2 ∧ Sta B b (N + 200) w2) := by rw [emb, egn, ePH, eRH, eRR]; exact HEND
  have HKX2 : Hid (∀ W w1, Fr New w W → Fr (fun k => k = mb) W w1 → w1.cell? ⟨pb, 0, none⟩ = some (.pointer (some ⟨hb, 0, none⟩)) ∧ w1.cell? ⟨pb, 1, none⟩ = some (.pointer (some ⟨rb, 0, none⟩))) := by rw [ehb, erb, emb]; exact HKX
  have HNE : Hid (pb ≠ gn) := by rw [egn]; exact HNE0
  have HDR : Hid (∀ r w', RHr r w' → RHr r w'.drew) := by rw [eRH]; exact HDR0
  have HMB2 : Hid (mb < w.heap.size ∧ gn < w.heap.size) := by rw [emb, egn]; exact HMB
  rw [← ehb] at p0
  rw [← erb] at p1
  clear HPX HRX HONE HEND HKX HMB HNE0 HDR0 ehb erb emb egn ePH eRH eRR hc1 hc0 DD S hbk hxh hpk hpb hnl
  have hj0 : (0 : Int) ≤ (i : Int) := by omega
  have hj1 : (i : Int) < (nh : Int) := by omega
  have hnz : ((nh : Int) == 0) = false := by simp; omega
  go_enter Tryz.func42, Tryz.ntmps42
  go_upto_region 7 with fail
  go_quiet (first | (go_at_call 74; exact Calls.quiet_of_same (HPK.out _)) | fail)
  go_upto_region 18 with fail
  have hob2 : ∃ W ob, W = (w.alloc (.cells #[.int .i64 9, .int .i64 A, .int .i64 D, .int .i64 C, .int .u64 V, .slice Wa Wl Wc] 91)).drewN nq ∧ ob = w.heap.size := ⟨_, _, rfl, rfl⟩
  obtain ⟨W, ob, hW, hob⟩ := hob2
  have hWf : Fr New w W := by rw [hW]; exact ((Fr.refl New w).alloc _).drewN _
  have hbox : W.heap[ob]? = some (.cells #[.int .i64 9, .int .i64 A, .int .i64 D, .int .i64 C, .int .u64 V, .slice Wa Wl Wc] 91 (0, 0)) := by rw [hW, hob]; exact Go.Deep.blk_alloc_new w _
  rw [← hW, ← hob]
  have q0 := hWf.cell p0 id
  have q1 := hWf.cell p1 id
  have x2 : W.cell? ⟨ob, 2, none⟩ = some (.int .i64 D) := ((block_cells hbox).1 2).trans rfl
  have x3 : W.cell? ⟨ob, 3, none⟩ = some (.int .i64 C) := ((block_cells hbox).1 3).trans rfl
  have hobW : ob < W.heap.size := lt_of_block hbox
  have hpbW2 : pb < W.heap.size := World.block_lt_of_cell? W _ q0
  have hobmb : ob ≠ mb := by have := HMB2.out.1; omega
  have hobgn : ob ≠ gn := by have := HMB2.out.2; omega
  have HWF : Hid (Fr New w W) := hWf
  clear hW hob hbox hWf p0 p1 hcb1 hpc HPK
  go_region_held3 (fun w' => w'.cell? ⟨pb, 0, none⟩ = some (.pointer (some ⟨hb, 0, none⟩)) ∧ w'.cell? ⟨ob, 2, none⟩ = some (.int .i64 D) ∧ w'.cell? ⟨ob, 3, none⟩ = some (.int .i64 C)) (first | go_keep | with_reducible exact hkeep1)
    (first
      | (go_at_call 39; refine (HPX2.out _ (by first | exact HWF.out | exact HWF.out.drew)).mono ?_; rintro e w1 ⟨r, x, c1, rfl, hR1, hP1, f1⟩; have f1' : Fr (fun k => k = mb) W w1 := (by first | exact f1 | exact f1.undrew); obtain ⟨y0, y1⟩ := HKX2.out W w1 HWF.out f1'; have z2 : w1.cell? ⟨ob, 2, none⟩ = some (.int .i64 D) := f1'.cell x2 hobmb; have z3 : w1.cell? ⟨ob, 3, none⟩ = some (.int .i64 C) := f1'.cell x3 hobmb; have hkeep1 : w1.cell? ⟨pb, 0, none⟩ = some (.pointer (some ⟨hb, 0, none⟩)) ∧ w1.cell? ⟨ob, 2, none⟩ = some (.int .i64 D) ∧ w1.cell? ⟨ob, 3, none⟩ = some (.int .i64 C) := ⟨y0, z2, z3⟩)
      | fail)
  all_goals
    clear hkeep1
    go_upto_region 19 with fail
    go_region_held3 (fun w' => w'.cell? ⟨pb, 1, none⟩ = some (.pointer (some ⟨rb, 0, none⟩)) ∧ w'.cell? ⟨ob, 2, none⟩ = some (.int .i64 D) ∧ w'.cell? ⟨ob, 3, none⟩ = some (.int .i64 C)) (first | go_keep | with_reducible exact hkeep2)
      (first
        | (go_at_call 77; refine (HRX2.out W _ HWF.out (by first | exact f1' | exact f1'.drew)).mono ?_; rintro e w2 ⟨r2, x2, c2, rfl, hR2, hP2, f2⟩; have f2' : Fr (fun k => k = gn) w1 w2 := (by first | exact f2 | exact f2.undrew); have y2 : w2.cell? ⟨pb, 1, none⟩ = some (.pointer (some ⟨rb, 0, none⟩)) := f2'.cell y1 HNE.out; have v2 : w2.cell? ⟨ob, 2, none⟩ = some (.int .i64 D) := f2'.cell z2 hobgn; have v3 : w2.cell? ⟨ob, 3, none⟩ = some (.int .i64 C) := f2'.cell z3 hobgn; have hkeep2 : w2.cell? ⟨pb, 1, none⟩ = some (.pointer (some ⟨rb, 0, none⟩)) ∧ w2.cell? ⟨ob, 2, none⟩ = some (.int .i64 D) ∧ w2.cell? ⟨ob, 3, none⟩ = some (.int .i64 C) := ⟨y2, v2, v3⟩; obtain ⟨rfl, rfl, rfl⟩ := HONE2.out _ _ _ _ _ _ hR1 hR2)
        | fail)
    all_goals
      go_wp2
      go_ret
      exact ⟨rfl, HEND2.out W w1 _ _ _ _ HWF.out hR1 hP1 f1' (by first | exact hP2 | exact HDR.out _ _ hP2) (by first | exact f2' | exact f2'.drew)⟩

set_option maxHeartbeats 8000000 in
set_option maxRecDepth 1000000 in
theorem step_write (B b N : Nat) (A D C V : Int) (Wa : Option Addr) (Wl Wc : Nat) (zs : List Int) (w : World) {col : Nat → Nat} {X : Rest} {c : Nat} {vws : Value} {nw : Nat} {xs : List Value} {vb : Value} {es : List Entry} {ps : List Nat} {ss os : List EntE}
    (S : StaX col X B b c N vws nw xs vb es ps ss os w) (hp : 0 < ps.length) (ho : OpOkX A D C V zs) :
    Calls Tryz.prog 42 #[.pointer (some ⟨b, 0, none⟩), opV 10 A D C V Wa Wl Wc] w fun e w' => e = .returned (.bool true) ∧ Below B w w' ∧ Sta B b (N + 200) w' := by
  obtain ⟨i, hi, hpk⟩ := pick_of A ps.length hp
  obtain ⟨gh, ch, hxh, hpc⟩ := S.s.pick hi
  obtain ⟨d, DD, hc1, hc0⟩ := S.s.du i hi
  have hbk : Wb w b vws (.slice (some ⟨gh, 0, none⟩) ps.length ch) c vb X.s X.o := hxh ▸ S.p.bk
  have hcb1 : w.cell? ⟨b, 1, none⟩ = some (.slice (some ⟨gh, 0, none⟩) ps.length ch) := ((block_cells hbk).1 1).trans rfl
  have hbW := S.p.lt
  have hghW : gh < w.heap.size := World.block_lt_of_cell? w _ hpc
  have HPK : Hid (∀ w, Calls Tryz.prog 74 #[.int .i64 A, .int .i64 ps.length] w fun e w' => e = .returned (.int .i64 (i : Int)) ∧ w' = w) := fun w => by have := lpick_any A ps.length w ho.a0 ho.a1 (by omega) (by have := S.s.few; omega); rwa [hpk] at this
  have HPX : Hid (∀ w', Fr New w w' → Calls Tryz.prog 26 #[.pointer (some ⟨d.hb, 0, none⟩), .int .i64 D, .int .i64 C, .int .u64 V] w' fun e w'' => ∃ (r : List Int) (x c : Int), e = .returned (.int .i64 c) ∧ (r = (writeS d.now D C V).1 ∧ x = (0 : Int) ∧ c = (writeS d.now D C V).2) ∧ PH d.hb d.tb d.cb d.mb d.g d.vs d.ws r d.st w'' ∧ Fr (fun k => k = d.mb) w' w'') := fun w' hf =>
    (hwrite_any d.hb d.tb d.cb d.mb d.g d.vs d.ws d.now d.st D C V w' ho.d0 ho.d1 ho.v (DD.ph.new hf)).mono (fun e w'' ⟨h1, h2, h3⟩ => ⟨_, 0, _, h1, ⟨rfl, rfl, rfl⟩, h2, h3⟩)
  have HRX : Hid (∀ w' w'', Fr New w w' → Fr (fun k => k = d.mb) w' w'' → Calls Tryz.prog 78 #[.pointer (some ⟨d.rb, 0, none⟩), .int .i64 D, .int .i64 C, .int .u64 V] w'' fun e w3 => ∃ (r : List Int) (x c : Int), e = .returned (.int .i64 c) ∧ (r = (writeS d.now D C V).1 ∧ x = (0 : Int) ∧ c = (writeS d.now D C V).2) ∧ RH d.rb d.gn d.cn d.L (.slice (some ⟨d.gw, 0, none⟩) d.L d.cw) d.vr r w3 ∧ Fr (fun k => k = d.gn) w'' w3) := fun w' w'' hf hf2 => by
    have hr := ((DD.new hf).rhMap hf2).rh
    exact (rwrite_any d.rb d.gn d.cn d.L _ d.vr d.now D C V w'' ho.d0 ho.d1 hr).mono (fun e w3 ⟨h1, h2, h3⟩ => ⟨_, 0, _, h1, ⟨rfl, rfl, rfl⟩, h2, h3⟩)
  have HONE : Hid (∀ r x c r2 x2 c2, (r = (writeS d.now D C V).1 ∧ x = (0 : Int) ∧ c = (writeS d.now D C V).2) → (r2 = (writeS d.now D C V).1 ∧ x2 = (0 : Int) ∧ c2 = (writeS d.now D C V).2) → r = r2 ∧ x = x2 ∧ c = c2) := fun r x c r2 x2 c2 h h2 => ⟨h.1.trans h2.1.symm, h.2.1.trans h2.2.1.symm, h.2.2.trans h2.2.2.symm⟩
  have HKX : Hid (∀ W w1, Fr New w W → Fr (fun k => k = d.mb) W w1 → w1.cell? ⟨ps[i], 0, none⟩ = some (.pointer (some ⟨d.hb, 0, none⟩)) ∧ w1.cell? ⟨ps[i], 1, none⟩ = some (.pointer (some ⟨d.rb, 0, none⟩))) := fun W w1 hf hf2 => by
    have D1 := DD.new hf
    exact ⟨hf2.cell D1.c0 (D1.ph.mapNe D1.blk), hf2.cell D1.c1 (D1.ph.mapNe D1.blk)⟩
  have HNE0 : Hid (ps[i] ≠ d.gn) := fun e => by obtain ⟨c, hc⟩ := DD.gt1; exact type_ne DD.blk hc (by decide) e
  have HDR0 : Hid (∀ r w', RH d.rb d.gn d.cn d.L (.slice (some ⟨d.gw, 0, none⟩) d.L d.cw) d.vr r w' → RH d.rb d.gn d.cn d.L (.slice (some ⟨d.gw, 0, none⟩) d.L d.cw) d.vr r w'.drew) := fun r w' h => h.fr ((Fr.refl New w').drew)
  have HMB : Hid (d.mb < w.heap.size ∧ d.gn < w.heap.size) := ⟨DD.ph.cg.lt, by obtain ⟨c, hc⟩ := DD.gt1; exact lt_of_block hc⟩
  have HEND : Hid (∀ W w1 w2 r x c, Fr New w W → (r = (writeS d.now D C V).1 ∧ x = (0 : Int) ∧ c = (writeS d.now D C V).2) → PH d.hb d.tb d.cb d.mb d.g d.vs d.ws r d.st w1 → Fr (fun k => k = d.mb) W w1 → RH d.rb d.gn d.cn d.L (.slice (some ⟨d.gw, 0, none⟩) d.L d.cw) d.vr r w2 → Fr (fun k => k = d.gn) w1 w2 → Below B w w2 ∧ Sta B b (N + 200) w2) := fun W w1 w2 r x c hf hR h1 f1 h2 f2 => by
    obtain ⟨q1, q2⟩ := (S.new hf).calls i hi (DD.new hf) hc1 hc0 h1 f1 h2 f2 ((fun r x c h => h.1 ▸ write_hw D C V DD.hw) r x c hR)
    exact ⟨(hf.below S.p.size (fun _ _ h => h)).trans q2, q1⟩
  have hnh : ps.length ≤ 4 := S.s.few
  have p0 := DD.c0
  have p1 := DD.c1
  obtain ⟨pb, hpb⟩ : ∃ pb, pb = ps[i] := ⟨_, rfl⟩
  rw [← hpb] at HKX p0 p1 hpc HNE0
  have hpbW : pb < w.heap.size := World.block_lt_of_cell? w _ p0
  obtain ⟨nh, hnl⟩ : ∃ nh, nh = ps.length := ⟨_, rfl⟩
  rw [← hnl] at hcb1 HPK hnh hp hi
  obtain ⟨hb, ehb⟩ : ∃ hb, hb = d.hb := ⟨_, rfl⟩
  obtain ⟨rb, erb⟩ : ∃ rb, rb = d.rb := ⟨_, rfl⟩
  obtain ⟨mb, emb⟩ : ∃ mb, mb = d.mb := ⟨_, rfl⟩
  obtain ⟨gn, egn⟩ : ∃ gn, gn = d.gn := ⟨_, rfl⟩
  obtain ⟨PHr, ePH⟩ : ∃ PHr : List Int → World → Prop, PHr = fun r w => PH d.hb d.tb d.cb d.mb d.g d.vs d.ws r d.st w := ⟨_, rfl⟩
  obtain ⟨RHr, eRH⟩ : ∃ RHr : List Int → World → Prop, RHr = fun r w => RH d.rb d.gn d.cn d.L (.slice (some ⟨d.gw, 0, none⟩) d.L d.cw) d.vr r w := ⟨_, rfl⟩
  obtain ⟨RR, eRR⟩ : ∃ RR : List Int → Int → Int → Prop, RR = fun r x c => (r = (writeS d.now D C V).1 ∧ x = (0 : Int) ∧ c = (writeS d.now D C V).2) := ⟨_, rfl⟩
  have HPX2 : Hid (∀ w', Fr New w w' → Calls Tryz.prog 26 #[.pointer (some ⟨hb, 0, none⟩), .int .i64 D, .int .i64 C, .int .u64 V] w' fun e w'' => ∃ (r : List Int) (x c : Int), e = .returned (.int .i64 c) ∧ RR r x c ∧ PHr r w'' ∧ Fr (fun k => k = mb) w' w'') := by rw [ehb, emb, ePH, eRR]; exact HPX
  have HRX2 : Hid (∀ w' w'', Fr New w w' → Fr (fun k => k = mb) w' w'' → Calls Tryz.prog 78 #[.pointer (some ⟨rb, 0, none⟩), .int .i64 D, .int .i64 C, .int .u64 V] w'' fun e w3 => ∃ (r : List Int) (x c : Int), e = .returned (.int .i64 c) ∧ RR r x c ∧ RHr r w3 ∧ Fr (fun k => k = gn) w'' w3) := by rw [erb, emb, egn, eRH, eRR]; exact HRX
  have HONE2 : Hid (∀ r x c r2 x2 c2, RR r x c → RR r2 x2 c2 → r = r2 ∧ x = x2 ∧ c = c2) := by rw [eRR]; exact HONE
  have HEND2 : Hid (∀ W w1 w2 r x c, Fr New w W → RR r x c → PHr r w1 → Fr (fun k => k = mb) W w1 → RHr r w2 → Fr (fun k => k = gn) w1 w2 → Below B w w2 ∧ Sta B b (N + 200) w2) := by rw [emb, egn, ePH, eRH, eRR]; exact HEND
  have HKX2 : Hid (∀ W w1, Fr New w W → Fr (fun k => k = mb) W w1 → w1.cell? ⟨pb, 0, none⟩ = some (.pointer (some ⟨hb, 0, none⟩)) ∧ w1.cell? ⟨pb, 1, none⟩ = some (.pointer (some ⟨rb, 0, none⟩))) := by rw [ehb, erb, emb]; exact HKX
  have HNE : Hid (pb ≠ gn) := by rw [egn]; exact HNE0
  have HDR : Hid (∀ r w', RHr r w' → RHr r w'.drew) := by rw [eRH]; exact HDR0
  have HMB2 : Hid (mb < w.heap.size ∧ gn < w.heap.size) := by rw [emb, egn]; exact HMB
  rw [← ehb] at p0
  rw [← erb] at p1
  clear HPX HRX HONE HEND HKX HMB HNE0 HDR0 ehb erb emb egn ePH eRH eRR hc1 hc0 DD S hbk hxh hpk hpb hnl
  have hj0 : (0 : Int) ≤ (i : Int) := by omega
  have hj1 : (i : Int) < (nh : Int) := by omega
  have hnz : ((nh : Int) == 0) = false := by simp; omega
  go_enter Tryz.func42, Tryz.ntmps42
  go_upto_region 7 with fail
  go_quiet (first | (go_at_call 74; exact Calls.quiet_of_same (HPK.out _)) | fail)
  go_upto_region 22 with fail
  have hob2 : ∃ W ob, W = (w.alloc (.cells #[.int .i64 10, .int .i64 A, .int .i64 D, .int .i64 C, .int .u64 V, .slice Wa Wl Wc] 91)).drewN nq ∧ ob = w.heap.size := ⟨_, _, rfl, rfl⟩
  obtain ⟨W, ob, hW, hob⟩ := hob2
  have hWf : Fr New w W := by rw [hW]; exact ((Fr.refl New w).alloc _).drewN _
  have hbox : W.heap[ob]? = some (.cells #[.int .i64 10, .int .i64 A, .int .i64 D, .int .i64 C, .int .u64 V, .slice Wa Wl Wc] 91 (0, 0)) := by rw [hW, hob]; exact Go.Deep.blk_alloc_new w _
  rw [← hW, ← hob]
  have q0 := hWf.cell p0 id
  have q1 := hWf.cell p1 id
  have x2 : W.cell? ⟨ob, 2, none⟩ = some (.int .i64 D) := ((block_cells hbox).1 2).trans rfl
  have x3 : W.cell? ⟨ob, 3, none⟩ = some (.int .i64 C) := ((block_cells hbox).1 3).trans rfl
  have x4 : W.cell? ⟨ob, 4, none⟩ = some (.int .u64 V) := ((block_cells hbox).1 4).trans rfl
  have hobW : ob < W.heap.size := lt_of_block hbox
  have hpbW2 : pb < W.heap.size := World.block_lt_of_cell? W _ q0
  have hobmb : ob ≠ mb := by have := HMB2.out.1; omega
  have hobgn : ob ≠ gn := by have := HMB2.out.2; omega
  have HWF : Hid (Fr New w W) := hWf
  clear hW hob hbox hWf p0 p1 hcb1 hpc HPK
  go_region_held3 (fun w' => w'.cell? ⟨pb, 0, none⟩ = some (.pointer (some ⟨hb, 0, none⟩)) ∧ w'.cell? ⟨ob, 2, none⟩ = some (.int .i64 D) ∧ w'.cell? ⟨ob, 3, none⟩ = some (.int .i64 C) ∧ w'.cell? ⟨ob, 4, none⟩ = some (.int .u64 V)) (first | go_keep | with_reducible exact hkeep1)
    (first
      | (go_at_call 26; refine (HPX2.out _ (by first | exact HWF.out | exact HWF.out.drew)).mono ?_; rintro e w1 ⟨r, x, c1, rfl, hR1, hP1, f1⟩; have f1' : Fr (fun k => k = mb) W w1 := (by first | exact f1 | exact f1.undrew); obtain ⟨y0, y1⟩ := HKX2.out W w1 HWF.out f1'; have z2 : w1.cell? ⟨ob, 2, none⟩ = some (.int .i64 D) := f1'.cell x2 hobmb; have z3 : w1.cell? ⟨ob, 3, none⟩ = some (.int .i64 C) := f1'.cell x3 hobmb; have z4 : w1.cell? ⟨ob, 4, none⟩ = some (.int .u64 V) := f1'.cell x4 hobmb; have hkeep1 : w1.cell? ⟨pb, 0, none⟩ = some (.pointer (some ⟨hb, 0, none⟩)) ∧ w1.cell? ⟨ob, 2, none⟩ = some (.int .i64 D) ∧ w1.cell? ⟨ob, 3, none⟩ = some (.int .i64 C) ∧ w1.cell? ⟨ob, 4, none⟩ = some (.int .u64 V) := ⟨y0, z2, z3, z4⟩)
      | fail)
  all_goals
    clear hkeep1
    go_upto_region 23 with fail
    go_region_held3 (fun w' => w'.cell? ⟨pb, 1, none⟩ = some (.pointer (some ⟨rb, 0, none⟩)) ∧ w'.cell? ⟨ob, 2, none⟩ = some (.int .i64 D) ∧ w'.cell? ⟨ob, 3, none⟩ = some (.int .i64 C) ∧ w'.cell? ⟨ob, 4, none⟩ = some (.int .u64 V)) (first | go_keep | with_reducible exact hkeep2)
      (first
        | (go_at_call 78; refine (HRX2.out W _ HWF.out (by first | exact f1' | exact f1'.drew)).mono ?_; rintro e w2 ⟨r2, x2, c2, rfl, hR2, hP2, f2⟩; have f2' : Fr (fun k => k = gn) w1 w2 := (by first | exact f2 | exact f2.undrew); have y2 : w2.cell? ⟨pb, 1, none⟩ = some (.pointer (some ⟨rb, 0, none⟩)) := f2'.cell y1 HNE.out; have v2 : w2.cell? ⟨ob, 2, none⟩ = some (.int .i64 D) := f2'.cell z2 hobgn; have v3 : w2.cell? ⟨ob, 3, none⟩ = some (.int .i64 C) := f2'.cell z3 hobgn; have v4 : w2.cell? ⟨ob, 4, none⟩ = some (.int .u64 V) := f2'.cell z4 hobgn; have hkeep2 : w2.cell? ⟨pb, 1, none⟩ = some (.pointer (some ⟨rb, 0, none⟩)) ∧ w2.cell? ⟨ob, 2, none⟩ = some (.int .i64 D) ∧ w2.cell? ⟨ob, 3, none⟩ = some (.int .i64 C) ∧ w2.cell? ⟨ob, 4, none⟩ = some (.int .u64 V) := ⟨y2, v2, v3, v4⟩; obtain ⟨rfl, rfl, rfl⟩ := HONE2.out _ _ _ _ _ _ hR1 hR2)
        | fail)
    all_goals
      go_wp2
      go_ret
      exact ⟨rfl, HEND2.out W w1 _ _ _ _ HWF.out hR1 hP1 f1' (by first | exact hP2 | exact HDR.out _ _ hP2) (by first | exact f2' | exact f2'.drew)⟩

set_option maxHeartbeats 8000000 in
set_option maxRecDepth 1000000 in
theorem step_root (B b N : Nat) (A D C V : Int) (Wa : Option Addr) (Wl Wc : Nat) (zs : List Int) (w : World) {col : Nat → Nat} {X : Rest} {c : Nat} {vws : Value} {nw : Nat} {xs : List Value} {vb : Value} {es : List Entry} {ps : List Nat} {ss os : List EntE}
    (S : StaX col X B b c N vws nw xs vb es ps ss os w) (hp : 0 < ps.length) (ho : OpOkX A D C V zs) :
    Calls Tryz.prog 42 #[.pointer (some ⟨b, 0, none⟩), opV 11 A D C V Wa Wl Wc] w fun e w' => e = .returned (.bool true) ∧ Below B w w' ∧ Sta B b (N + 200) w' := by
  obtain ⟨i, hi, hpk⟩ := pick_of A ps.length hp
  obtain ⟨gh, ch, hxh, hpc⟩ := S.s.pick hi
  obtain ⟨d, DD, hc1, hc0⟩ := S.s.du i hi
  have hbk : Wb w b vws (.slice (some ⟨gh, 0, none⟩) ps.length ch) c vb X.s X.o := hxh ▸ S.p.bk
  have hcb1 : w.cell? ⟨b, 1, none⟩ = some (.slice (some ⟨gh, 0, none⟩) ps.length ch) := ((block_cells hbk).1 1).trans rfl
  have hbW := S.p.lt
  have hghW : gh < w.heap.size := World.block_lt_of_cell? w _ hpc
  have HPK : Hid (∀ w, Calls Tryz.prog 74 #[.int .i64 A, .int .i64 ps.length] w fun e w' => e = .returned (.int .i64 (i : Int)) ∧ w' = w) := fun w => by have := lpick_any A ps.length w ho.a0 ho.a1 (by omega) (by have := S.s.few; omega); rwa [hpk] at this
  have HPX : Hid (∀ w', Fr New w w' → Calls Tryz.prog 41 #[.pointer (some ⟨d.hb, 0, none⟩), .int .i64 D] w' fun e w'' => ∃ (r : List Int) (x c : Int), e = .returned (.tuple #[.int .i64 x, .int .i64 c]) ∧ (r = d.now ∧ x = (rootS d.now D).1 ∧ c = (rootS d.now D).2) ∧ PH d.hb d.tb d.cb d.mb d.g d.vs d.ws r d.st w'' ∧ Fr (fun k => k = d.mb) w' w'') := fun w' hf =>
    (hroot_any d.hb d.tb d.cb d.mb d.g d.vs d.ws d.now d.st D w' (DD.ph.new hf)).mono (fun e w'' ⟨h1, h2⟩ => ⟨d.now, _, _, h1, ⟨rfl, rfl, rfl⟩, by rw [h2]; exact DD.ph.new hf, by rw [h2]; exact Fr.refl _ _⟩)
  have HRX : Hid (∀ w' w'', Fr New w w' → Fr (fun k => k = d.mb) w' w'' → Calls Tryz.prog 79 #[.pointer (some ⟨d.rb, 0, none⟩), .int .i64 D] w'' fun e w3 => ∃ (r : List Int) (x c : Int), e = .returned (.tuple #[.int .i64 x, .int .i64 c]) ∧ (r = d.now ∧ x = (rootS d.now D).1 ∧ c = (rootS d.now D).2) ∧ RH d.rb d.gn d.cn d.L (.slice (some ⟨d.gw, 0, none⟩) d.L d.cw) d.vr r w3 ∧ Fr (fun k => k = d.gn) w'' w3) := fun w' w'' hf hf2 => by
    have hr := ((DD.new hf).rhMap hf2).rh
    exact (rroot_any d.rb d.gn d.cn d.L _ d.vr d.now D w'' hr).mono (fun e w3 ⟨h1, h2⟩ => ⟨d.now, _, _, h1, ⟨rfl, rfl, rfl⟩, by rw [h2]; exact hr, by rw [h2]; exact Fr.refl _ _⟩)
  have HONE : Hid (∀ r x c r2 x2 c2, (r = d.now ∧ x = (rootS d.now D).1 ∧ c = (rootS d.now D).2) → (r2 = d.now ∧ x2 = (rootS d.now D).1 ∧ c2 = (rootS d.now D).2) → r = r2 ∧ x = x2 ∧ c = c2) := fun r x c r2 x2 c2 h h2 => ⟨h.1.trans h2.1.symm, h.2.1.trans h2.2.1.symm, h.2.2.trans h2.2.2.symm⟩
  have HKX : Hid (∀ W w1, Fr New w W → Fr (fun k => k = d.mb) W w1 → w1.cell? ⟨ps[i], 0, none⟩ = some (.pointer (some ⟨d.hb, 0, none⟩)) ∧ w1.cell? ⟨ps[i], 1, none⟩ = some (.pointer (some ⟨d.rb, 0, none⟩))) := fun W w1 hf hf2 => by
    have D1 := DD.new hf
    exact ⟨hf2.cell D1.c0 (D1.ph.mapNe D1.blk), hf2.cell D1.c1 (D1.ph.mapNe D1.blk)⟩
  have HNE0 : Hid (ps[i] ≠ d.gn) := fun e => by obtain ⟨c, hc⟩ := DD.gt1; exact type_ne DD.blk hc (by decide) e
  have HDR0 : Hid (∀ r w', RH d.rb d.gn d.cn d.L (.slice (some ⟨d.gw, 0, none⟩) d.L d.cw) d.vr r w' → RH d.rb d.gn d.cn d.L (.slice (some ⟨d.gw, 0, none⟩) d.L d.cw) d.vr r w'.drew) := fun r w' h => h.fr ((Fr.refl New w').drew)
  have HMB : Hid (d.mb < w.heap.size ∧ d.gn < w.heap.size) := ⟨DD.ph.cg.lt, by obtain ⟨c, hc⟩ := DD.gt1; exact lt_of_block hc⟩
  have HEND : Hid (∀ W w1 w2 r x c, Fr New w W → (r = d.now ∧ x = (rootS d.now D).1 ∧ c = (rootS d.now D).2) → PH d.hb d.tb d.cb d.mb d.g d.vs d.ws r d.st w1 → Fr (fun k => k = d.mb) W w1 → RH d.rb d.gn d.cn d.L (.slice (some ⟨d.gw, 0, none⟩) d.L d.cw) d.vr r w2 → Fr (fun k => k = d.gn) w1 w2 → Below B w w2 ∧ Sta B b (N + 200) w2) := fun W w1 w2 r x c hf hR h1 f1 h2 f2 => by
    obtain ⟨q1, q2⟩ := (S.new hf).calls i hi (DD.new hf) hc1 hc0 h1 f1 h2 f2 ((fun r x c h => h.1 ▸ DD.hw) r x c hR)
    exact ⟨(hf.below S.p.size (fun _ _ h => h)).trans q2, q1⟩
  have hnh : ps.length ≤ 4 := S.s.few
  have p0 := DD.c0
  have p1 := DD.c1
  obtain ⟨pb, hpb⟩ : ∃ pb, pb = ps[i] := ⟨_, rfl⟩
  rw [← hpb] at HKX p0 p1 hpc HNE0
  have hpbW : pb < w.heap.size := World.block_lt_of_cell? w _ p0
  obtain ⟨nh, hnl⟩ : ∃ nh, nh = ps.length := ⟨_, rfl⟩
  rw [← hnl] at hcb1 HPK hnh hp hi
  obtain ⟨hb, ehb⟩ : ∃ hb, hb = d.hb := ⟨_, rfl⟩
  obtain ⟨rb, erb⟩ : ∃ rb, rb = d.rb := ⟨_, rfl⟩
  obtain ⟨mb, emb⟩ : ∃ mb, mb = d.mb := ⟨_, rfl⟩
  obtain ⟨gn, egn⟩ : ∃ gn, gn = d.gn := ⟨_, rfl⟩
  obtain ⟨PHr, ePH⟩ : ∃ PHr : List Int → World → Prop, PHr = fun r w => PH d.hb d.tb d.cb d.mb d.g d.vs d.ws r d.st w := ⟨_, rfl⟩
  obtain ⟨RHr, eRH⟩ : ∃ RHr : List Int → World → Prop, RHr = fun r w => RH d.rb d.gn d.cn d.L (.slice (some ⟨d.gw, 0, none⟩) d.L d.cw) d.vr r w := ⟨_, rfl⟩
  obtain ⟨RR, eRR⟩ : ∃ RR : List Int → Int → Int → Prop, RR = fun r x c => (r = d.now ∧ x = (rootS d.now D).1 ∧ c = (rootS d.now D).2) := ⟨_, rfl⟩
  have HPX2 : Hid (∀ w', Fr New w w' → Calls Tryz.prog 41 #[.pointer (some ⟨hb, 0, none⟩), .int .i64 D] w' fun e w'' => ∃ (r : List Int) (x c : Int), e = .returned (.tuple #[.int .i64 x, .int .i64 c]) ∧ RR r x c ∧ PHr r w'' ∧ Fr (fun k => k = mb) w' w'') := by rw [ehb, emb, ePH, eRR]; exact HPX
  have HRX2 : Hid (∀ w' w'', Fr New w w' → Fr (fun k => k = mb) w' w'' → Calls Tryz.prog 79 #[.pointer (some ⟨rb, 0, none⟩), .int .i64 D] w'' fun e w3 => ∃ (r : List Int) (x c : Int), e = .returned (.tuple #[.int .i64 x, .int .i64 c]) ∧ RR r x c ∧ RHr r w3 ∧ Fr (fun k => k = gn) w'' w3) := by rw [erb, emb, egn, eRH, eRR]; exact HRX
  have HONE2 : Hid (∀ r x c r2 x2 c2, RR r x c → RR r2 x2 c2 → r = r2 ∧ x = x2 ∧ c = c2) := by rw [eRR]; exact HONE
  have HEND2 : Hid (∀ W w1 w2 r x c, Fr New w W → RR r x c → PHr r w1 → Fr (fun k => k = mb) W w1 → RHr r w2 → Fr (fun k => k = gn) w1 w2 → Below B w w2 ∧ Sta B b (N + 200) w2) := by rw [emb, egn, ePH, eRH, eRR]; exact HEND
  have HKX2 : Hid (∀ W w1, Fr New w W → Fr (fun k => k = mb) W w1 → w1.cell? ⟨pb, 0, none⟩ = some (.pointer (some ⟨hb, 0, none⟩)) ∧ w1.cell? ⟨pb, 1, none⟩ = some (.pointer (some ⟨rb, 0, none⟩))) := by rw [ehb, erb, emb]; exact HKX
  have HNE : Hid (pb ≠ gn) := by rw [egn]; exact HNE0
  have HDR : Hid (∀ r w', RHr r w' → RHr r w'.drew) := by rw [eRH]; exact HDR0
  have HMB2 : Hid (mb < w.heap.size ∧ gn < w.heap.size) := by rw [emb, egn]; exact HMB
  rw [← ehb] at p0
  rw [← erb] at p1
  clear HPX HRX HONE HEND HKX HMB HNE0 HDR0 ehb erb emb egn ePH eRH eRR hc1 hc0 DD S hbk hxh hpk hpb hnl
  have hj0 : (0 : Int) ≤ (i : Int) := by omega
  have hj1 : (i : Int) < (nh : Int) := by omega
  have hnz : ((nh : Int) == 0) = false := by simp; omega
  go_enter Tryz.func42, Tryz.ntmps42
  go_upto_region 7 with fail
  go_quiet (first | (go_at_call 74; exact Calls.quiet_of_same (HPK.out _)) | fail)
  go_upto_region 26 with fail
  have hob2 : ∃ W ob, W = (w.alloc (.cells #[.int .i64 11, .int .i64 A, .int .i64 D, .int .i64 C, .int .u64 V, .slice Wa Wl Wc] 91)).drewN nq ∧ ob = w.heap.size := ⟨_, _, rfl, rfl⟩
  obtain ⟨W, ob, hW, hob⟩ := hob2
  have hWf : Fr New w W := by rw [hW]; exact ((Fr.refl New w).alloc _).drewN _
  have hbox : W.heap[ob]? = some (.cells #[.int .i64 11, .int .i64 A, .int .i64 D, .int .i64 C, .int .u64 V, .slice Wa Wl Wc] 91 (0, 0)) := by rw [hW, hob]; exact Go.Deep.blk_alloc_new w _
  rw [← hW, ← hob]
  have q0 := hWf.cell p0 id
  have q1 := hWf.cell p1 id
  have x2 : W.cell? ⟨ob, 2, none⟩ = some (.int .i64 D) := ((block_cells hbox).1 2).trans rfl
  have hobW : ob < W.heap.size := lt_of_block hbox
  have hpbW2 : pb < W.heap.size := World.block_lt_of_cell? W _ q0
  have hobmb : ob ≠ mb := by have := HMB2.out.1; omega
  have hobgn : ob ≠ gn := by have := HMB2.out.2; omega
  have HWF : Hid (Fr New w W) := hWf
  clear hW hob hbox hWf p0 p1 hcb1 hpc HPK
  go_region_held3 (fun w' => w'.cell? ⟨pb, 0, none⟩ = some (.pointer (some ⟨hb, 0, none⟩)) ∧ w'.cell? ⟨ob, 2, none⟩ = some (.int .i64 D)) (first | go_keep | with_reducible exact hkeep1)
    (first
      | (go_at_call 41; refine (HPX2.out _ (by first | exact HWF.out | exact HWF.out.drew)).mono ?_; rintro e w1 ⟨r, x, c1, rfl, hR1, hP1, f1⟩; have f1' : Fr (fun k => k = mb) W w1 := (by first | exact f1 | exact f1.undrew); obtain ⟨y0, y1⟩ := HKX2.out W w1 HWF.out f1'; have z2 : w1.cell? ⟨ob, 2, none⟩ = some (.int .i64 D) := f1'.cell x2 hobmb; have hkeep1 : w1.cell? ⟨pb, 0, none⟩ = some (.pointer (some ⟨hb, 0, none⟩)) ∧ w1.cell? ⟨ob, 2, none⟩ = some (.int .i64 D) := ⟨y0, z2⟩)
      | fail)
  all_goals
    clear hkeep1
    go_upto_region 27 with fail
    go_region_held3 (fun w' => w'.cell? ⟨pb, 1, none⟩ = some (.pointer (some ⟨rb, 0, none⟩)) ∧ w'.cell? ⟨ob, 2, none⟩ = some (.int .i64 D)) (first | go_keep | with_reducible exact hkeep2)
      (first
        | (go_at_call 79; refine (HRX2.out W _ HWF.out (by first | exact f1' | exact f1'.drew)).mono ?_; rintro e w2 ⟨r2, x2, c2, rfl, hR2, hP2, f2⟩; have f2' : Fr (fun k => k = gn) w1 w2 := (by first | exact f2 | exact f2.undrew); have y2 : w2.cell? ⟨pb, 1, none⟩ = some (.pointer (some ⟨rb, 0, none⟩)) := f2'.cell y1 HNE.out; have v2 : w2.cell? ⟨ob, 2, none⟩ = some (.int .i64 D) := f2'.cell z2 hobgn; have hkeep2 : w2.cell? ⟨pb, 1, none⟩ = some (.pointer (some ⟨rb, 0, none⟩)) ∧ w2.cell? ⟨ob, 2, none⟩ = some (.int .i64 D) := ⟨y2, v2⟩; obtain ⟨rfl, rfl, rfl⟩ := HONE2.out _ _ _ _ _ _ hR1 hR2)
        | fail)
    all_goals
      go_wp2
      go_ret
      exact ⟨rfl, HEND2.out W w1 _ _ _ _ HWF.out hR1 hP1 f1' (by first | exact hP2 | exact HDR.out _ _ hP2) (by first | exact f2' | exact f2'.drew)⟩

set_option maxHeartbeats 8000000 in
set_option maxRecDepth 1000000 in
theorem step_setRoot (B b N : Nat) (A D C V : Int) (Wa : Option Addr) (Wl Wc : Nat) (zs : List Int) (w : World) {col : Nat → Nat} {X : Rest} {c : Nat} {vws : Value} {nw : Nat} {xs : List Value} {vb : Value} {es : List Entry} {ps : List Nat} {ss os : List EntE}
    (S : StaX col X B b c N vws nw xs vb es ps ss os w) (hp : 0 < ps.length) (ho : OpOkX A D C V zs) :
    Calls Tryz.prog 42 #[.pointer (some ⟨b, 0, none⟩), opV 12 A D C V Wa Wl Wc] w fun e w' => e = .returned (.bool true) ∧ Below B w w' ∧ Sta B b (N + 200) w' := by
  obtain ⟨i, hi, hpk⟩ := pick_of A ps.length hp
  obtain ⟨gh, ch, hxh, hpc⟩ := S.s.pick hi
  obtain ⟨d, DD, hc1, hc0⟩ := S.s.du i hi
  have hbk : Wb w b vws (.slice (some ⟨gh, 0, none⟩) ps.length ch) c vb X.s X.o := hxh ▸ S.p.bk
  have hcb1 : w.cell? ⟨b, 1, none⟩ = some (.slice (some ⟨gh, 0, none⟩) ps.length ch) := ((block_cells hbk).1 1).trans rfl
  have hbW := S.p.lt
  have hghW : gh < w.heap.size := World.block_lt_of_cell? w _ hpc
  have HPK : Hid (∀ w, Calls Tryz.prog 74 #[.int .i64 A, .int .i64 ps.length] w fun e w' => e = .returned (.int .i64 (i : Int)) ∧ w' = w) := fun w => by have := lpick_any A ps.length w ho.a0 ho.a1 (by omega) (by have := S.s.few; omega); rwa [hpk] at this
  have HPX : Hid (∀ w', Fr New w w' → Calls Tryz.prog 35 #[.pointer (some ⟨d.hb, 0, none⟩), .int .i64 D, .int .i64 C] w' fun e w'' => ∃ (r : List Int) (x c : Int), e = .returned (.int .i64 c) ∧ (r = (setRootS d.now D C).1 ∧ x = (0 : Int) ∧ c = (setRootS d.now D C).2) ∧ PH d.hb d.tb d.cb d.mb d.g d.vs d.ws r d.st w'' ∧ Fr (fun k => k = d.mb) w' w'') := fun w' hf =>
    (hsetRoot_any d.hb d.tb d.cb d.mb d.g d.vs d.ws d.now d.st D C w' ho.c0 ho.c1 (DD.ph.new hf)).mono (fun e w'' ⟨h1, h2, h3⟩ => ⟨_, 0, _, h1, ⟨rfl, rfl, rfl⟩, h2, h3⟩)
  have HRX : Hid (∀ w' w'', Fr New w w' → Fr (fun k => k = d.mb) w' w'' → Calls Tryz.prog 80 #[.pointer (some ⟨d.rb, 0, none⟩), .int .i64 D, .int .i64 C] w'' fun e w3 => ∃ (r : List Int) (x c : Int), e = .returned (.int .i64 c) ∧ (r = (setRootS d.now D C).1 ∧ x = (0 : Int) ∧ c = (setRootS d.now D C).2) ∧ RH d.rb d.gn d.cn d.L (.slice (some ⟨d.gw, 0, none⟩) d.L d.cw) d.vr r w3 ∧ Fr (fun k => k = d.gn) w'' w3) := fun w' w'' hf hf2 => by
    have hr := ((DD.new hf).rhMap hf2).rh
    exact (rsetRoot_any d.rb d.gn d.cn d.L _ d.vr d.now D C w'' ho.c0 ho.c1 hr).mono (fun e w3 ⟨h1, h2, h3⟩ => ⟨_, 0, _, h1, ⟨rfl, rfl, rfl⟩, h2, h3⟩)
  have HONE : Hid (∀ r x c r2 x2 c2, (r = (setRootS d.now D C).1 ∧ x = (0 : Int) ∧ c = (setRootS d.now D C).2) → (r2 = (setRootS d.now D C).1 ∧ x2 = (0 : Int) ∧ c2 = (setRootS d.now D C).2) → r = r2 ∧ x = x2 ∧ c = c2) := fun r x c r2 x2 c2 h h2 => ⟨h.1.trans h2.1.symm, h.2.1.trans h2.2.1.symm, h.2.2.trans h2.2.2.symm⟩
  have HKX : Hid (∀ W w1, Fr New w W → Fr (fun k => k = d.mb) W w1 → w1.cell? ⟨ps[i], 0, none⟩ = some (.pointer (some ⟨d.hb, 0, none⟩)) ∧ w1.cell? ⟨ps[i], 1, none⟩ = some (.pointer (some ⟨d.rb, 0, none⟩))) := fun W w1 hf hf2 => by
    have D1 := DD.new hf
    exact ⟨hf2.cell D1.c0 (D1.ph.mapNe D1.blk), hf2.cell D1.c1 (D1.ph.mapNe D1.blk)⟩
  have HNE0 : Hid (ps[i] ≠ d.gn) := fun e => by obtain ⟨c, hc⟩ := DD.gt1; exact type_ne DD.blk hc (by decide) e
  have HDR0 : Hid (∀ r w', RH d.rb d.gn d.cn d.L (.slice (some ⟨d.gw, 0, none⟩) d.L d.cw) d.vr r w' → RH d.rb d.gn d.cn d.L (.slice (some ⟨d.gw, 0, none⟩) d.L d.cw) d.vr r w'.drew) := fun r w' h => h.fr ((Fr.refl New w').drew)
  have HMB : Hid (d.mb < w.heap.size ∧ d.gn < w.heap.size) := ⟨DD.ph.cg.lt, by obtain ⟨c, hc⟩ := DD.gt1; exact lt_of_block hc⟩
  have HEND : Hid (∀ W w1 w2 r x c, Fr New w W → (r = (setRootS d.now D C).1 ∧ x = (0 : Int) ∧ c = (setRootS d.now D C).2) → PH d.hb d.tb d.cb d.mb d.g d.vs d.ws r d.st w1 → Fr (fun k => k = d.mb) W w1 → RH d.rb d.gn d.cn d.L (.slice (some ⟨d.gw, 0, none⟩) d.L d.cw) d.vr r w2 → Fr (fun k => k = d.gn) w1 w2 → Below B w w2 ∧ Sta B b (N + 200) w2) := fun W w1 w2 r x c hf hR h1 f1 h2 f2 => by
    obtain ⟨q1, q2⟩ := (S.new hf).calls i hi (DD.new hf) hc1 hc0 h1 f1 h2 f2 ((fun r x c h => h.1 ▸ setRoot_hw D C DD.hw) r x c hR)
    exact ⟨(hf.below S.p.size (fun _ _ h => h)).trans q2, q1⟩
  have hnh : ps.length ≤ 4 := S.s.few
  have p0 := DD.c0
  have p1 := DD.c1
  obtain ⟨pb, hpb⟩ : ∃ pb, pb = ps[i] := ⟨_, rfl⟩
  rw [← hpb] at HKX p0 p1 hpc HNE0
  have hpbW : pb < w.heap.size := World.block_lt_of_cell? w _ p0
  obtain ⟨nh, hnl⟩ : ∃ nh, nh = ps.length := ⟨_, rfl⟩
  rw [← hnl] at hcb1 HPK hnh hp hi
  obtain ⟨hb, ehb⟩ : ∃ hb, hb = d.hb := ⟨_, rfl⟩
  obtain ⟨rb, erb⟩ : ∃ rb, rb = d.rb := ⟨_, rfl⟩
  obtain ⟨mb, emb⟩ : ∃ mb, mb = d.mb := ⟨_, rfl⟩
  obtain ⟨gn, egn⟩ : ∃ gn, gn = d.gn := ⟨_, rfl⟩
  obtain ⟨PHr, ePH⟩ : ∃ PHr : List Int → World → Prop, PHr = fun r w => PH d.hb d.tb d.cb d.mb d.g d.vs d.ws r d.st w := ⟨_, rfl⟩
  obtain ⟨RHr, eRH⟩ : ∃ RHr : List Int → World → Prop, RHr = fun r w => RH d.rb d.gn d.cn d.L (.slice (some ⟨d.gw, 0, none⟩) d.L d.cw) d.vr r w := ⟨_, rfl⟩
  obtain ⟨RR, eRR⟩ : ∃ RR : List Int → Int → Int → Prop, RR = fun r x c => (r = (setRootS d.now D C).1 ∧ x = (0 : Int) ∧ c = (setRootS d.now D C).2) := ⟨_, rfl⟩
  have HPX2 : Hid (∀ w', Fr New w w' → Calls Tryz.prog 35 #[.pointer (some ⟨hb, 0, none⟩), .int .i64 D, .int .i64 C] w' fun e w'' => ∃ (r : List Int) (x c : Int), e = .returned (.int .i64 c) ∧ RR r x c ∧ PHr r w'' ∧ Fr (fun k => k = mb) w' w'') := by rw [ehb, emb, ePH, eRR]; exact HPX
  have HRX2 : Hid (∀ w' w'', Fr New w w' → Fr (fun k => k = mb) w' w'' → Calls Tryz.prog 80 #[.pointer (some ⟨rb, 0, none⟩), .int .i64 D, .int .i64 C] w'' fun e w3 => ∃ (r : List Int) (x c : Int), e = .returned (.int .i64 c) ∧ RR r x c ∧ RHr r w3 ∧ Fr (fun k => k = gn) w'' w3) := by rw [erb, emb, egn, eRH, eRR]; exact HRX
  have HONE2 : Hid (∀ r x c r2 x2 c2, RR r x c → RR r2 x2 c2 → r = r2 ∧ x = x2 ∧ c = c2) := by rw [eRR]; exact HONE
  have HEND2 : Hid (∀ W w1 w2 r x c, Fr New w W → RR r x c → PHr r w1 → Fr (fun k => k = mb) W w1 → RHr r w2 → Fr (fun k => k = gn) w1 w2 → Below B w w2 ∧ Sta B b (N + 200) w2) := by rw [emb, egn, ePH, eRH, eRR]; exact HEND
  have HKX2 : Hid (∀ W w1, Fr New w W → Fr (fun k => k = mb) W w1 → w1.cell? ⟨pb, 0, none⟩ = some (.pointer (some ⟨hb, 0, none⟩)) ∧ w1.cell? ⟨pb, 1, none⟩ = some (.pointer (some ⟨rb, 0, none⟩))) := by rw [ehb, erb, emb]; exact HKX
  have HNE : Hid (pb ≠ gn) := by rw [egn]; exact HNE0
  have HDR : Hid (∀ r w', RHr r w' → RHr r w'.drew) := by rw [eRH]; exact HDR0
  have HMB2 : Hid (mb < w.heap.size ∧ gn < w.heap.size) := by rw [emb, egn]; exact HMB
  rw [← ehb] at p0
  rw [← erb] at p1
  clear HPX HRX HONE HEND HKX HMB HNE0 HDR0 ehb erb emb egn ePH eRH eRR hc1 hc0 DD S hbk hxh hpk hpb hnl
  have hj0 : (0 : Int) ≤ (i : Int) := by omega
  have hj1 : (i : Int) < (nh : Int) := by omega
  have hnz : ((nh : Int) == 0) = false := by simp; omega
  go_enter Tryz.func42, Tryz.ntmps42
  go_upto_region 7 with fail
  go_quiet (first | (go_at_call 74; exact Calls.quiet_of_same (HPK.out _)) | fail)
  go_upto_region 30 with fail
  have hob2 : ∃ W ob, W = (w.alloc (.cells #[.int .i64 12, .int .i64 A, .int .i64 D, .int .i64 C, .int .u64 V, .slice Wa Wl Wc] 91)).drewN nq ∧ ob = w.heap.size := ⟨_, _, rfl, rfl⟩
  obtain ⟨W, ob, hW, hob⟩ := hob2
  have hWf : Fr New w W := by rw [hW]; exact ((Fr.refl New w).alloc _).drewN _
  have hbox : W.heap[ob]? = some (.cells #[.int .i64 12, .int .i64 A, .int .i64 D, .int .i64 C, .int .u64 V, .slice Wa Wl Wc] 91 (0, 0)) := by rw [hW, hob]; exact Go.Deep.blk_alloc_new w _
  rw [← hW, ← hob]
  have q0 := hWf.cell p0 id
  have q1 := hWf.cell p1 id
  have x2 : W.cell? ⟨ob, 2, none⟩ = some (.int .i64 D) := ((block_cells hbox).1 2).trans rfl
  have x3 : W.cell? ⟨ob, 3, none⟩ = some (.int .i64 C) := ((block_cells hbox).1 3).trans rfl
  have hobW : ob < W.heap.size := lt_of_block hbox
  have hpbW2 : pb < W.heap.size := World.block_lt_of_cell? W _ q0
  have hobmb : ob ≠ mb := by have := HMB2.out.1; omega
  have hobgn : ob ≠ gn := by have := HMB2.out.2; omega
  have HWF : Hid (Fr New w W) := hWf
  clear hW hob hbox hWf p0 p1 hcb1 hpc HPK
  go_region_held3 (fun w' => w'.cell? ⟨pb, 0, none⟩ = some (.pointer (some ⟨hb, 0, none⟩)) ∧ w'.cell? ⟨ob, 2, none⟩ = some (.int .i64 D) ∧ w'.cell? ⟨ob, 3, none⟩ = some (.int .i64 C)) (first | go_keep | with_reducible exact hkeep1)
    (first
      | (go_at_call 35; refine (HPX2.out _ (by first | exact HWF.out | exact HWF.out.drew)).mono ?_; rintro e w1 ⟨r, x, c1, rfl, hR1, hP1, f1⟩; have f1' : Fr (fun k => k = mb) W w1 := (by first | exact f1 | exact f1.undrew); obtain ⟨y0, y1⟩ := HKX2.out W w1 HWF.out f1'; have z2 : w1.cell? ⟨ob, 2, none⟩ = some (.int .i64 D) := f1'.cell x2 hobmb; have z3 : w1.cell? ⟨ob, 3, none⟩ = some (.int .i64 C) := f1'.cell x3 hobmb; have hkeep1 : w1.cell? ⟨pb, 0, none⟩ = some (.pointer (some ⟨hb, 0, none⟩)) ∧ w1.cell? ⟨ob, 2, none⟩ = some (.int .i64 D) ∧ w1.cell? ⟨ob, 3, none⟩ = some (.int .i64 C) := ⟨y0, z2, z3⟩)
      | fail)
  all_goals
    clear hkeep1
    go_upto_region 31 with fail
    go_region_held3 (fun w' => w'.cell? ⟨pb, 1, none⟩ = some (.pointer (some ⟨rb, 0, none⟩)) ∧ w'.cell? ⟨ob, 2, none⟩ = some (.int .i64 D) ∧ w'.cell? ⟨ob, 3, none⟩ = some (.int .i64 C)) (first | go_keep | with_reducible exact hkeep2)
      (first
        | (go_at_call 80; refine (HRX2.out W _ HWF.out (by first | exact f1' | exact f1'.drew)).mono ?_; rintro e w2 ⟨r2, x2, c2, rfl, hR2, hP2, f2⟩; have f2' : Fr (fun k => k = gn) w1 w2 := (by first | exact f2 | exact f2.undrew); have y2 : w2.cell? ⟨pb, 1, none⟩ = some (.pointer (some ⟨rb, 0, none⟩)) := f2'.cell y1 HNE.out; have v2 : w2.cell? ⟨ob, 2, none⟩ = some (.int .i64 D) := f2'.cell z2 hobgn; have v3 : w2.cell? ⟨ob, 3, none⟩ = some (.int .i64 C) := f2'.cell z3 hobgn; have hkeep2 : w2.cell? ⟨pb, 1, none⟩ = some (.pointer (some ⟨rb, 0, none⟩)) ∧ w2.cell? ⟨ob, 2, none⟩ = some (.int .i64 D) ∧ w2.cell? ⟨ob, 3, none⟩ = some (.int .i64 C) := ⟨y2, v2, v3⟩; obtain ⟨rfl, rfl, rfl⟩ := HONE2.out _ _ _ _ _ _ hR1 hR2)
        | fail)
    all_goals
      go_wp2
      go_ret
      exact ⟨rfl, HEND2.out W w1 _ _ _ _ HWF.out hR1 hP1 f1' (by first | exact hP2 | exact HDR.out _ _ hP2) (by first | exact f2' | exact f2'.drew)⟩
end Go.Proofs.YtbagcjlimdilpaaGreat
