/- Texts that follow one another, joined. -/
import Derived.Test.YtbagcjlimdilpaaGreatHhJ13
import Derived.Deep.RegionHeld3
import Derived.Test.YtbagcjlimdilpaaGreatHhJ12
import Derived.Test.YtbagcjlimdilpaaGreatHhJ9
/- Walks of the program's Make over changes, and of Alloc. -/
namespace Go.Proofs.YtbagcjlimdilpaaGreat
open Go.RowKit Go.Maps

/-- an object's header is put, and i words behind it are 0 -/
structure MakeIs (now r : List Int) (b : Nat) (h : Int) (i : Nat) : Prop where
  len : r.length = now.length
  hd : wd r (106 + 8 * b) = h
  zero : ∀ q, 106 + 8 * b < q → q < 106 + 8 * b + 1 + i → wd r q = 0
  rest : ∀ q, q < 106 + 8 * b ∨ 106 + 8 * b + 1 + i ≤ q → wd r q = wd now q
theorem make_start {now : List Int} {b : Nat} {h : Int} (hb : 106 + 8 * b < now.length) : MakeIs now (now.set (106 + 8 * b) h) b h 0 :=
  ⟨by simp, by rw [wd_set hb, if_pos rfl], fun q h1 h2 => by omega, fun q hq => by rw [wd_set hb, if_neg (by omega)]⟩
theorem MakeIs.step {now r : List Int} {b : Nat} {h : Int} {i : Nat} (m : MakeIs now r b h i) (hi : 106 + 8 * b + 1 + i < now.length) : MakeIs now (r.set (106 + 8 * b + 1 + i) 0) b h (i + 1) := by
  have hl := m.len
  refine ⟨by simpa using hl, by rw [wd_set (by omega), if_neg (by omega)]; exact m.hd, fun q h1 h2 => ?_, fun q hq => ?_⟩
  · rw [wd_set (by omega)]
    split
    · rfl
    · exact m.zero q h1 (by omega)
  · rw [wd_set (by omega), if_neg (by omega)]
    exact m.rest q (by omega)
theorem set_here {r : List Int} {q : Nat} (hq : q < r.length) : r.set q (wd r q) = r := by
  refine wd_ext (by simp) (fun p => ?_)
  rw [wd_set hq]
  split
  · next e => rw [e]
  · rfl
theorem make_alloc {now r : List Int} {b s : Nat} {p : Int} (m : MakeIs now r b (1000000 + 100 * (s : Int) + p) (8 * s - 1)) (hs : 1 ≤ s) (hb : 106 + 8 * (b + s) ≤ now.length) :
    ∃ z, Zeroed now z (blockZ b (8 * s)) ∧ r = z.set (106 + 8 * b) (1000000 + 100 * (s : Int) + p) := by
  have hl := m.len
  refine ⟨r.set (106 + 8 * b) 0, ⟨by simpa using hl, fun q hq => ?_, fun q hq => ?_⟩, ?_⟩
  · rw [wd_set (by omega)]
    split
    · rfl
    · obtain ⟨h1, h2⟩ := hq
      exact m.zero q (by omega) (by omega)
  · rw [wd_set (by omega), if_neg (by unfold blockZ at hq; omega)]
    exact m.rest q (by unfold blockZ at hq; omega)
  · have := set_here (r := r) (q := 106 + 8 * b) (by omega)
    rw [m.hd] at this
    rw [List.set_set, this]

set_option maxHeartbeats 2000000 in
set_option maxRecDepth 100000 in
theorem make_chg (b s p : Nat) (hb tb cb mb g : Nat) (vs : Value) (ws now : List Int) (st : List St) (W : World) (h : PH hb tb cb mb g vs ws now st W) (hs1 : 1 ≤ s) (hs4 : s ≤ 4) (hp : p < 8 * s) (hbl : 106 + 8 * (b + s) ≤ ws.length) :
    Calls Tryz.prog 69 #[.agg #[.int .i64 1, .int .i64 ((b + 1 : Nat) : Int), .int .i64 s, .int .i64 p], .iface 101 (.pointer (some ⟨cb, 0, none⟩))] W fun e w' => e = .returned (.tuple #[]) ∧ ∃ r, PH hb tb cb mb g vs ws r st w' ∧ MakeIs now r b (1000000 + 100 * (s : Int) + p) (8 * s - 1) ∧ Fr (fun k => k = mb) W w' := by
  have hlens := h.lens
  have HNL : Hid (now.length = ws.length) := h.len
  have HP : Hid (∀ w, Calls Tryz.prog 100 #[.agg #[.int .i64 1, .int .i64 ((b + 1 : Nat) : Int), .int .i64 s, .int .i64 p]] w fun e w' => e = .returned (.int .i64 ((106 + 8 * b : Nat) : Int)) ∧ Fr New w w') := fun w => tplace_any 1 s p b w (by omega)
  have HWP : Hid (∀ i, i < 8 * s - 1 → ∀ w, Calls Tryz.prog 60 #[.agg #[.int .i64 1, .int .i64 ((b + 1 : Nat) : Int), .int .i64 s, .int .i64 p], .int .i64 (i : Nat)] w fun e w' => e = .returned (.int .i64 ((106 + 8 * b + 1 + i : Nat) : Int)) ∧ Fr New w w') := fun i hi w => twplace_any 1 s p b i w (by omega) (by omega)
  have HHD : Hid (∀ w, Calls Tryz.prog 117 #[.int .i64 (s : Int), .int .i64 (p : Int)] w fun e w' => e = .returned (.int .u64 (1000000 + 100 * (s : Int) + p)) ∧ w' = w) := fun w => header_any s p w hs4 (by omega)
  have HWD : Hid (∀ w, Calls Tryz.prog 108 #[.int .i64 (s : Int)] w fun e w' => e = .returned (.int .i64 ((8 * s - 1 : Nat) : Int)) ∧ w' = w) := fun w => by
    have := words_any' s w (by omega)
    rwa [show (8 * (s : Int) - 1) = ((8 * s - 1 : Nat) : Int) by omega] at this
  obtain ⟨hv, hhv⟩ : ∃ hv, hv = 1000000 + 100 * (s : Int) + (p : Int) := ⟨_, rfl⟩
  have HUV : Hid (U hv) := by rw [hhv]; unfold U; show _ ∧ _; omega
  rw [← hhv] at HHD ⊢
  have hq0 : 106 + 8 * b < ws.length := by omega
  have HST : Hid (MakeIs now (now.set (106 + 8 * b) hv) b hv 0) := make_start (by rw [HNL.out]; exact hq0)
  have HPU : Hid (∀ W', Fr New W W' → Calls Tryz.prog 59 #[.pointer (some ⟨cb, 0, none⟩), .int .i64 ((106 + 8 * b : Nat) : Int), .int .u64 hv] W' fun e w' => e = .returned (.tuple #[]) ∧ PH hb tb cb mb g vs ws (now.set (106 + 8 * b) hv) st w' ∧ Fr (fun k => k = mb) W' w') := fun W' hf => by
    refine (cput_any cb tb g mb ws now vs W' (106 + 8 * b) hv hq0 HUV.out (h.new hf).tg.t (h.new hf).cg).mono ?_
    rintro e w' ⟨rfl, h1, h2, h3⟩
    exact ⟨rfl, (h.new hf).turn h2 h1, h2⟩
  obtain ⟨B, hB⟩ : ∃ B : Nat, B = b + 1 := ⟨_, rfl⟩
  rw [← hB] at HP HWP ⊢
  obtain ⟨pq, hpq⟩ : ∃ pq : Nat, pq = 106 + 8 * b := ⟨_, rfl⟩
  rw [← hpq] at HP HPU HST
  obtain ⟨N, hN⟩ : ∃ N : Nat, N = 8 * s - 1 := ⟨_, rfl⟩
  rw [← hN] at HWP HWD ⊢
  have hN31 : N ≤ 31 := by omega
  have HNB : Hid (106 + 8 * b + 1 + N ≤ ws.length) := by show _ ≤ _; omega
  have hmp := meth_cput ⟨cb, 0, none⟩
  have hap := ahead_cput ⟨cb, 0, none⟩
  have hmf : ∀ (fn : Fn) (first cap : Array Value) (w : World), (Instr.makeFunc fn first cap).run Tryz.prog w = .ok (.func fn first cap) w := fun _ _ _ _ => rfl
  have hgW : mb < W.heap.size := h.cg.lt
  clear hB hpq hN h hhv hq0 hlens
  go_enter Tryz.func69, Tryz.ntmps69
  go_upto_region 1 with fail
  have hfA : Fr New W (W.alloc (.cells #[.int .i64 1, .int .i64 B, .int .i64 s, .int .i64 p] 115)) := (Fr.refl _ _).alloc _
  have hT0 : (W.alloc (.cells #[.int .i64 1, .int .i64 B, .int .i64 s, .int .i64 p] 115)).heap[W.heap.size]? = some (.cells #[.int .i64 1, .int .i64 B, .int .i64 s, .int .i64 p] 115 (0, 0)) := Go.Deep.blk_alloc_new W _
  obtain ⟨W1, hW1⟩ : ∃ W1, W1 = W.alloc (.cells #[.int .i64 1, .int .i64 B, .int .i64 s, .int .i64 p] 115) := ⟨_, rfl⟩
  rw [← hW1] at hfA hT0 ⊢
  clear hW1
  obtain ⟨gt, hgt⟩ : ∃ gt, gt = W.heap.size := ⟨_, rfl⟩
  have hgm : gt ≠ mb := by omega
  rw [← hgt] at hT0 ⊢
  obtain ⟨ht, hz⟩ := block_cells hT0
  have ht0 : W1.cell? ⟨gt, 0, none⟩ = some (.int .i64 1) := (ht 0).trans rfl
  have ht1 : W1.cell? ⟨gt, 1, none⟩ = some (.int .i64 B) := (ht 1).trans rfl
  have ht2 : W1.cell? ⟨gt, 2, none⟩ = some (.int .i64 s) := (ht 2).trans rfl
  have ht3 : W1.cell? ⟨gt, 3, none⟩ = some (.int .i64 p) := (ht 3).trans rfl
  clear ht hz hgt
  go_region_held3 (fun w' => w'.cell? ⟨gt, 0, none⟩ = some (.int .i64 1) ∧ w'.cell? ⟨gt, 1, none⟩ = some (.int .i64 B) ∧ w'.cell? ⟨gt, 2, none⟩ = some (.int .i64 s) ∧ w'.cell? ⟨gt, 3, none⟩ = some (.int .i64 p)) (first | go_keep | exact hkeep2 | exact hkeep3)
    (first
      | (go_at_call 100; refine (HP.out _).mono ?_; rintro e w2 ⟨rfl, hf2⟩; have hf2' : Fr New W1 w2 := ((Fr.refl New W1).drew.same hf2); have hkeep2 : w2.cell? ⟨gt, 0, none⟩ = some (.int .i64 1) ∧ w2.cell? ⟨gt, 1, none⟩ = some (.int .i64 B) ∧ w2.cell? ⟨gt, 2, none⟩ = some (.int .i64 s) ∧ w2.cell? ⟨gt, 3, none⟩ = some (.int .i64 p) := ⟨hf2'.cell ht0 id, hf2'.cell ht1 id, hf2'.cell ht2 id, hf2'.cell ht3 id⟩)
      | (go_at_call 117; refine calls_same (HHD.out _) ?_)
      | (go_at_call 59; refine (HPU.out _ (hfA.same hf2')).mono ?_; rintro e w3 ⟨rfl, hP3, hf3⟩; have ht3' := hf3.heap (hf2'.heap hT0 id) hgm; have hkeep3 : w3.cell? ⟨gt, 0, none⟩ = some (.int .i64 1) ∧ w3.cell? ⟨gt, 1, none⟩ = some (.int .i64 B) ∧ w3.cell? ⟨gt, 2, none⟩ = some (.int .i64 s) ∧ w3.cell? ⟨gt, 3, none⟩ = some (.int .i64 p) := ⟨((block_cells ht3').1 0).trans rfl, ((block_cells ht3').1 1).trans rfl, ((block_cells ht3').1 2).trans rfl, ((block_cells ht3').1 3).trans rfl⟩))
  all_goals
    obtain ⟨k0, k1, k2, k3⟩ := hkeep3
    have hF3 : Fr (fun k => k = mb) W w3 := ((hfA.same hf2').mono (fun _ _ h => h.elim)).trans hf3 (fun _ _ h => h)
    clear hkeep2 ht0 ht1 ht2 ht3 hT0 hf2' hfA
    go_wp2_with (go_at_call 108; refine calls_same (HWD.out _) ?_)
    clear k0 k1 k2 k3
    go_loopg [20] N (fun gh t wr => ∃ (i : Nat) (cur' : List Int), i ≤ N ∧ gh = N - i ∧ t = .int .i64 i ∧ PH hb tb cb mb g vs ws cur' st wr ∧ Fr (fun k => k = mb) W wr ∧ wr.heap[gt]? = some (.cells #[.int .i64 1, .int .i64 B, .int .i64 s, .int .i64 p] 115 (0, 0)) ∧ MakeIs now cur' b hv i)
    case atStart => exact ⟨0, _, by omega, rfl, rfl, hP3, hF3, ht3', HST.out⟩
    case round =>
      clear hP3 hF3 ht3' hf3
      obtain ⟨i, cur', his, rfl, rfl, hM, hF, hT, hZ⟩ := hrel
      by_cases hi : i < N
      · have HPL : Hid (∀ w, Calls Tryz.prog 60 #[.agg #[.int .i64 1, .int .i64 B, .int .i64 s, .int .i64 p], .int .i64 (i : Nat)] w fun e w' => e = .returned (.int .i64 ((106 + 8 * b + 1 + i : Nat) : Int)) ∧ Fr New w w') := HWP.out i hi
        have hq : 106 + 8 * b + 1 + i < ws.length := by have := HNB.out; omega
        have hZn := hZ.step (by rw [HNL.out]; exact hq)
        have HPU2 : Hid (∀ W', Fr New wr W' → Calls Tryz.prog 59 #[.pointer (some ⟨cb, 0, none⟩), .int .i64 ((106 + 8 * b + 1 + i : Nat) : Int), .int .u64 0] W' fun e w' => e = .returned (.tuple #[]) ∧ PH hb tb cb mb g vs ws (cur'.set (106 + 8 * b + 1 + i) 0) st w' ∧ Fr (fun k => k = mb) W' w') := fun W' hf => by
          refine (cput_any cb tb g mb ws cur' vs W' _ 0 hq (by unfold U; omega) (hM.new hf).tg.t (hM.new hf).cg).mono ?_
          rintro e w' ⟨rfl, h1, h2, h3⟩
          exact ⟨rfl, (hM.new hf).turn h2 h1, h2⟩
        obtain ⟨pq, hpq⟩ : ∃ pq : Nat, pq = 106 + 8 * b + 1 + i := ⟨_, rfl⟩
        rw [← hpq] at HPL HPU2 hZn
        obtain ⟨ht, hz⟩ := block_cells hT
        have ht0 : wr.cell? ⟨gt, 0, none⟩ = some (.int .i64 1) := (ht 0).trans rfl
        have ht1 : wr.cell? ⟨gt, 1, none⟩ = some (.int .i64 B) := (ht 1).trans rfl
        have ht2 : wr.cell? ⟨gt, 2, none⟩ = some (.int .i64 s) := (ht 2).trans rfl
        have ht3 : wr.cell? ⟨gt, 3, none⟩ = some (.int .i64 p) := (ht 3).trans rfl
        clear ht hz hpq hM hZ hq
        go_upto_region 5 with fail
        go_region_held3 (fun w' => w'.cell? ⟨gt, 0, none⟩ = some (.int .i64 1) ∧ w'.cell? ⟨gt, 1, none⟩ = some (.int .i64 B) ∧ w'.cell? ⟨gt, 2, none⟩ = some (.int .i64 s) ∧ w'.cell? ⟨gt, 3, none⟩ = some (.int .i64 p)) (first | go_keep | exact hkeep4 | exact hkeep5)
          (first
            | (go_at_call 60; refine (HPL.out _).mono ?_; rintro e w4 ⟨rfl, hf4⟩; have hf4' : Fr New wr w4 := ((Fr.refl New wr).drew.same hf4); have hkeep4 : w4.cell? ⟨gt, 0, none⟩ = some (.int .i64 1) ∧ w4.cell? ⟨gt, 1, none⟩ = some (.int .i64 B) ∧ w4.cell? ⟨gt, 2, none⟩ = some (.int .i64 s) ∧ w4.cell? ⟨gt, 3, none⟩ = some (.int .i64 p) := ⟨hf4'.cell ht0 id, hf4'.cell ht1 id, hf4'.cell ht2 id, hf4'.cell ht3 id⟩)
            | (go_at_call 59; refine (HPU2.out _ hf4').mono ?_; rintro e w5 ⟨rfl, hP5, hf5⟩; have ht5' := hf5.heap (hf4'.heap hT id) hgm; have hkeep5 : w5.cell? ⟨gt, 0, none⟩ = some (.int .i64 1) ∧ w5.cell? ⟨gt, 1, none⟩ = some (.int .i64 B) ∧ w5.cell? ⟨gt, 2, none⟩ = some (.int .i64 s) ∧ w5.cell? ⟨gt, 3, none⟩ = some (.int .i64 p) := ⟨((block_cells ht5').1 0).trans rfl, ((block_cells ht5').1 1).trans rfl, ((block_cells ht5').1 2).trans rfl, ((block_cells ht5').1 3).trans rfl⟩))
        all_goals
          clear hkeep4 hkeep5
          go_wp2_with fail
          go_roundg (N - (i + 1))
          case measure => omega
          case rel => exact ⟨i + 1, _, by omega, rfl, by go_num, hP5, (hF.same hf4').trans hf5 (fun _ _ h => h), ht5', hZn⟩
      · obtain rfl : i = N := by omega
        go_wp2
        go_end0
        exact ⟨rfl, cur', hM, hZ, hF⟩

set_option maxHeartbeats 2000000 in
set_option maxRecDepth 100000 in
theorem halloc_any (hb tb cb mb g : Nat) (vs : Value) (ws now : List Int) (st : List St) (s p : Int) (w : World) (h : PH hb tb cb mb g vs ws now st w) (hbd : bads now = []) :
    Calls Tryz.prog 38 #[.pointer (some ⟨hb, 0, none⟩), .int .i64 s, .int .i64 p] w fun e w' => ∃ r hd c, e = .returned (.tuple #[.int .i64 hd, .int .i64 c]) ∧ AllocIs now s p r hd c ∧ PH hb tb cb mb g vs ws r st w' ∧ Fr (fun k => k = mb) w w' := by
  have HPR : Hid (Calls Tryz.prog 67 #[.int .i64 s, .int .i64 p] w fun e w' => e = .returned (.bool (properB s p)) ∧ w' = w) := proper_any s p w
  have hc1 := h.p1
  rcases hpr : properB s p with _ | _
  · have HT : Hid (AllocIs now s p now 0 1) := .inl ⟨(fun ha => by
      have : properB s p = true := properB_iff.2 (by unfold argOk at ha; omega)
      rw [hpr] at this; cases this), rfl, rfl, rfl⟩
    rw [hpr] at HPR
    clear hpr
    go_enter Tryz.func38, Tryz.ntmps38
    go_wp2_with (go_at_call 67; refine calls_same HPR.out ?_)
    go_ret2
    exact ⟨now, 0, 1, rfl, HT.out, h, Fr.refl _ _⟩
  · obtain ⟨a1, a2, a3, a4⟩ := properB_iff.1 hpr
    rw [hpr] at HPR
    obtain ⟨S, rfl⟩ := Int.eq_ofNat_of_zero_le (show 0 ≤ s by omega)
    obtain ⟨P, rfl⟩ := Int.eq_ofNat_of_zero_le a3
    have hnn : nblk now.length ≠ 0 := by rw [h.len]; exact h.n0
    have hT := objs_tiles hnn hbd
    have HRM : Hid (Calls Tryz.prog 68 #[.iface 101 (.pointer (some ⟨cb, 0, none⟩)), .int .i64 (S : Int)] w fun e w' => e = .returned (roomV (roomS now S (nblk now.length) 0 ⟨0, none⟩).found) ∧ Fr New w w') := room_row _ _ _ _ _ (nblk now.length) S now w rfl hnn (by omega) (by omega) h.row
    rcases room_found (s := S) (nblk_some hnn).1 hT (by omega) with ⟨hf, hno⟩ | ⟨c, hf, hfr, hmin⟩
    · have HTT : Hid (AllocIs now S P now 0 11) := .inr (.inl ⟨⟨by omega, by omega, by omega, by omega⟩, fun b => by simpa using hno b, rfl, rfl, rfl⟩)
      rw [hf] at HRM
      unfold roomV foundN at HRM
      simp only [Option.isSome_none] at HRM
      clear hpr hf hno hT hnn
      go_enter Tryz.func38, Tryz.ntmps38
      go_wp2_with (first
        | (go_at_call 67; refine calls_same HPR.out ?_)
        | (go_at_call 68; refine HRM.out.mono ?_; rintro e w1 ⟨rfl, hf1⟩))
      go_ret2
      exact ⟨now, 0, 11, rfl, HTT.out, h.new hf1, hf1.mono (fun _ _ h => h.elim)⟩
    · have hcn : 106 + 8 * (c + S) ≤ now.length := by have := (nblk_some hnn).1; have := hfr.1; omega
      have HTT : Hid (∀ r, MakeIs now r c (1000000 + 100 * (S : Int) + P) (8 * S - 1) → AllocIs now S P r ((c + 1 : Nat) : Int) 0) := fun r hm => by
        obtain ⟨z, hz, hr⟩ := make_alloc hm (by omega) hcn
        exact .inr (.inr ⟨⟨by omega, by omega, by omega, by omega⟩, c, z, by simpa using hfr, fun b' hb' => by simpa using hmin b' hb', by simpa using hz, hr, rfl, rfl⟩)
      rw [hf] at HRM
      unfold roomV foundN at HRM
      simp only [Option.isSome_some] at HRM
      have HMK : Hid (∀ w1, Fr New w w1 → Calls Tryz.prog 69 #[.agg #[.int .i64 1, .int .i64 ((c + 1 : Nat) : Int), .int .i64 S, .int .i64 P], .iface 101 (.pointer (some ⟨cb, 0, none⟩))] w1 fun e w' => e = .returned (.tuple #[]) ∧ ∃ r, PH hb tb cb mb g vs ws r st w' ∧ MakeIs now r c (1000000 + 100 * (S : Int) + P) (8 * S - 1) ∧ Fr (fun k => k = mb) w1 w') := fun w1 hf1 => make_chg c S P hb tb cb mb g vs ws now st w1 (h.new hf1) (by omega) (by omega) (by omega) (by rw [← h.len]; exact hcn)
      have HC1 : Hid (∀ w1, Fr New w w1 → w1.cell? ⟨hb, 1, none⟩ = some (.pointer (some ⟨cb, 0, none⟩))) := fun w1 hf => (h.new hf).p1
      obtain ⟨B, hB⟩ : ∃ B : Nat, B = c + 1 := ⟨_, rfl⟩
      have hgW : mb < w.heap.size := h.cg.lt
      rw [← hB] at HRM HMK HTT
      clear hpr hf hfr hmin hT hnn hcn hB
      go_enter Tryz.func38, Tryz.ntmps38
      go_upto_region 7 with (first
        | (go_at_call 67; refine calls_same HPR.out ?_)
        | (go_at_call 68; refine HRM.out.mono ?_; rintro e w1 ⟨rfl, hf1⟩))
      have hfb : Fr New w (w1.alloc (.cells #[.int .i64 1, .int .i64 B, .int .i64 S, .int .i64 P] 115)) := hf1.alloc _
      have hth : (w1.alloc (.cells #[.int .i64 1, .int .i64 B, .int .i64 S, .int .i64 P] 115)).heap[w1.heap.size]? = some (.cells #[.int .i64 1, .int .i64 B, .int .i64 S, .int .i64 P] 115 (0, 0)) := Go.Deep.blk_alloc_new w1 _
      obtain ⟨W2, hW2⟩ : ∃ W2, W2 = w1.alloc (.cells #[.int .i64 1, .int .i64 B, .int .i64 S, .int .i64 P] 115) := ⟨_, rfl⟩
      rw [← hW2] at hfb hth
      obtain ⟨gt, hgt⟩ : ∃ gt, gt = w1.heap.size := ⟨_, rfl⟩
      have hgm : gt ≠ mb := by have := hf1.size; omega
      rw [← hgt] at hth
      rw [← hW2, ← hgt]
      have hc3 := HC1.out W2 hfb
      have hb3 : hb < W2.heap.size := World.block_lt_of_cell? W2 _ hc3
      obtain ⟨ht3, hz3⟩ := block_cells hth
      have ht40 := (ht3 0).trans rfl
      have ht41 := (ht3 1).trans rfl
      have ht42 := (ht3 2).trans rfl
      have ht43 := (ht3 3).trans rfl
      clear ht3 hz3 hW2 hgt
      go_region_with (go_at_call 69; refine (HMK.out _ (by first | exact hfb | exact hfb.drew)).mono ?_; rintro e w6 ⟨rfl, r, hP6, hZ6, hf6⟩; have hth6 := hf6.heap (show _ = some _ from hth) hgm; have hcc : w6.cell? ⟨gt, 1, none⟩ = some (.int .i64 B) := ((block_cells hth6).1 1).trans rfl)
      all_goals (try go_wp2_with fail)
      all_goals
        go_ret2
        exact ⟨r, _, 0, rfl, HTT.out r hZ6, hP6, by first | exact (hfb.mono (fun _ _ h => h.elim)).trans hf6 (fun _ _ h => h) | exact (hfb.drew.mono (fun _ _ h => h.elim)).trans hf6 (fun _ _ h => h)⟩
end Go.Proofs.YtbagcjlimdilpaaGreat
/- Walks of the program's Read and Write. -/
namespace Go.Proofs.YtbagcjlimdilpaaGreat
open Go.RowKit Go.Maps

theorem has_any (k b p i : Int) (s : Nat) (w : World) (hs : s ≤ 1048576) : Calls Tryz.prog 57 #[.agg #[.int .i64 k, .int .i64 b, .int .i64 s, .int .i64 p], .int .i64 i] w fun e w' => e = .returned (.bool (decide (0 ≤ i) && decide (i < 8 * (s : Int) - 1))) ∧ Fr New w w' := by
  by_cases h0 : 0 ≤ i
  · have hd : decide (0 ≤ i) = true := by simpa using h0
    rw [hd, Bool.true_and]
    go_enter Tryz.func57, Tryz.ntmps57
    go_wp2_with (go_at_call 108; refine calls_same (words_any' s _ hs) ?_)
    go_ret
    exact ⟨rfl, (Fr.refl _ _).alloc _⟩
  · have hd : decide (0 ≤ i) = false := by simpa using h0
    rw [hd, Bool.false_and]
    go_enter Tryz.func57, Tryz.ntmps57
    go_wp2
    go_ret
    exact ⟨rfl, (Fr.refl _ _).alloc _⟩
theorem has_no' (k b p i : Int) (s : Nat) (w : World) (hs : s ≤ 1048576) (h : i < 0 ∨ 8 * (s : Int) - 1 ≤ i) : Calls Tryz.prog 57 #[.agg #[.int .i64 k, .int .i64 b, .int .i64 s, .int .i64 p], .int .i64 i] w fun e w' => e = .returned (.bool false) ∧ Fr New w w' := by
  have := has_any k b p i s w hs
  rwa [show (decide (0 ≤ i) && decide (i < 8 * (s : Int) - 1)) = false by simp; omega] at this
theorem has_yes' (k b p i : Int) (s : Nat) (w : World) (hs : s ≤ 1048576) (h0 : 0 ≤ i) (h1 : i < 8 * (s : Int) - 1) : Calls Tryz.prog 57 #[.agg #[.int .i64 k, .int .i64 b, .int .i64 s, .int .i64 p], .int .i64 i] w fun e w' => e = .returned (.bool true) ∧ Fr New w w' := by
  have := has_any k b p i s w hs
  rwa [show (decide (0 ≤ i) && decide (i < 8 * (s : Int) - 1)) = true by simp; omega] at this
/-- Held, with a handle as a number -/
theorem held_num {now : List Int} {n : Int} (h0 : -9223372036854775808 ≤ n) (h1 : n ≤ 9223372036854775807) {B : Nat} {w : World} {vl : Value} (ho : OwnT B w vl (objs now)) :
    Calls Tryz.prog 56 #[vl, .int .u64 (IntKind.u64.wrap n)] w fun e w' => ∃ r, e = .returned r ∧ HeldIs (objs now) n r ∧ Fr New w w' := by
  refine (held_any vl (objs now) (IntKind.u64.wrap n) w (liesT_objs ho) (objs_asc now)).mono ?_
  rintro e w' ⟨r, rfl, hs, hf⟩
  refine ⟨r, rfl, ?_, hf⟩
  unfold HeldIs at hs ⊢
  rwa [idx_wrap h0 h1] at hs

set_option maxHeartbeats 2000000 in
set_option maxRecDepth 100000 in
theorem hread_any (hb tb cb mb g : Nat) (vs : Value) (ws now : List Int) (st : List St) (n i : Int) (w : World) (h0 : -9223372036854775808 ≤ n) (h1 : n ≤ 9223372036854775807) (h : PH hb tb cb mb g vs ws now st w) :
    Calls Tryz.prog 39 #[.pointer (some ⟨hb, 0, none⟩), .int .i64 n, .int .i64 i] w fun e w' => e = .returned (.tuple #[.int .u64 (readS now n i).1, .int .i64 (readS now n i).2]) ∧ Fr New w w' := by
  have HO : Hid (Calls Tryz.prog 55 #[.pointer (some ⟨hb, 0, none⟩)] w fun e w' => ∃ vl, e = .returned vl ∧ OwnT w.heap.size w' vl (objs now) ∧ Fr New w w') := hobjects_any hb tb cb mb g vs ws now st w h
  have HH : Hid (∀ w1 vl, OwnT w.heap.size w1 vl (objs now) → Calls Tryz.prog 56 #[vl, .int .u64 (IntKind.u64.wrap n)] w1 fun e w' => ∃ r, e = .returned r ∧ HeldIs (objs now) n r ∧ Fr New w1 w') := fun w1 vl ho => held_num h0 h1 ho
  unfold readS
  obtain ⟨x, hx⟩ : ∃ x, x = IntKind.u64.wrap n := ⟨_, rfl⟩
  rw [← hx] at HH
  have hxs := hx.symm
  have hlens := h.lens
  clear hx h0 h1
  rcases hx : idx (objs now) n with _ | k
  · have HN : Hid (∀ r, HeldIs (objs now) n r → r = .tuple #[.agg #[.int .i64 0, .int .i64 0, .int .i64 0, .int .i64 0], .bool false]) := fun r hs => by
      rcases hs with ⟨k, _, hk, _⟩ | ⟨_, e⟩
      · rw [hx] at hk; cases hk
      · exact e
    clear hx h
    go_enter Tryz.func39, Tryz.ntmps39
    go_wp2_with (first
      | (go_at_call 55; refine HO.out.mono ?_; rintro e w1 ⟨vl, rfl, hol, hf1⟩)
      | (go_at_call 56; refine (HH.out _ _ hol).mono ?_; rintro e w2 ⟨r, rfl, hr, hf2⟩; obtain rfl := HN.out r hr))
    go_ret2
    exact ⟨rfl, (hf1.same hf2).alloc _⟩
  · have hk := idx_lt hx
    have hin := objs_in (List.getElem_mem hk)
    have hnb := nblk_le now.length
    have hgd : (objs now).getD k ⟨0, 0, 0⟩ = (objs now)[k] := by simp [List.getD, hk]
    have HN : Hid (∀ r, HeldIs (objs now) n r → r = .tuple #[.agg #[.int .i64 1, .int .i64 (((objs now)[k].block + 1 : Nat) : Int), .int .i64 (objs now)[k].span, .int .i64 (objs now)[k].ptrs], .bool true]) := fun r hs => by
      rcases hs with ⟨k', _, hk', e⟩ | ⟨hk', _⟩
      · rw [hx] at hk'; cases hk'; exact e
      · rw [hx] at hk'; cases hk'
    dsimp only
    rw [hgd]
    rw [h.len] at hin
    obtain ⟨o, ho⟩ : ∃ o, o = (objs now)[k] := ⟨_, rfl⟩
    rw [← ho] at HN hin ⊢
    obtain ⟨b, sp, pt⟩ := o
    simp only at HN hin ⊢
    obtain ⟨g1, g2, g3, g4, g5⟩ := hin
    clear hx hgd ho
    by_cases hi : i < 0 ∨ 8 * (sp : Int) - 1 ≤ i
    · rw [if_pos hi]
      have HS : Hid (∀ B w, Calls Tryz.prog 57 #[.agg #[.int .i64 1, .int .i64 B, .int .i64 sp, .int .i64 pt], .int .i64 i] w fun e w' => e = .returned (.bool false) ∧ Fr New w w') := fun B w => has_no' 1 B pt i sp w (by omega) hi
      clear hi h
      go_enter Tryz.func39, Tryz.ntmps39
      go_wp2_with (first
        | (go_at_call 55; refine HO.out.mono ?_; rintro e w1 ⟨vl, rfl, hol, hf1⟩)
        | (go_at_call 56; refine (HH.out _ _ hol).mono ?_; rintro e w2 ⟨r, rfl, hr, hf2⟩; obtain rfl := HN.out r hr)
        | (go_at_call 57; refine (HS.out _ _).mono ?_; rintro e w3 ⟨rfl, hf3⟩))
      go_ret2
      exact ⟨rfl, ((hf1.same hf2).alloc _).same hf3⟩
    · rw [if_neg hi]
      obtain ⟨j, rfl⟩ := Int.eq_ofNat_of_zero_le (show 0 ≤ i by omega)
      simp only [Int.toNat_natCast]
      have HS : Hid (∀ B w, Calls Tryz.prog 57 #[.agg #[.int .i64 1, .int .i64 B, .int .i64 sp, .int .i64 pt], .int .i64 (j : Int)] w fun e w' => e = .returned (.bool true) ∧ Fr New w w') := fun B w => has_yes' 1 B pt j sp w (by omega) (by omega) (by omega)
      have HPL : Hid (∀ w9, Calls Tryz.prog 60 #[.agg #[.int .i64 1, .int .i64 ((b + 1 : Nat) : Int), .int .i64 sp, .int .i64 pt], .int .i64 j] w9 fun e w' => e = .returned (.int .i64 ((pl ⟨b, sp, pt⟩ j : Nat) : Int)) ∧ Fr New w9 w') := fun w9 => by
        have := twplace_any 1 sp pt b j w9 (by omega) (by omega)
        rwa [show 106 + 8 * b + 1 + j = pl ⟨b, sp, pt⟩ j by unfold pl; simp only] at this
      have hq : pl ⟨b, sp, pt⟩ j < ws.length := by unfold pl; simp only; omega
      have HRD : Hid (∀ w1, Fr New w w1 → Calls Tryz.prog 70 #[.pointer (some ⟨cb, 0, none⟩), .int .i64 ((pl ⟨b, sp, pt⟩ j : Nat) : Int)] w1 fun e w' => e = .returned (.int .u64 (wd now (pl ⟨b, sp, pt⟩ j))) ∧ w' = w1) := fun w1 hf => cread_any cb tb g mb ws now vs w1 _ hq (h.new hf).tg.t (h.new hf).cg
      have HC1 : Hid (∀ w1, Fr New w w1 → w1.cell? ⟨hb, 1, none⟩ = some (.pointer (some ⟨cb, 0, none⟩))) := fun w1 hf => (h.new hf).p1
      obtain ⟨q, hqq⟩ : ∃ q, q = pl ⟨b, sp, pt⟩ j := ⟨_, rfl⟩
      rw [← hqq] at HPL hq HRD ⊢
      obtain ⟨z, hz⟩ : ∃ z, z = wd now q := ⟨_, rfl⟩
      rw [← hz] at HRD ⊢
      obtain ⟨B, hB⟩ : ∃ B : Nat, B = b + 1 := ⟨_, rfl⟩
      rw [← hB] at HPL HN
      clear hqq hz h hi hB hlens g1 g2 g3 g4 g5
      go_enter Tryz.func39, Tryz.ntmps39
      go_upto_region 6 with (first
        | (go_at_call 55; refine HO.out.mono ?_; rintro e w1 ⟨vl, rfl, hol, hf1⟩)
        | (go_at_call 56; refine (HH.out _ _ hol).mono ?_; rintro e w2 ⟨r, rfl, hr, hf2⟩; obtain rfl := HN.out r hr)
        | (go_at_call 57; refine (HS.out _ _).mono ?_; rintro e w3 ⟨rfl, hf3⟩; have hfa : Fr New w w3 := ((hf1.same hf2).alloc _).same hf3; have hc3 := HC1.out w3 hfa; have hb3 : hb < w3.heap.size := World.block_lt_of_cell? w3 _ hc3; obtain ⟨ht3, hz3⟩ := block_cells (hf3.heap (Go.Deep.blk_alloc_new w2 _) id)))
      have ht30 := (ht3 0).trans rfl
      have ht31 := (ht3 1).trans rfl
      have ht32 := (ht3 2).trans rfl
      have ht33 := (ht3 3).trans rfl
      clear ht3 hz3
      go_region_with (first
        | (go_at_call 60; refine (HPL.out _).mono ?_; rintro e w4 ⟨rfl, hf4⟩; have hf4' : Fr New w w4 := (by first | exact hfa.same hf4 | exact hfa.drew.same hf4); have hc4 := HC1.out w4 hf4')
        | (go_at_call 70; refine calls_same (HRD.out _ (by first | exact hf4' | exact hf4'.drew)) ?_))
      all_goals (try go_wp2_with fail)
      all_goals
        go_ret2
        exact ⟨rfl, by first | exact hf4' | exact hf4'.drew⟩
set_option maxHeartbeats 4000000 in
set_option maxRecDepth 100000 in
theorem hwrite_any (hb tb cb mb g : Nat) (vs : Value) (ws now : List Int) (st : List St) (n i v : Int) (w : World) (h0 : -9223372036854775808 ≤ n) (h1 : n ≤ 9223372036854775807) (hv : U v) (h : PH hb tb cb mb g vs ws now st w) :
    Calls Tryz.prog 26 #[.pointer (some ⟨hb, 0, none⟩), .int .i64 n, .int .i64 i, .int .u64 v] w fun e w' => e = .returned (.int .i64 (writeS now n i v).2) ∧ PH hb tb cb mb g vs ws (writeS now n i v).1 st w' ∧ Fr (fun k => k = mb) w w' := by
  have HO : Hid (Calls Tryz.prog 55 #[.pointer (some ⟨hb, 0, none⟩)] w fun e w' => ∃ vl, e = .returned vl ∧ OwnT w.heap.size w' vl (objs now) ∧ Fr New w w') := hobjects_any hb tb cb mb g vs ws now st w h
  have HH : Hid (∀ w1 vl, OwnT w.heap.size w1 vl (objs now) → Calls Tryz.prog 56 #[vl, .int .u64 (IntKind.u64.wrap n)] w1 fun e w' => ∃ r, e = .returned r ∧ HeldIs (objs now) n r ∧ Fr New w1 w') := fun w1 vl ho => held_num h0 h1 ho
  have HNW : Hid (∀ w1, Fr New w w1 → PH hb tb cb mb g vs ws now st w1 ∧ Fr (fun k => k = mb) w w1) := fun w1 hf => ⟨h.new hf, hf.mono (fun _ _ h => h.elim)⟩
  unfold writeS
  obtain ⟨x, hx⟩ : ∃ x, x = IntKind.u64.wrap n := ⟨_, rfl⟩
  rw [← hx] at HH
  have hxs := hx.symm
  have hlens := h.lens
  clear hx h0 h1
  rcases hx : idx (objs now) n with _ | k
  · have HN : Hid (∀ r, HeldIs (objs now) n r → r = .tuple #[.agg #[.int .i64 0, .int .i64 0, .int .i64 0, .int .i64 0], .bool false]) := fun r hs => by
      rcases hs with ⟨k, _, hk, _⟩ | ⟨_, e⟩
      · rw [hx] at hk; cases hk
      · exact e
    clear hx h
    go_enter Tryz.func26, Tryz.ntmps26
    go_wp2_with (first
      | (go_at_call 55; refine HO.out.mono ?_; rintro e w1 ⟨vl, rfl, hol, hf1⟩)
      | (go_at_call 56; refine (HH.out _ _ hol).mono ?_; rintro e w2 ⟨r, rfl, hr, hf2⟩; obtain rfl := HN.out r hr))
    go_ret
    exact ⟨rfl, HNW.out _ ((hf1.same hf2).alloc _)⟩
  · have hk := idx_lt hx
    have hin := objs_in (List.getElem_mem hk)
    have hnb := nblk_le now.length
    have hgd : (objs now).getD k ⟨0, 0, 0⟩ = (objs now)[k] := by simp [List.getD, hk]
    have HN : Hid (∀ r, HeldIs (objs now) n r → r = .tuple #[.agg #[.int .i64 1, .int .i64 (((objs now)[k].block + 1 : Nat) : Int), .int .i64 (objs now)[k].span, .int .i64 (objs now)[k].ptrs], .bool true]) := fun r hs => by
      rcases hs with ⟨k', _, hk', e⟩ | ⟨hk', _⟩
      · rw [hx] at hk'; cases hk'; exact e
      · rw [hx] at hk'; cases hk'
    dsimp only
    rw [hgd]
    rw [h.len] at hin
    obtain ⟨o, ho⟩ : ∃ o, o = (objs now)[k] := ⟨_, rfl⟩
    rw [← ho] at HN hin ⊢
    obtain ⟨b, sp, pt⟩ := o
    simp only at HN hin ⊢
    obtain ⟨g1, g2, g3, g4, g5⟩ := hin
    clear hx hgd ho
    by_cases hi : i < 0 ∨ 8 * (sp : Int) - 1 ≤ i
    · rw [if_pos hi]
      have HS : Hid (∀ B w, Calls Tryz.prog 57 #[.agg #[.int .i64 1, .int .i64 B, .int .i64 sp, .int .i64 pt], .int .i64 i] w fun e w' => e = .returned (.bool false) ∧ Fr New w w') := fun B w => has_no' 1 B pt i sp w (by omega) hi
      clear hi h
      go_enter Tryz.func26, Tryz.ntmps26
      go_wp2_with (first
        | (go_at_call 55; refine HO.out.mono ?_; rintro e w1 ⟨vl, rfl, hol, hf1⟩)
        | (go_at_call 56; refine (HH.out _ _ hol).mono ?_; rintro e w2 ⟨r, rfl, hr, hf2⟩; obtain rfl := HN.out r hr)
        | (go_at_call 57; refine (HS.out _ _).mono ?_; rintro e w3 ⟨rfl, hf3⟩))
      go_ret
      exact ⟨rfl, HNW.out _ (((hf1.same hf2).alloc _).same hf3)⟩
    · rw [if_neg hi]
      obtain ⟨j, rfl⟩ := Int.eq_ofNat_of_zero_le (show 0 ≤ i by omega)
      simp only [Int.toNat_natCast]
      have HS : Hid (∀ B w, Calls Tryz.prog 57 #[.agg #[.int .i64 1, .int .i64 B, .int .i64 sp, .int .i64 pt], .int .i64 (j : Int)] w fun e w' => e = .returned (.bool true) ∧ Fr New w w') := fun B w => has_yes' 1 B pt j sp w (by omega) (by omega) (by omega)
      have HDG : Hid (∀ w1 vl, Fr New w w1 → LiesT w1 vl (objs now) → Calls Tryz.prog 58 #[vl, .int .u64 v] w1 fun e w' => e = .returned (.bool (dang (objs now) v)) ∧ Fr New w1 w') := fun w1 vl _ ho => dangling_any vl (objs now) v w1 ho (objs_asc now)
      have HC1 : Hid (∀ w1, Fr New w w1 → w1.cell? ⟨hb, 1, none⟩ = some (.pointer (some ⟨cb, 0, none⟩))) := fun w1 hf => (h.new hf).p1
      by_cases hp : (j : Int) < pt ∧ v ≠ 0 ∧ idx (objs now) v = none
      · rw [if_pos hp]
        have hd : decide ((j : Int) < (pt : Int)) = true := by simpa using hp.1
        have hjn : j < pt := by omega
        rw [dang_iff.2 hp.2] at HDG
        obtain ⟨B, hB⟩ : ∃ B : Nat, B = b + 1 := ⟨_, rfl⟩
        rw [← hB] at HN
        clear hi h hB hlens g1 g2 g3 g4 g5 hp
        go_enter Tryz.func26, Tryz.ntmps26
        go_wp2_with (first
          | (go_at_call 55; refine HO.out.mono ?_; rintro e w1 ⟨vl, rfl, hol, hf1⟩)
          | (go_at_call 56; refine (HH.out _ _ hol).mono ?_; rintro e w2 ⟨r, rfl, hr, hf2⟩; obtain rfl := HN.out r hr)
          | (go_at_call 57; refine (HS.out _ _).mono ?_; rintro e w3 ⟨rfl, hf3⟩; have hfa : Fr New w w3 := ((hf1.same hf2).alloc _).same hf3; have hlo : LiesT w3 vl (objs now) := (liesT_objs hol).fr ((hf2.alloc _).same hf3) (fun _ _ h => h); obtain ⟨ht3, hz3⟩ := block_cells (hf3.heap (Go.Deep.blk_alloc_new w2 _) id); have ht33 := (ht3 3).trans rfl; clear ht3 hz3)
          | (go_at_call 58; refine (HDG.out _ _ hfa hlo).mono ?_; rintro e w4 ⟨rfl, hf4⟩))
        go_ret
        exact ⟨rfl, HNW.out _ (hfa.same hf4)⟩
      · rw [if_neg hp]
        have HPL : Hid (∀ w9, Calls Tryz.prog 60 #[.agg #[.int .i64 1, .int .i64 ((b + 1 : Nat) : Int), .int .i64 sp, .int .i64 pt], .int .i64 j] w9 fun e w' => e = .returned (.int .i64 ((pl ⟨b, sp, pt⟩ j : Nat) : Int)) ∧ Fr New w9 w') := fun w9 => by
          have := twplace_any 1 sp pt b j w9 (by omega) (by omega)
          rwa [show 106 + 8 * b + 1 + j = pl ⟨b, sp, pt⟩ j by unfold pl; simp only] at this
        have hq : pl ⟨b, sp, pt⟩ j < ws.length := by unfold pl; simp only; omega
        have HPT : Hid (∀ w1, Fr New w w1 → Calls Tryz.prog 59 #[.pointer (some ⟨cb, 0, none⟩), .int .i64 ((pl ⟨b, sp, pt⟩ j : Nat) : Int), .int .u64 v] w1 fun e w' => e = .returned (.tuple #[]) ∧ ChgIs w' cb tb mb ws (now.set (pl ⟨b, sp, pt⟩ j) v) ∧ Fr (fun k => k = mb) w1 w' ∧ w'.heap.size = w1.heap.size) := fun w1 hf => cput_any cb tb g mb ws now vs w1 _ v hq hv (h.new hf).tg.t (h.new hf).cg
        have HFN : Hid (∀ w4 w5, Fr New w w4 → ChgIs w5 cb tb mb ws (now.set (pl ⟨b, sp, pt⟩ j) v) → Fr (fun k => k = mb) w4 w5 → PH hb tb cb mb g vs ws (now.set (pl ⟨b, sp, pt⟩ j) v) st w5 ∧ Fr (fun k => k = mb) w w5) := fun w4 w5 hf hc hf5 => ⟨(h.new hf).turn hf5 hc, (hf.mono (fun _ _ h => h.elim)).trans hf5 (fun _ _ h => h)⟩
        obtain ⟨q, hqq⟩ : ∃ q, q = pl ⟨b, sp, pt⟩ j := ⟨_, rfl⟩
        rw [← hqq] at HPL hq HPT HFN ⊢
        obtain ⟨B, hB⟩ : ∃ B : Nat, B = b + 1 := ⟨_, rfl⟩
        rw [← hB] at HPL HN
        clear hqq h hi hB hlens g1 g2 g3 g4 g5 HNW
        by_cases hjp : (j : Int) < pt
        · have hd : decide ((j : Int) < (pt : Int)) = true := by simpa using hjp
          have hjn : j < pt := by omega
          rw [show dang (objs now) v = false by
            rcases hq : dang (objs now) v with _ | _
            · rfl
            · exact absurd ⟨hjp, dang_iff.1 hq⟩ hp] at HDG
          clear hp hjp
          go_enter Tryz.func26, Tryz.ntmps26
          go_upto_region 9 with (first
            | (go_at_call 55; refine HO.out.mono ?_; rintro e w1 ⟨vl, rfl, hol, hf1⟩)
            | (go_at_call 56; refine (HH.out _ _ hol).mono ?_; rintro e w2 ⟨r, rfl, hr, hf2⟩; obtain rfl := HN.out r hr)
            | (go_at_call 57; refine (HS.out _ _).mono ?_; rintro e w3 ⟨rfl, hf3⟩; have hfa : Fr New w w3 := ((hf1.same hf2).alloc _).same hf3; have hlo : LiesT w3 vl (objs now) := (liesT_objs hol).fr ((hf2.alloc _).same hf3) (fun _ _ h => h); have hth := hf3.heap (Go.Deep.blk_alloc_new w2 _) id; obtain ⟨ht3, hz3⟩ := block_cells hth; have ht33 := (ht3 3).trans rfl; clear ht3 hz3)
            | (go_at_call 58; refine (HDG.out _ _ hfa hlo).mono ?_; rintro e w4 ⟨rfl, hf4⟩))
          have hfb : Fr New w w4 := hfa.same hf4
          have hc3 := HC1.out w4 hfb
          have hb3 : hb < w4.heap.size := World.block_lt_of_cell? w4 _ hc3
          obtain ⟨ht3, hz3⟩ := block_cells (hf4.heap hth id)
          have ht40 := (ht3 0).trans rfl
          have ht41 := (ht3 1).trans rfl
          have ht42 := (ht3 2).trans rfl
          have ht43 := (ht3 3).trans rfl
          clear ht3 hz3 ht33
          go_region_with (first
            | (go_at_call 60; refine (HPL.out _).mono ?_; rintro e w5 ⟨rfl, hf5⟩; have hf5' : Fr New w w5 := (by first | exact hfb.same hf5 | exact hfb.drew.same hf5); have hc5 := HC1.out w5 hf5')
            | (go_at_call 59; refine (HPT.out _ (by first | exact hf5' | exact hf5'.drew)).mono ?_; rintro e w6 ⟨rfl, hc6, hf6, hs6⟩))
          all_goals (try go_wp2_with fail)
          all_goals
            go_ret
            exact ⟨rfl, by first | exact HFN.out _ _ hf5' hc6 hf6 | exact HFN.out _ _ hf5'.drew hc6 hf6⟩
        · have hd : decide ((j : Int) < (pt : Int)) = false := by simpa using hjp
          have hjn : ¬ j < pt := by omega
          clear hp hjp HDG
          go_enter Tryz.func26, Tryz.ntmps26
          go_upto_region 9 with (first
            | (go_at_call 55; refine HO.out.mono ?_; rintro e w1 ⟨vl, rfl, hol, hf1⟩)
            | (go_at_call 56; refine (HH.out _ _ hol).mono ?_; rintro e w2 ⟨r, rfl, hr, hf2⟩; obtain rfl := HN.out r hr)
            | (go_at_call 57; refine (HS.out _ _).mono ?_; rintro e w3 ⟨rfl, hf3⟩; have hfb : Fr New w w3 := ((hf1.same hf2).alloc _).same hf3; have hth := hf3.heap (Go.Deep.blk_alloc_new w2 _) id; obtain ⟨ht3, hz3⟩ := block_cells hth; have ht33 := (ht3 3).trans rfl; clear ht3 hz3))
          have hc3 := HC1.out w3 hfb
          have hb3 : hb < w3.heap.size := World.block_lt_of_cell? w3 _ hc3
          obtain ⟨ht3, hz3⟩ := block_cells hth
          have ht40 := (ht3 0).trans rfl
          have ht41 := (ht3 1).trans rfl
          have ht42 := (ht3 2).trans rfl
          clear ht3 hz3
          go_region_with (first
            | (go_at_call 60; refine (HPL.out _).mono ?_; rintro e w5 ⟨rfl, hf5⟩; have hf5' : Fr New w w5 := (by first | exact hfb.same hf5 | exact hfb.drew.same hf5); have hc5 := HC1.out w5 hf5')
            | (go_at_call 59; refine (HPT.out _ (by first | exact hf5' | exact hf5'.drew)).mono ?_; rintro e w6 ⟨rfl, hc6, hf6, hs6⟩))
          all_goals (try go_wp2_with fail)
          all_goals
            go_ret
            exact ⟨rfl, by first | exact HFN.out _ _ hf5' hc6 hf6 | exact HFN.out _ _ hf5'.drew hc6 hf6⟩
end Go.Proofs.YtbagcjlimdilpaaGreat
