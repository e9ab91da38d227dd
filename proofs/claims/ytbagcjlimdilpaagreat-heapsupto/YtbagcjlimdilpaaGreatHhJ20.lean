/- Texts that follow one another, joined. -/
import Derived.Test.YtbagcjlimdilpaaGreatHhJ19
import Derived.Laws.AppendOwnNone
import Derived.Test.YtbagcjlimdilpaaGreatHhHxN
import Derived.Test.YtbagcjlimdilpaaGreatHhJ6
import Derived.Test.YtbagcjlimdilpaaGreatHhRefZ
import Derived.Deep.RegionHeld3
import Derived.Deep.AppendLies
import Derived.Deep.CutRange
import Derived.Deep.DrawnRows
import Derived.Test.YtbagcjlimdilpaaGreatHhJ17
import Derived.Test.YtbagcjlimdilpaaGreatHhJ8
import Derived.Test.YtbagcjlimdilpaaGreatHhJ18
import Derived.Test.YtbagcjlimdilpaaGreatHhJ16
import Derived.BigQuiet
/- The walk of copied: a shape of its own. -/
namespace Go.Proofs.YtbagcjlimdilpaaGreat
open Go.RowKit Go.Maps

/-- a shape while it is copied -/
structure Copying (w : World) (v : Value) (r0 r1 r2 r3 : Int) (l : List Th) (i : Nat) (v' : Value) (us' : List Value) (wr : World) : Prop where
  s : wr.heap[w.heap.size]? = some (.cells #[v, .int .i64 r0, .int .i64 r1, .int .i64 r2, .int .i64 r3] 37 (0, 0))
  r : wr.heap[w.heap.size + 1]? = some (.cells #[.slice none 0 0, .int .i64 0, .int .i64 0, .int .i64 0, .int .i64 0] 37 (0, 0))
  o : wr.heap[w.heap.size + 2]? = some (.cells #[v', .int .i64 r0, .int .i64 r1, .int .i64 r2, .int .i64 r3] 37 (0, 0))
  t : ThAt wr v' (l.take i) us'
  n : ∀ k, ThB v' us' k → w.heap.size ≤ k
  f : Fr New w wr
end Go.Proofs.YtbagcjlimdilpaaGreat
/- Objects as the document tells them; the walk of 'sameObjects'. -/
namespace Go.Proofs.YtbagcjlimdilpaaGreat
open Go.RowKit Go.Maps

/-- objects that were told: the list, and each one's words in a row with room behind it -/
structure ObAt (B : Nat) (w : World) (v : Value) (l : List Th) (us : List Value) : Prop where
  own : w.ownsRow B 96 4 v l.length (ktCells l us)
  len : us.length = l.length
  rows : ∀ i (hi : i < l.length) (hv : i < us.length), Own B w us[i] (l[i]).2
theorem ObAt.nil (B : Nat) (w : World) : ObAt B w (.slice none 0 0) [] [] := ⟨World.ownsRow_nil _ _ _ _, rfl, fun i hi => by simp at hi⟩
theorem ObAt.new {B : Nat} {w w' : World} {v : Value} {l : List Th} {us : List Value} (h : ObAt B w v l us) (hf : Fr New w w') : ObAt B w' v l us :=
  ⟨hf.owns h.own (fun _ _ h => h), h.len, fun i hi hv => hf.owns (h.rows i hi hv) (fun _ _ h => h)⟩
theorem ObAt.snoc {B : Nat} {w w7 : World} {v v7 v4 : Value} {l : List Th} {us : List Value} {x : Th} (h : ObAt B w v l us) (hf : Fr (fun k => v.ownBlock = some k) w w7) (hu : Own B w7 v4 x.2)
    (ho : w7.ownsRow B 96 4 v7 (l.length + 1) (ktCells l us ++ ktCell x v4)) : ObAt B w7 v7 (l ++ [x]) (us ++ [v4]) := by
  refine ⟨?_, by simp [h.len], fun i hi hv => ?_⟩
  · rw [ktCells_app _ _ _ _ h.len, List.length_append]
    simpa [ktCells] using ho
  · by_cases hil : i < l.length
    · have hiu : i < us.length := by rw [h.len]; exact hil
      rw [List.getElem_append_left hil, List.getElem_append_left hiu]
      refine hf.owns (h.rows i hil hiu) (fun g hg hg2 => ?_)
      obtain ⟨_, c, hc⟩ := own_block (h.rows i hil hiu) hg
      obtain ⟨_, c2, hc2⟩ := own_block h.own hg2
      exact type_ne hc hc2 (by decide) rfl
    · have hie : i = l.length := by simp at hi; omega
      subst hie
      have hiu : us.length ≤ l.length := by rw [h.len]; exact Nat.le_refl _
      rw [List.getElem_append_right (Nat.le_refl _), List.getElem_append_right hiu]
      simpa [h.len] using hu
/-- one object of the document's -/
theorem ObAt.cells {B : Nat} {w : World} {a : Option Addr} {n c : Nat} {l : List Th} {us : List Value} (h : ObAt B w (.slice a n c) l us) {i : Nat} (hi : i < l.length) (hu : i < us.length) :
    ∃ g, a = some ⟨g, 0, none⟩ ∧ w.cell? ⟨g, i * 4, none⟩ = some (.int .i64 (((l[i]).1.block + 1 : Nat) : Int)) ∧ w.cell? ⟨g, i * 4 + 1, none⟩ = some (.int .i64 (l[i]).1.span) ∧ w.cell? ⟨g, i * 4 + 2, none⟩ = some (.int .i64 (l[i]).1.ptrs) ∧ w.cell? ⟨g, i * 4 + 3, none⟩ = some us[i] := by
  rcases h.own.2 with ⟨_, hn⟩ | ⟨g, cap, cur, hv, hb, hh, hnc, hcm, hcs, htk⟩
  · omega
  · simp only [Value.slice.injEq] at hv
    obtain ⟨rfl, _, _⟩ := hv
    have hc : ∀ j, j < 4 → w.cell? ⟨g, i * 4 + j, none⟩ = (ktCell l[i] us[i])[j]? := fun j hj => by
      rw [← ktCells_get l us i hi hu j hj, ← htk, (block_cells hh).1, List.getElem?_take_of_lt (by omega)]
      simp
    exact ⟨g, rfl, (hc 0 (by omega)).trans rfl, (hc 1 (by omega)).trans rfl, (hc 2 (by omega)).trans rfl, (hc 3 (by omega)).trans rfl⟩
/-- one object of the program's -/
theorem ToldO.cells {B : Nat} {w : World} {a : Option Addr} {n c : Nat} {now : List Int} {l : List Ob} {gs : List Nat} (h : ToldO B w (.slice a n c) now l gs) {i : Nat} (hi : i < l.length) (hg : i < gs.length) :
    ∃ g, a = some ⟨g, 0, none⟩ ∧ w.cell? ⟨g, i * 4, none⟩ = some (.int .i64 (((l[i]).block + 1 : Nat) : Int)) ∧ w.cell? ⟨g, i * 4 + 1, none⟩ = some (.int .i64 (l[i]).span) ∧ w.cell? ⟨g, i * 4 + 2, none⟩ = some (.int .i64 (l[i]).ptrs) ∧ w.cell? ⟨g, i * 4 + 3, none⟩ = some (.slice (some ⟨gs[i], 0, none⟩) (8 * (l[i]).span - 1) (8 * (l[i]).span - 1)) := by
  rcases h.own.2 with ⟨_, hn⟩ | ⟨g, cap, cur, hv, hb, hh, hnc, hcm, hcs, htk⟩
  · omega
  · simp only [Value.slice.injEq] at hv
    obtain ⟨rfl, _, _⟩ := hv
    have hc : ∀ j, j < 4 → w.cell? ⟨g, i * 4 + j, none⟩ = (aoCell l[i] gs[i])[j]? := fun j hj => by
      rw [← aoCells_get l gs i hi hg j hj, ← htk, (block_cells hh).1, List.getElem?_take_of_lt (by omega)]
      simp
    exact ⟨g, rfl, (hc 0 (by omega)).trans rfl, (hc 1 (by omega)).trans rfl, (hc 2 (by omega)).trans rfl, (hc 3 (by omega)).trans rfl⟩

set_option maxHeartbeats 4000000 in
set_option maxRecDepth 100000 in
theorem sameObjects_true (va vb : Value) (now : List Int) (gs : List Nat) (us : List Value) (B B' : Nat) (w : World) (ha : ToldO B w va now (objs now) gs) (hb : ObAt B' w vb (things now) us) :
    Calls Tryz.prog 82 #[va, vb] w fun e w' => e = .returned (.bool true) ∧ Fr New w w' := by
  have hlt : (things now).length = (objs now).length := things_len now
  have hl32 := objs_len now
  obtain ⟨a1, c1, hv1⟩ := own_slice ha.own
  obtain ⟨a2, c2, hv2⟩ := own_slice hb.own
  rw [hlt] at hv2
  subst hv1
  subst hv2
  have hsp : ∀ o ∈ objs now, o.span ≤ 4 := fun o ho => (objs_in ho).2.2.1
  obtain ⟨len, hlen⟩ : ∃ len, len = (objs now).length := ⟨_, rfl⟩
  have HA : Hid (∀ i, i < len → ∃ g gi M b s p, a1 = some ⟨g, 0, none⟩ ∧ w.cell? ⟨g, i * 4, none⟩ = some (.int .i64 b) ∧ w.cell? ⟨g, i * 4 + 1, none⟩ = some (.int .i64 s) ∧ w.cell? ⟨g, i * 4 + 2, none⟩ = some (.int .i64 p) ∧ w.cell? ⟨g, i * 4 + 3, none⟩ = some (.slice (some ⟨gi, 0, none⟩) M M) ∧
      ∃ g2 ai ci, a2 = some ⟨g2, 0, none⟩ ∧ w.cell? ⟨g2, i * 4, none⟩ = some (.int .i64 b) ∧ w.cell? ⟨g2, i * 4 + 1, none⟩ = some (.int .i64 s) ∧ w.cell? ⟨g2, i * 4 + 2, none⟩ = some (.int .i64 p) ∧ w.cell? ⟨g2, i * 4 + 3, none⟩ = some (.slice ai M ci) ∧
      ∀ w1, Fr New w w1 → Calls Tryz.prog 87 #[.slice (some ⟨gi, 0, none⟩) M M, .slice ai M ci] w1 fun e w' => e = .returned (.bool true) ∧ ∃ m, w' = w1.drewN m) := fun i hi => by
    have hi1 : i < (objs now).length := by omega
    have hi2 : i < (things now).length := by omega
    have hg : i < gs.length := by rw [← ha.len]; exact hi1
    have hu : i < us.length := by rw [hb.len]; exact hi2
    obtain ⟨g, e1, x0, x1, x2, x3⟩ := ha.cells hi1 hg
    obtain ⟨g2, e2, y0, y1, y2, y3⟩ := hb.cells hi2 hu
    have hth : (things now)[i] = ((objs now)[i], objW now (objs now)[i]) := by simp [things]
    have hro := hb.rows i hi2 hu
    rw [hth] at y0 y1 y2 hro
    have hM : (objW now (objs now)[i]).length = 8 * ((objs now)[i]).span - 1 := by simp [objW]
    obtain ⟨ai, ci, e3, hm, hr, _⟩ := own_row hro
    rw [e3, hM] at y3
    refine ⟨g, gs[i], 8 * ((objs now)[i]).span - 1, _, _, _, e1, x0, x1, x2, x3, g2, ai, ci, e2, y0, y1, y2, y3, fun w1 hf1 => ?_⟩
    exact same_len _ _ _ _ (objW now (objs now)[i]) _ w1 hM (by rw [← hM]; exact hm) (rowU_fr hf1 (Row.rowU (ha.rows i hi1 hg)) (fun _ _ h => h)) (rowU_fr hf1 hr (fun _ _ h => h))
  rw [← hlen] at hl32 ⊢
  clear ha hb hlen hlt hsp
  go_enter Tryz.func82, Tryz.ntmps82
  go_wp2
  go_loopg [5] len (fun gh i wr => ∃ k : Nat, k ≤ len ∧ gh = len - k ∧ i = .int .i64 k ∧ Fr New w wr)
  case atStart => exact ⟨0, Nat.zero_le _, rfl, rfl, Fr.refl _ _⟩
  case round =>
    obtain ⟨k, hk, rfl, rfl, hf⟩ := hrel
    by_cases hlt : k < len
    · have hd : decide (k < len) = true := by simpa using hlt
      obtain ⟨g, gi, M, b, s, p, rfl, x0, x1, x2, x3, g2, ai, ci, rfl, y0, y1, y2, y3, hS⟩ := HA.out k hlt
      have HS : Hid (∀ w1, Fr New wr w1 → Calls Tryz.prog 87 #[.slice (some ⟨gi, 0, none⟩) M M, .slice ai M ci] w1 fun e w' => e = .returned (.bool true) ∧ ∃ m, w' = w1.drewN m) := fun w1 h1 => hS w1 (hf.same h1)
      replace x0 := hf.cell x0 id
      replace x1 := hf.cell x1 id
      replace x2 := hf.cell x2 id
      replace x3 := hf.cell x3 id
      replace y0 := hf.cell y0 id
      replace y1 := hf.cell y1 id
      replace y2 := hf.cell y2 id
      replace y3 := hf.cell y3 id
      have HF : Hid (Fr New w wr) := hf
      clear hS hf
      go_upto_region 6 with fail
      go_quiet (first | (go_at_call 87; refine Calls.quiet_of (HS.out _ ?_); exact (Fr.refl New wr).drewN _) | fail)
      go_wp2
      go_quiet (fail)
      go_wp2
      go_roundg (len - (k + 1))
      case measure => omega
      case rel => exact ⟨k + 1, by omega, rfl, by go_num, by first | exact HF.out | exact HF.out.drewN _ | exact (HF.out.drewN _).drewN _⟩
    · go_wp2
      go_ret
      exact ⟨rfl, hf⟩
end Go.Proofs.YtbagcjlimdilpaaGreat
/- The document's Objects. -/
namespace Go.Proofs.YtbagcjlimdilpaaGreat
open Go.RowKit Go.Maps
attribute [local go_sem ↓] Go.wp_at_zero Go.wp_at_succ

theorem own_up {w : World} {B B' : Nat} {e : TypeId} {size : Nat} {v : Value} {n : Nat} {xs : List Value} (h : w.ownsRow B e size v n xs) (hb : B' ≤ B) : w.ownsRow B' e size v n xs := own_le h hb
set_option maxHeartbeats 2000000 in
set_option maxRecDepth 100000 in
theorem robjs_any (hb gn cn L : Nat) (vw vs : Value) (now : List Int) (w : World) (h : RH hb gn cn L vw vs now w) :
    Calls Tryz.prog 81 #[.pointer (some ⟨hb, 0, none⟩)] w fun e w' => ∃ v us, e = .returned v ∧ ObAt w.heap.size w' v (things now) us ∧ Fr New w w' := by
  obtain ⟨i0, hi0, hz0, hz1, hz2⟩ := info_parts Tryz.info50
  obtain ⟨i1, hi1, hy0, hy1, hy2⟩ := info_parts Tryz.info96
  have HWK : Hid (Calls Tryz.prog 126 #[.slice (some ⟨gn, 0, none⟩) L cn] w fun e w' => ∃ vl vb, e = .returned (.tuple #[vl, vb]) ∧ LiesO w' vl (objs now) ∧ Fr New w w') := h.walk
  have HRH : Hid (∀ w1, Fr New w w1 → RH hb gn cn L vw vs now w1) := fun w1 hf => h.fr hf
  have HLN : Hid (now.length = L) := h.len
  have hnb := nblk_some h.n0
  have HIN : Hid (∀ o ∈ objs now, 106 + 8 * (o.block + o.span) ≤ L ∧ 1 ≤ o.span ∧ o.span ≤ 4 ∧ o.ptrs < 8 * o.span ∧ o.block < 32) := fun o ho => by
    have := objs_in ho
    have := nblk_le now.length
    rw [h.len] at *
    exact ⟨by omega, by omega, by omega, by omega, by omega⟩
  have hl32 := objs_len now
  have hc1 : w.cell? ⟨hb, 1, none⟩ = some (.slice (some ⟨gn, 0, none⟩) L cn) := ((block_cells h.blk).1 1).trans rfl
  have hLc : L ≤ cn := by
    rcases h.own.2 with ⟨hv, _⟩ | ⟨g', cap', cu', hv, _, _, hnc, _⟩
    · cases hv
    · cases hv; exact hnc
  have hL362 : L ≤ 362 := by omega
  obtain ⟨l, hl⟩ : ∃ l, l = objs now := ⟨_, rfl⟩
  have HTH : Hid (things now = l.map (fun o => (o, objW now o))) := by show _ = _; rw [hl]; rfl
  rw [← hl] at HWK HIN hl32
  clear hl h hnb
  go_enter Tryz.func81, Tryz.ntmps81
  go_wp2_with (first
    | (go_at_call 126; refine HWK.out.mono ?_; rintro e w1 ⟨vl, vb, rfl, hlo, hf1⟩; obtain ⟨av, cv, hvl, _⟩ := id hlo; subst hvl)
    | fail)
  have HLO : Hid (∀ w', Fr New w1 w' → LiesO w' (.slice av l.length cv) l) := fun w' hf => hlo.fr hf (fun _ _ h => h)
  have HF1 : Hid (Fr New w w1) := hf1
  clear hlo hf1 HWK
  go_loopg [3, 6] l.length (fun gh v t wr => ∃ (i : Nat) (us : List Value), i ≤ l.length ∧ gh = l.length - i ∧ t = .int .i64 i ∧ ObAt w1.heap.size wr v ((things now).take i) us ∧ Fr New w1 wr)
  case atStart => exact ⟨0, [], by omega, rfl, rfl, ObAt.nil _ _, Fr.refl _ _⟩
  case round =>
    obtain ⟨i, us, hil, rfl, rfl, hT, hF⟩ := hrel
    have hc1' : wr.cell? ⟨hb, 1, none⟩ = some (.slice (some ⟨gn, 0, none⟩) L cn) := (HF1.out.same hF).cell hc1 id
    by_cases hi : i < l.length
    · have hd0 : decide ((i : Int) < (l.length : Int)) = true := by simp; omega
      obtain ⟨_, _, _, _, _, hlies⟩ := HLO.out wr hF
      obtain ⟨gv, hgv, hgl, hcells⟩ := hlies (by omega)
      rename_i hva _ _
      cases hva
      cases hgv
      obtain ⟨e0, e1, e2⟩ := hcells i hi
      have hin := HIN.out l[i] (List.getElem_mem _)
      obtain ⟨o, ho⟩ : ∃ o, o = l[i] := ⟨_, rfl⟩
      have HO : Hid (o = l[i]) := ho
      rw [← ho] at e0 e1 e2 hin
      clear ho hcells hlies
      obtain ⟨b, sp, pt⟩ := o
      simp only at e0 e1 e2 hin
      go_upto_region 7 with fail
      have htq : (wr.alloc (.cells #[.int .i64 b, .int .i64 sp, .int .i64 pt] 190)).heap[wr.heap.size]? = some (.cells #[.int .i64 b, .int .i64 sp, .int .i64 pt] 190 (0, 0)) := Go.Deep.blk_alloc_new wr _
      have hfq : Fr New wr (wr.alloc (.cells #[.int .i64 b, .int .i64 sp, .int .i64 pt] 190)) := (Fr.refl _ _).alloc _
      obtain ⟨W2, hW2⟩ : ∃ W2, W2 = wr.alloc (.cells #[.int .i64 b, .int .i64 sp, .int .i64 pt] 190) := ⟨_, rfl⟩
      obtain ⟨gt, hgt⟩ : ∃ gt, gt = wr.heap.size := ⟨_, rfl⟩
      rw [← hW2] at htq hfq
      rw [← hgt] at htq
      rw [← hW2, ← hgt]
      have HFQ : Hid (Fr New wr W2) := hfq
      obtain ⟨ht, hz⟩ := block_cells htq
      have t0 : W2.cell? ⟨gt, 0, none⟩ = some (.int .i64 (b : Int)) := (ht 0).trans rfl
      have t1 : W2.cell? ⟨gt, 1, none⟩ = some (.int .i64 (sp : Int)) := (ht 1).trans rfl
      have t2 : W2.cell? ⟨gt, 2, none⟩ = some (.int .i64 (pt : Int)) := (ht 2).trans rfl
      have c1 : W2.cell? ⟨hb, 1, none⟩ = some (.slice (some ⟨gn, 0, none⟩) L cn) := hfq.cell hc1' id
      obtain ⟨A, hA⟩ : ∃ A : Nat, A = 107 + 8 * b := ⟨_, rfl⟩
      obtain ⟨M, hM⟩ : ∃ M : Nat, M = 8 * sp - 1 := ⟨_, rfl⟩
      obtain ⟨Z, hZ⟩ : ∃ Z : Nat, Z = A + M := ⟨_, rfl⟩
      have HP0 : Hid (∀ w', Calls Tryz.prog 129 #[.agg #[.int .i64 (b : Int), .int .i64 (sp : Int), .int .i64 (pt : Int)], .int .i64 0] w' fun e w'' => e = .returned (.int .i64 (A : Int)) ∧ Fr New w' w'') := fun w' => by
        have := place_any ⟨b, sp, pt⟩ 0 w' (by simp only; omega) (by omega) (by omega)
        rwa [show 106 + 8 * ((⟨b, sp, pt⟩ : Ob).block : Int) + 1 + 0 = (A : Int) by simp only; omega] at this
      have HP1 : Hid (∀ w', Calls Tryz.prog 129 #[.agg #[.int .i64 (b : Int), .int .i64 (sp : Int), .int .i64 (pt : Int)], .int .i64 (M : Int)] w' fun e w'' => e = .returned (.int .i64 (Z : Int)) ∧ Fr New w' w'') := fun w' => by
        have := place_any ⟨b, sp, pt⟩ (M : Int) w' (by simp only; omega) (by omega) (by omega)
        rwa [show 106 + 8 * ((⟨b, sp, pt⟩ : Ob).block : Int) + 1 + (M : Int) = (Z : Int) by simp only; omega] at this
      have HKP : Hid (∀ w', Fr New W2 w' → w'.cell? ⟨hb, 1, none⟩ = some (.slice (some ⟨gn, 0, none⟩) L cn) ∧ w'.cell? ⟨gt, 0, none⟩ = some (.int .i64 (b : Int)) ∧ w'.cell? ⟨gt, 1, none⟩ = some (.int .i64 (sp : Int)) ∧ w'.cell? ⟨gt, 2, none⟩ = some (.int .i64 (pt : Int))) := fun w' hf => ⟨hf.cell c1 id, hf.cell t0 id, hf.cell t1 id, hf.cell t2 id⟩
      have hw8 : IntKind.i64.wrap (8 * (sp : Int)) = 8 * (sp : Int) := by rw [IntKind.wrap_i64]; omega
      have hw9 : IntKind.i64.wrap (M : Int) = (M : Int) := by rw [IntKind.wrap_i64]; omega
      have hw7 : 8 * (sp : Int) - 1 = (M : Int) := by omega
      have bZ1 : A ≤ Z := by omega
      have bZ2 : Z ≤ cn := by omega
      have bZ3 : (A : Int) ≤ (Z : Int) := by omega
      have bZ4 : (Z : Int) ≤ (cn : Int) := by omega
      have bZ5 : (0 : Int) ≤ (A : Int) := by omega
      have bZ6 : Z - A = M := by omega
      have hcA : ¬ (cn = A) := by omega
      have hcB : ¬ (A = cn) := by omega
      have bA : A + M ≤ L := by omega
      have HAM : Hid (A = 107 + 8 * b ∧ M = 8 * sp - 1) := ⟨hA, hM⟩
      have HNW : Hid (∀ v, Fr New wr v → ∀ j u, ((objW now ⟨b, sp, pt⟩).map (Value.int .u64))[j]? = some u → v.cell? ((⟨gn, A, none⟩ : Addr).add j) = some u) := fun v hf j u hj => by
        have hR := HRH.out v ((HF1.out.same hF).same hf)
        have hjl : j < (objW now ⟨b, sp, pt⟩).length := by
          rcases Nat.lt_or_ge j (objW now ⟨b, sp, pt⟩).length with h | h
          · exact h
          · rw [List.getElem?_eq_none (by simpa using h)] at hj; cases hj
        have hjM : j < 8 * sp - 1 := by simpa [objW] using hjl
        rw [add_plain, hR.cell (A + j) (by omega)]
        simp [objW, hjM] at hj
        rw [← hj]
        congr 3
        rw [hA]
        simp only [pl]
        omega
      have HML : Hid ((objW now ⟨b, sp, pt⟩).length = M) := by show _ = _; rw [hM]; simp [objW]
      have HEM : Hid (∀ v, Fr New (W2.alloc (.cells #[] 50)) v → v.ownsRow W2.heap.size 50 1 (.slice (some ⟨W2.heap.size, 0, none⟩) 0 0) 0 []) := fun v hf => hf.owns (emptyU W2) (fun _ _ h => h)
      have hgtW : gt < W2.heap.size := lt_of_block htq
      have hhbW : hb < W2.heap.size := World.block_lt_of_cell? W2 _ c1
      have HK7 : Hid (∀ N v2 w7, W2.heap.size ≤ N → Fr New W2 v2 → v2.grownBy w7 (Value.slice (some ⟨N, 0, none⟩) 0 0).ownBlock → (w7.cell? ⟨hb, 1, none⟩ = some (.slice (some ⟨gn, 0, none⟩) L cn) ∧ w7.cell? ⟨gt, 0, none⟩ = some (.int .i64 (b : Int)) ∧ w7.cell? ⟨gt, 1, none⟩ = some (.int .i64 (sp : Int)) ∧ w7.cell? ⟨gt, 2, none⟩ = some (.int .i64 (pt : Int))) ∧ Fr New W2 w7) := fun N v2 w7 hN hf hg => by
        have h7 : Fr (fun k => k = N) v2 w7 := (Fr.refl _ _).grown hg (fun k _ e => (Option.some.inj e).symm)
        have h8 : Fr New W2 w7 := hf.trans h7 (fun j hj e => by omega)
        exact ⟨HKP.out w7 h8, h8⟩
      have hM31 : M ≤ 31 := by omega
      obtain ⟨a3, c3, hv3⟩ := own_slice hT.own
      have HLT : Hid (((things now).take i).length = i) := by show _ = _; rw [List.length_take, HTH.out]; simp; omega
      rw [HLT.out] at hv3
      subst hv3
      have HT : Hid (ObAt w1.heap.size wr (.slice a3 i c3) ((things now).take i) us) := hT
      have HNXT : Hid ((things now).take (i + 1) = (things now).take i ++ [((⟨b, sp, pt⟩ : Ob), objW now ⟨b, sp, pt⟩)]) := by
        show _ = _
        have hti : i < (things now).length := by rw [HTH.out]; simpa using hi
        rw [List.take_succ_eq_append_getElem hti]
        congr 2
        simp only [HTH.out, List.getElem_map]
        rw [← HO.out]
      have HFW : Hid (Fr New w1 wr) := hF
      have bM31 : M ≤ 31 := by omega
      have bM7 : 7 ≤ M := by omega
      clear hW2 hgt ht hz htq hfq hc1' e0 e1 e2 hA hM hT hF hZ
      go_cut [8] from 27 to 41 (fun v wx => ∃ g7 c7, v = .slice (some ⟨g7, 0, none⟩) M c7 ∧ W2.heap.size ≤ g7 ∧ wx.ownsRow W2.heap.size 50 1 (.slice (some ⟨g7, 0, none⟩) M c7) M ((objW now ⟨b, sp, pt⟩).map (Value.int .u64)) ∧ Fr New W2 wx)
      case first =>
        go_region_held3 (fun w' => w'.cell? ⟨hb, 1, none⟩ = some (.slice (some ⟨gn, 0, none⟩) L cn) ∧ w'.cell? ⟨gt, 0, none⟩ = some (.int .i64 (b : Int)) ∧ w'.cell? ⟨gt, 1, none⟩ = some (.int .i64 (sp : Int)) ∧ w'.cell? ⟨gt, 2, none⟩ = some (.int .i64 (pt : Int))) (first | with_reducible exact hkp7 | go_keep | with_reducible exact hkp2 | with_reducible exact hkp1)
          (first
            | (go_at_call_of 129 (Value.int .i64 0); refine (HP0.out _).mono ?_; rintro e v1 ⟨rfl, hv1⟩; have hr1 : Fr New W2 v1 := (by first | with_reducible exact (Fr.refl New W2).same hv1 | with_reducible exact (Fr.refl New W2).drew.same hv1 | with_reducible exact ((Fr.refl New W2).alloc _).same hv1 | with_reducible exact ((Fr.refl New W2).alloc _).drew.same hv1 | with_reducible exact ((Fr.refl New W2).drew.alloc _).same hv1 | with_reducible exact ((Fr.refl New W2).drew.alloc _).drew.same hv1); have hkp1 : v1.cell? ⟨hb, 1, none⟩ = some (.slice (some ⟨gn, 0, none⟩) L cn) ∧ v1.cell? ⟨gt, 0, none⟩ = some (.int .i64 (b : Int)) ∧ v1.cell? ⟨gt, 1, none⟩ = some (.int .i64 (sp : Int)) ∧ v1.cell? ⟨gt, 2, none⟩ = some (.int .i64 (pt : Int)) := HKP.out v1 hr1; try (have hemA : v1.ownsRow W2.heap.size 50 1 (.slice (some ⟨W2.heap.size, 0, none⟩) 0 0) 0 [] := (by first | with_reducible exact ((Fr.refl New _).same hv1).owns (emptyU W2) (fun _ _ h => h) | with_reducible exact ((Fr.refl New _).drew.same hv1).owns (emptyU W2) (fun _ _ h => h))))
            | (go_at_call 129; refine (HP1.out _).mono ?_; rintro e v2 ⟨rfl, hv2⟩; have hr2 : Fr New W2 v2 := (by first | with_reducible exact hr1.same hv2 | with_reducible exact hr1.drew.same hv2 | with_reducible exact (hr1.alloc _).same hv2 | with_reducible exact (hr1.alloc _).drew.same hv2 | with_reducible exact (hr1.drew.alloc _).same hv2 | with_reducible exact (hr1.drew.alloc _).drew.same hv2); have hkp2 : v2.cell? ⟨hb, 1, none⟩ = some (.slice (some ⟨gn, 0, none⟩) L cn) ∧ v2.cell? ⟨gt, 0, none⟩ = some (.int .i64 (b : Int)) ∧ v2.cell? ⟨gt, 1, none⟩ = some (.int .i64 (sp : Int)) ∧ v2.cell? ⟨gt, 2, none⟩ = some (.int .i64 (pt : Int)) := HKP.out v2 hr2; (try (have hemA2 : v2.ownsRow W2.heap.size 50 1 (.slice (some ⟨W2.heap.size, 0, none⟩) 0 0) 0 [] := (by first | with_reducible exact ((Fr.refl New _).same hv2).owns hemA (fun _ _ h => h) | with_reducible exact ((Fr.refl New _).drew.same hv2).owns hemA (fun _ _ h => h)))); (try (have hemB : v2.ownsRow v1.heap.size 50 1 (.slice (some ⟨v1.heap.size, 0, none⟩) 0 0) 0 [] := (by first | exact hv2.owns (emptyU v1) (fun _ _ h => h) | exact hv2.owns (((Fr.refl New _).drew).owns (emptyU v1) (fun _ _ h => h)) (fun _ _ h => h)))))
            | (refine step_append_lies _ (by rfl) (.tmp 27) (.tmp 40) 43 (by rfl) W2.heap.size 50 i0 (.int .u64 0) 1 8 Tryz.underlying43 hi0 hz0 hz1 hz2 rfl (by decide) (.slice (some ⟨W2.heap.size, 0, none⟩) 0 0) 0 [] (by rfl) (by first | with_reducible exact hemA2 | exact ((Fr.refl New v2).drew).owns hemA2 (fun _ _ h => h)) ⟨gn, A, none⟩ M (cn - A) ((objW now ⟨b, sp, pt⟩).map (Value.int .u64)) (by simp [Act.eval]) (by simp [HML.out]) (HNW.out _ (by first | with_reducible exact HFQ.out.same hr2 | with_reducible exact (HFQ.out.same hr2).drew)) (ints_oneU _) (by omega) (by unfold maxLen; omega) (by omega) (by have := hr2.size; first | omega | (simp; omega)) _ rfl ?_; intro g7 c7 w7 ho7 hg7 hb7 _; obtain ⟨hkp7, hr7⟩ := HK7.out W2.heap.size _ w7 (Nat.le_refl _) (by first | with_reducible exact hr2 | with_reducible exact (hr2).drew) hg7)
            | (refine step_append_lies _ (by rfl) (.tmp 27) (.tmp 40) 43 (by rfl) W2.heap.size 50 i0 (.int .u64 0) 1 8 Tryz.underlying43 hi0 hz0 hz1 hz2 rfl (by decide) (.slice (some ⟨v1.heap.size, 0, none⟩) 0 0) 0 [] (by rfl) (own_up (by first | with_reducible exact hemB | exact ((Fr.refl New v2).drew).owns hemB (fun _ _ h => h)) hr1.size) ⟨gn, A, none⟩ M (cn - A) ((objW now ⟨b, sp, pt⟩).map (Value.int .u64)) (by simp [Act.eval]) (by simp [HML.out]) (HNW.out _ (by first | with_reducible exact HFQ.out.same hr2 | with_reducible exact (HFQ.out.same hr2).drew)) (ints_oneU _) (by omega) (by unfold maxLen; omega) (by omega) (by have := hr2.size; first | omega | (simp; omega)) _ rfl ?_; intro g7 c7 w7 ho7 hg7 hb7 _; obtain ⟨hkp7, hr7⟩ := HK7.out v1.heap.size _ w7 hr1.size (by first | with_reducible exact hr2 | with_reducible exact (hr2).drew) hg7)
            | (refine step_append_lies _ (by rfl) (.tmp 27) (.tmp 40) 43 (by rfl) W2.heap.size 50 i0 (.int .u64 0) 1 8 Tryz.underlying43 hi0 hz0 hz1 hz2 rfl (by decide) (.slice (some ⟨v2.heap.size, 0, none⟩) 0 0) 0 [] (by rfl) (own_up (by first | with_reducible exact emptyU v2 | exact ((Fr.refl New _).drew).owns (emptyU v2) (fun _ _ h => h)) hr2.size) ⟨gn, A, none⟩ M (cn - A) ((objW now ⟨b, sp, pt⟩).map (Value.int .u64)) (by simp [Act.eval]) (by simp [HML.out]) (HNW.out _ (by first | with_reducible exact (HFQ.out.same hr2).alloc _ | with_reducible exact (HFQ.out.same hr2).drew.alloc _ | with_reducible exact ((HFQ.out.same hr2).alloc _).drew | with_reducible exact ((HFQ.out.same hr2).drew.alloc _).drew)) (ints_oneU _) (by omega) (by unfold maxLen; omega) (by omega) (by have := hr2.size; first | omega | (simp; omega)) _ rfl ?_; intro g7 c7 w7 ho7 hg7 hb7 _; obtain ⟨hkp7, hr7⟩ := HK7.out v2.heap.size _ w7 hr2.size (by first | with_reducible exact (hr2).alloc _ | with_reducible exact (hr2).drew.alloc _ | with_reducible exact ((hr2).alloc _).drew | with_reducible exact ((hr2).drew.alloc _).drew) hg7)
            | fail)
        all_goals
          go_wp2
          go_meet
          case rel => exact ⟨g7, c7, rfl, (own_block ho7 rfl).1, by simpa using ho7, hr7⟩
      case rest =>
        obtain ⟨g7, c7, rfl, hg7, ho7, hf7⟩ := hcut
        obtain ⟨k1, k2, k3, k4⟩ := HKP.out wc hf7
        have HTW : Hid (ObAt w1.heap.size wc (.slice a3 i c3) ((things now).take i) us) := HT.out.new (HFQ.out.same hf7)
        have hto : wc.ownsRow w1.heap.size 96 4 (.slice a3 i c3) i (ktCells ((things now).take i) us) := by have := HTW.out.own; rwa [HLT.out] at this
        have HO7 : Hid (Own w1.heap.size wc (.slice (some ⟨g7, 0, none⟩) M c7) (objW now ⟨b, sp, pt⟩)) := by
          show Own _ _ _ _
          unfold Own
          rw [HML.out]
          exact own_up ho7 (by have := HFW.out.size; have := HFQ.out.size; omega)
        have HWC : Hid (Fr New w1 wc) := HFW.out.same (HFQ.out.same hf7)
        have hw1s : w1.heap.size ≤ wc.heap.size := HWC.out.size
        have hgtc : gt < wc.heap.size := World.block_lt_of_cell? wc _ k2
        clear ho7 hf7 HKP HK7 HEM HNW HP0 HP1 k1 t0 t1 t2 c1
        go_wp2_with (first
          | (at_builtin; refine wpList_append_own_at _ rfl (.tmp 42) (.tmp 52) 93 rfl w1.heap.size 96 i1 _ 4 48 Tryz.underlying93 hi1 hy0 hy1 hy2 rfl (by decide) (.slice a3 i c3) i (ktCells ((things now).take i) us) rfl (hto.alloc _) ⟨wc.heap.size, 0, none⟩ 1 1 [.int .i64 ((b : Int) + 1), .int .i64 (sp : Int), .int .i64 (pt : Int), .slice (some ⟨g7, 0, none⟩) M c7] rfl rfl (World.news_of_block (Go.Deep.blk_alloc_new wc _)) (by intro u hu; simp only [List.mem_cons, List.not_mem_nil, or_false] at hu; rcases hu with rfl | rfl | rfl | rfl <;> rfl) (by unfold maxLen; omega) (by omega) (by simp; omega) ?_; intro v8 w8 ho8 hg8 _ hb8; obtain ⟨a8, c8, hv8⟩ := own_slice ho8; subst hv8)
          | fail)
        have h8 : Fr (fun k => (Value.slice a3 i c3).ownBlock = some k) wc w8 := ((Fr.refl _ wc).alloc _).grown hg8 (fun k _ hk => hk)
        have hobs := HTW.out.snoc (x := ((⟨b, sp, pt⟩ : Ob), objW now ⟨b, sp, pt⟩)) (v4 := .slice (some ⟨g7, 0, none⟩) M c7) h8 (h8.owns HO7.out (fun g hg hg2 => by
          obtain ⟨_, c, hc⟩ := own_block HO7.out hg
          obtain ⟨_, c2, hc2⟩ := own_block hto hg2
          exact type_ne hc hc2 (by decide) rfl)) (by rw [HLT.out]; simpa [ktCell] using ho8)
        have hfin : Fr New w1 w8 := HWC.out.trans h8 (fun j hj hv => by have := (own_block hto hv).1; omega)
        rw [← HNXT.out] at hobs
        go_roundg (l.length - (i + 1))
        case measure => omega
        case rel => exact ⟨i + 1, _, by omega, rfl, by go_num, hobs, hfin⟩
    · obtain rfl : i = l.length := by omega
      have hd0 : decide ((l.length : Int) < (l.length : Int)) = false := by simp
      rw [List.take_of_length_le (by rw [HTH.out]; simp)] at hT
      obtain ⟨a3, c3, rfl⟩ := own_slice hT.own
      clear hi hil
      go_wp2
      go_ret
      exact ⟨_, us, rfl, ⟨own_le hT.own HF1.out.size, hT.len, fun i hi hv => own_le (hT.rows i hi hv) HF1.out.size⟩, HF1.out.same hF⟩
end Go.Proofs.YtbagcjlimdilpaaGreat
/- What the law's steps make of a pair: Commit, Rollback, Image, Objects. -/
namespace Go.Proofs.YtbagcjlimdilpaaGreat
open Go.RowKit Go.Maps

section
variable {col : Nat → Nat} {X : Rest} {B b c N : Nat} {vws : Value} {nw : Nat} {xs : List Value} {vb : Value} {es : List Entry} {ps : List Nat} {ss os : List EntE} {w : World}
theorem StaX.below (S : StaX col X B b c N vws nw xs vb es ps ss os w) {w' : World} (hf : Fr New w w') : Below B w w' := hf.below S.p.size (fun _ _ h => h)
theorem StaX.same (S : StaX col X B b c N vws nw xs vb es ps ss os w) {w' : World} (hf : Fr New w w') : Below B w w' ∧ Sta B b (N + 200) w' := ⟨S.below hf, Sta.more ⟨_, _, _, _, _, _, _, _, _, _, _, S.new hf⟩ (by omega)⟩
theorem pair_commit (S : StaX col X B b c N vws nw xs vb es ps ss os w) (i : Nat) (hi : i < ps.length) {d : DV} (D : Duo d N ps[i] w) (hc1 : ∀ k, d.foot ps[i] k → col k = i + 1) (hc0 : ∀ k, d.kept k → col k = 0) (hN : N ≤ 1099510000000) :
    ∃ (c0 : Int) (PC : World → World → Prop), (∀ W, Fr New w W → Calls Tryz.prog 24 #[.pointer (some ⟨d.hb, 0, none⟩)] W fun e w1 => e = .returned (.int .i64 c0) ∧ PC W w1 ∧ w1.cell? ⟨ps[i], 1, none⟩ = some (.pointer (some ⟨d.rb, 0, none⟩))) ∧
      ∀ W w1, Fr New w W → PC W w1 → Calls Tryz.prog 84 #[.pointer (some ⟨d.rb, 0, none⟩)] w1 fun e w2 => e = .returned (.int .i64 c0) ∧ Below B w w2 ∧ Sta B b (N + 200) w2 := by
  have hsep : ∀ k, d.kept k → ¬ d.foot ps[i] k := fun k hk hf => by have := hc1 k hf; have := hc0 k hk; omega
  have hL : d.L = d.ws.length := D.lens.2.2
  by_cases hnow : d.now = d.ws
  · refine ⟨0, fun W w1 => Fr New W w1, fun W hf => ?_, fun W w1 hf h1 => ?_⟩
    · refine (hcommit_any d.hb d.tb d.cb d.mb d.g d.vs d.ws d.now d.st W (D.new hf).ph D.hw.two (by have := D.big.1; omega)).mono ?_
      rintro e w1 ⟨c, rfl, ⟨_, rfl, _, h⟩ | ⟨h, _⟩ | ⟨h, _⟩⟩
      · exact ⟨rfl, h, (D.new (hf.same h)).c1⟩
      · exact absurd hnow h
      · exact absurd hnow h
    · have hr := (D.new (hf.same h1)).rh
      rw [hnow] at hr
      refine (commit_none d.rb d.gw d.cw d.gn d.cn d.L d.vr d.ws d.st w1 hr).mono ?_
      rintro e w2 ⟨rfl, j, hj⟩
      have h2 : Fr New w w2 := by rw [hj]; exact (hf.same h1).drewN _
      exact ⟨rfl, S.same h2⟩
  · have hne : ∃ q, q < d.L ∧ wd d.now q ≠ wd d.ws q := by
      apply Classical.byContradiction
      intro hx
      refine hnow (wd_ext (D.hw.len) (fun q => ?_))
      by_cases hq : q < d.ws.length
      · apply Classical.byContradiction
        intro hn
        exact hx ⟨q, by omega, hn⟩
      · rw [wd_out (by have := D.hw.len; omega), wd_out (by omega)]
    have hdl : (diffS d.ws (nextS d.now) d.L).length = (recsOf d.ws (nextS d.now)).length := by rw [hL]; exact diff_len D.hw
    by_cases h48 : (recsOf d.ws (nextS d.now)).length ≤ 48
    · refine ⟨0, fun W w1 => ∃ vs', PH d.hb d.tb d.cb d.mb d.g vs' (pcommitW d.ws d.now) (pcommitW d.ws d.now) (d.st ++ pcommitSt d.ws d.now) w1 ∧ Fr (TurnedP d.tb d.mb d.g d.vs) W w1 ∧ Moved W d.vs vs', fun W hf => ?_, fun W w1 hf h1 => ?_⟩
      · refine (hcommit_any d.hb d.tb d.cb d.mb d.g d.vs d.ws d.now d.st W (D.new hf).ph D.hw.two (by have := D.big.1; omega)).mono ?_
        rintro e w1 ⟨c, rfl, ⟨h, _⟩ | ⟨_, h, _⟩ | ⟨_, _, rfl, vs', h1, h2, h3⟩⟩
        · exact absurd h hnow
        · omega
        · refine ⟨rfl, ⟨vs', h1, h2, h3⟩, h2.cell (D.new hf).c1 ?_⟩
          have DW := D.new hf
          rintro (e | e | e | e)
          · exact type_ne DW.blk DW.ph.tg.t.td (by decide) e
          · exact DW.ph.mapNe DW.blk e
          · exact type_ne DW.blk DW.ph.tg.t.wb (by decide) e
          · obtain ⟨_, c2, hc2⟩ := own_block DW.ph.tg.o e; exact type_ne DW.blk hc2 (by decide) rfl
      · obtain ⟨vs', h1, f1, m1⟩ := h1
        have DW := D.new hf
        refine (commit_some d.rb d.gw d.cw d.gn d.cn d.L d.vr d.ws d.now d.st w1 (DW.rhP f1) hne (by omega) (by have := D.big.1; omega)).mono ?_
        rintro e w2 ⟨rfl, vr', gn', cn', q1, q2, q3, q4⟩
        obtain ⟨e1, e2⟩ := commit_same D.hw
        rw [e1, e2] at q2
        obtain ⟨D', F, hft⟩ := DW.commit hsep h48 h1 f1 m1 q1 q2 q3 q4
        obtain ⟨r1, r2⟩ := (S.new hf).again i hi DW hc1 hc0 F D' hft (fun k hk => hk) (by omega) (Nat.le_refl _)
        exact ⟨rfl, (S.below hf).trans r1, r2⟩
    · refine ⟨4, fun W w1 => Fr New W w1, fun W hf => ?_, fun W w1 hf h1 => ?_⟩
      · refine (hcommit_any d.hb d.tb d.cb d.mb d.g d.vs d.ws d.now d.st W (D.new hf).ph D.hw.two (by have := D.big.1; omega)).mono ?_
        rintro e w1 ⟨c, rfl, ⟨h, _⟩ | ⟨_, _, rfl, _, h⟩ | ⟨_, h, _⟩⟩
        · exact absurd h hnow
        · exact ⟨rfl, h, (D.new (hf.same h)).c1⟩
        · omega
      · refine (commit_full d.rb d.gw d.cw d.gn d.cn d.L d.vr d.ws d.now d.st w1 (D.new (hf.same h1)).rh hne (by omega)).mono ?_
        rintro e w2 ⟨rfl, h2⟩
        exact ⟨rfl, S.same ((hf.same h1).same h2)⟩
theorem pair_back (S : StaX col X B b c N vws nw xs vb es ps ss os w) (i : Nat) (hi : i < ps.length) {d : DV} (D : Duo d N ps[i] w) (hc1 : ∀ k, d.foot ps[i] k → col k = i + 1) (hc0 : ∀ k, d.kept k → col k = 0) :
    ∃ (PC : World → World → Prop), (∀ W, Fr New w W → Calls Tryz.prog 22 #[.pointer (some ⟨d.hb, 0, none⟩)] W fun e w1 => e = .returned (.tuple #[]) ∧ PC W w1 ∧ w1.cell? ⟨ps[i], 1, none⟩ = some (.pointer (some ⟨d.rb, 0, none⟩))) ∧
      ∀ W w1, Fr New w W → PC W w1 → Calls Tryz.prog 85 #[.pointer (some ⟨d.rb, 0, none⟩)] w1 fun e w2 => e = .returned (.tuple #[]) ∧ Below B w w2 ∧ Sta B b (N + 200) w2 := by
  have hsep : ∀ k, d.kept k → ¬ d.foot ps[i] k := fun k hk hf => by have := hc1 k hf; have := hc0 k hk; omega
  refine ⟨fun W w1 => PH d.hb d.tb d.cb d.mb d.g d.vs d.ws d.ws d.st w1 ∧ Fr (fun k => k = d.mb) W w1, fun W hf => ?_, fun W w1 hf h1 => ?_⟩
  · have DW := D.new hf
    refine (hrollback_any d.hb d.tb d.cb d.mb d.g d.vs d.ws d.now d.st W DW.ph).mono ?_
    rintro e w1 ⟨rfl, h1, h2⟩
    exact ⟨rfl, ⟨h1, h2⟩, h2.cell DW.c1 (DW.ph.mapNe DW.blk)⟩
  · have DW := D.new hf
    refine (rollback_any d.rb d.gw d.cw d.L _ d.vr d.ws d.st w1 (DW.rhMap h1.2).g).mono ?_
    rintro e w2 ⟨rfl, gn', cn', q1, q2, q3, q4⟩
    obtain ⟨D', F, hft⟩ := DW.rollback hsep h1.1 h1.2 q1 q2 q3 q4
    obtain ⟨r1, r2⟩ := (S.new hf).again i hi DW hc1 hc0 F D' hft (fun k hk => hk) (Nat.le_refl _) (by omega)
    exact ⟨rfl, (S.below hf).trans r1, r2⟩
/-- the words of a pair go into the book, and become an image -/
theorem pair_image (S : StaX col X B b c N vws nw xs vb es ps ss os w) (i : Nat) (hi : i < ps.length) {d : DV} (D : Duo d N ps[i] w) (hN : N ≤ 1073740000) :
    ∃ (n : Nat) (PR : Nat → World → Prop) (PC : World → Prop), n ≤ 362 ∧ (∀ W, Fr New w W → Calls Tryz.prog 21 #[.pointer (some ⟨d.hb, 0, none⟩)] W fun e w1 => e = .returned (.slice (some ⟨W.heap.size, 0, none⟩) n n) ∧ PR W.heap.size w1 ∧ Fr New W w1) ∧
      (∀ g w1, Fr New w w1 → PR g w1 → Calls Tryz.prog 87 #[.slice (some ⟨g, 0, none⟩) n n, .slice (some ⟨d.gw, 0, none⟩) n d.cw] w1 fun e w2 => e = .returned (.bool true) ∧ PR g w2 ∧ Fr New w1 w2) ∧
      (∀ g w4, Fr New w w4 → w.heap.size ≤ g → PR g w4 → Calls Tryz.prog 88 #[.pointer (some ⟨b, 2, none⟩), .slice (some ⟨g, 0, none⟩) n n] w4 fun e w5 => e = .returned (.tuple #[]) ∧ PC w5 ∧ w5.cell? ⟨ps[i], 1, none⟩ = some (.pointer (some ⟨d.rb, 0, none⟩)) ∧ w5.cell? ⟨d.rb, 0, none⟩ = some (.slice (some ⟨d.gw, 0, none⟩) n d.cw)) ∧
      (∀ w5, PC w5 → Calls Tryz.prog 89 #[.pointer (some ⟨b, 0, none⟩), .slice (some ⟨d.gw, 0, none⟩) n d.cw] w5 fun e w6 => e = .returned (.tuple #[]) ∧ Below B w w6 ∧ Sta B b (N + 200) w6) ∧
      (∀ w1, Fr New w w1 → w1.cell? ⟨d.rb, 0, none⟩ = some (.slice (some ⟨d.gw, 0, none⟩) n d.cw)) := by
  have hL : d.L = d.ws.length := D.lens.2.2
  have hr0 := D.rh.cells.1
  rw [hL] at hr0
  have hrow : ∀ {w1 : World}, Fr New w w1 → RowU w1 (some ⟨d.gw, 0, none⟩) d.ws := fun hf => rowU_fr hf D.rh.g.rowU (fun _ _ h => h)
  refine ⟨d.ws.length, fun g w1 => Row w1 g d.ws, fun w5 => ∃ vb' es', PartsX (fun k => col k = 0) X B b (c + 1) vws nw xs vb' es' w5 ∧ ImgsX (fun k => col k = 0) w5 xs ∧ Fr (T0 b vws vb) w w5, D.lens.2.1, fun W hf => himage_any _ _ _ _ _ _ _ _ _ W (D.new hf).ph, fun g w1 hf hr => ?_, fun g w4 hf hg hr => ?_, fun w5 h5 => ?_, fun w1 hf => hf.cell hr0 id⟩
  · refine (same_len _ _ _ _ d.ws d.ws.length w1 rfl (by have := D.lens; unfold maxLen; omega) hr.rowU (hrow hf)).mono ?_
    rintro e w2 ⟨rfl, m, hm⟩
    have : Fr New w1 w2 := by rw [hm]; exact (Fr.refl _ _).drewN _
    exact ⟨rfl, hr.fr this id, this⟩
  · refine (words2_partsX S.p S.i hf (by have := S.cN; omega) (some ⟨g, 0, none⟩) (fun g' hg' => by simp only [Option.some.injEq, Addr.mk.injEq] at hg'; omega) d.ws d.ws.length rfl (by have := D.lens; omega) (.inr ⟨_, rfl, hr⟩)).mono ?_
    rintro e w5 ⟨rfl, vb', es', P5, I5, h5, _⟩
    refine ⟨rfl, ⟨vb', es', P5, I5, h5⟩, h5.cell D.c1 (fun ht => ?_), h5.cell hr0 (fun ht => ?_)⟩
    · exact L3.not D.blk (by unfold L3y; decide) (S.p.lty _ ht)
    · exact L3.not D.rh.g.blk (by unfold L3y; decide) (S.p.lty _ ht)
  · obtain ⟨vb', es', P5, I5, h5⟩ := h5
    obtain ⟨_, cw, hcw⟩ := own_block D.rh.g.ownw (g := d.gw) rfl
    refine (image2_partsX P5 I5 ⟨d.gw, 0, none⟩ d.ws d.ws.length d.cw rfl (by have := D.lens; omega) D.ph.uw (rowU_fr h5 D.rh.g.rowU (fun x hx ht => ?_))).mono ?_
    · cases hx
      exact S.p.notU _ _ hcw ht
    · rintro e w6 ⟨rfl, I6, h6⟩
      have hst := S.p.stay (Parts.imageFr h5 h6)
      exact ⟨rfl, hst.b, S.five hst I6 (Nat.le_succ _) (by have := S.cN; omega)⟩
end
end Go.Proofs.YtbagcjlimdilpaaGreat
/- What the law's steps make of a pair: Objects. -/
namespace Go.Proofs.YtbagcjlimdilpaaGreat
open Go.RowKit Go.Maps

section
variable {col : Nat → Nat} {X : Rest} {B b c N : Nat} {vws : Value} {nw : Nat} {xs : List Value} {vb : Value} {es : List Entry} {ps : List Nat} {ss os : List EntE} {w : World}
theorem L3.lt {w : World} {k : Nat} (h : L3 w k) : LT w k := by
  obtain ⟨cur, t, h, ht⟩ := h
  exact ⟨cur, t, h, by unfold LTy; rcases ht with h | h | h; exact .inl h; exact .inr (.inl h); exact .inr (.inr (.inl h))⟩
/-- one more list of objects in the book -/
theorem Side.withO {c' N' : Nat} {w' : World} (S : Side col X B c N ps ss os w) (hf : Fr (fun k => L3 w k ∨ X.o.ownBlock = some k) w w') {vo' : Value} {e : EntE} (ho : w'.ownsRow B 152 5 vo' (os.length + 1) (entCells os ++ e.cells)) (hg : e.good 96 4 mkO (fun k => col k = 0) w') (hc : c + 1 ≤ c') (hN : N ≤ N') : Side col ⟨X.h, X.s, vo'⟩ B c' N' ps ss (os ++ [e]) w' := by
  have hT : ∀ g cur t, ¬ L3y t → t ≠ 152 → w.heap[g]? = some (.cells cur t (0, 0)) → ¬ (L3 w g ∨ X.o.ownBlock = some g) := by
    rintro g cur t h1 h2 hg (h | h)
    · exact L3.not hg h1 h
    · obtain ⟨_, cur', hh⟩ := own_block S.ro h; exact type_ne hg hh h2 rfl
  refine ⟨hf.owns S.hs (fun g hg => ?_), S.few, fun i hi => (S.du i hi).fr hf (fun k hk hn => absurd ?_ hn) (fun _ _ _ => rfl) hN, hf.owns S.rs (fun g hg => ?_), fun e he => EntE.good_fr (S.gs e he) hf (fun g cur hg _ => hT g cur _ (by unfold L3y; decide) (by decide) hg) (fun _ _ h => h), by rw [List.length_append, entCells_snoc]; exact ho, fun e' he => ?_, Nat.le_trans S.ls (by omega), by have := S.lo; simp; omega⟩
  · obtain ⟨_, cur, hh⟩ := own_block S.hs hg; exact hT g cur _ (by unfold L3y; decide) (by decide) hh
  · rcases hk with h | h
    · exact h.lt
    · obtain ⟨_, cur', hh⟩ := own_block S.ro h; exact ⟨_, _, hh, .inr (.inr (.inr (.inr (.inl rfl))))⟩
  · obtain ⟨_, cur, hh⟩ := own_block S.rs hg; exact hT g cur _ (by unfold L3y; decide) (by decide) hh
  · rcases List.mem_append.1 he with he | he
    · exact EntE.good_fr (S.go e' he) hf (fun g cur hg _ => hT g cur _ (by unfold L3y; decide) (by decide) hg) (fun _ _ h => h)
    · obtain rfl : e' = e := by simpa using he
      exact hg
theorem pair_objects (S : StaX col X B b c N vws nw xs vb es ps ss os w) (i : Nat) (hi : i < ps.length) {d : DV} (D : Duo d N ps[i] w) (hN : N ≤ 1073739000) :
    ∃ (PT PO : Value → World → Prop), (∀ W, Fr New w W → Calls Tryz.prog 45 #[.pointer (some ⟨d.hb, 0, none⟩)] W fun e w1 => ∃ v, e = .returned v ∧ PT v w1 ∧ Fr New W w1) ∧
      (∀ v w1, Fr New w w1 → PT v w1 → Calls Tryz.prog 81 #[.pointer (some ⟨d.rb, 0, none⟩)] w1 fun e w2 => ∃ u, e = .returned u ∧ PO u w2 ∧ PT v w2 ∧ Fr New w1 w2) ∧
      (∀ v u w2, PT v w2 → PO u w2 → Calls Tryz.prog 82 #[v, u] w2 fun e w3 => e = .returned (.bool true) ∧ PT v w3 ∧ Fr New w2 w3) ∧
      ∀ v w3, Fr New w w3 → PT v w3 → Calls Tryz.prog 83 #[.pointer (some ⟨b, 2, none⟩), v] w3 fun e w4 => e = .returned (.tuple #[]) ∧ Below B w w4 ∧ Sta B b (N + 200) w4 := by
  refine ⟨fun v w1 => ∃ gs, ToldO w.heap.size w1 v d.now (objs d.now) gs, fun u w1 => ∃ us, ObAt 0 w1 u (things d.now) us, fun W hf => ?_, fun v w1 hf hv => ?_, fun v u w2 hv hu => ?_, fun v w3 hf hv => ?_⟩
  · refine (hobjs_any _ _ _ _ _ _ _ _ _ W (D.new hf).ph).mono ?_
    rintro e w1 ⟨v, gs, rfl, hT, h1⟩
    exact ⟨v, rfl, ⟨gs, own_le hT.own hf.size, hT.len, hT.rows, fun g hg => Nat.le_trans hf.size (hT.base g hg), hT.nodup, hT.lt⟩, h1⟩
  · obtain ⟨gs, hT⟩ := hv
    refine (robjs_any d.rb d.gn d.cn d.L _ d.vr d.now w1 (D.new hf).rh.rh).mono ?_
    rintro e w2 ⟨u, us, rfl, hO, h2⟩
    exact ⟨u, rfl, ⟨us, own_le hO.own (Nat.zero_le _), hO.len, fun i hi hv => own_le (hO.rows i hi hv) (Nat.zero_le _)⟩, ⟨gs, hT.fr h2⟩, h2⟩
  · obtain ⟨gs, hT⟩ := hv
    obtain ⟨us, hO⟩ := hu
    refine (sameObjects_true v u d.now gs us _ _ w2 hT hO).mono ?_
    rintro e w3 ⟨rfl, h3⟩
    exact ⟨rfl, ⟨gs, hT.fr h3⟩, h3⟩
  · obtain ⟨gs, hT⟩ := hv
    have hK0 : ∀ k, k < w.heap.size → col k = 0 → KG (fun k => col k = 0) gs 0 k := fun k hk h => ⟨h, fun hm => by have := hT.base k (by simpa using hm); omega⟩
    have P3 : PartsX (KG (fun k => col k = 0) gs 0) X B b c vws nw xs vb es w3 := S.p.frK hf hK0 (fun k hk => ⟨S.p.fresh k (Nat.le_trans hf.size hk), fun hm => by have := hT.lt k (by simpa using hm); omega⟩)
    have I3 : ImgsX (KG (fun k => col k = 0) gs 0) w3 xs := S.i.frK hf hK0
    have hsp : ∀ o ∈ objs d.now, o.span ≤ 4 := fun o ho => (objs_in ho).2.2.1
    have hl32 := objs_len d.now
    have hcN := S.cN
    refine (objects_any (K := fun k => col k = 0) (Xh := X.h) (Xs := X.s) (Xo := X.o) B b c v d.now (objs d.now) gs os.length (entCells os) w3 P3 I3 ⟨own_le hT.own (Nat.zero_le _), hT.len, hT.rows, fun _ _ => Nat.zero_le _, hT.nodup, hT.lt⟩ (hf.owns S.s.ro (fun _ _ h => h)) (by omega) hl32 (by have := S.s.lo; omega) (fun g hg => S.p.fresh g (hT.base g hg)) hsp).mono ?_
    rintro e w4 ⟨rfl, vb', es', vo', l1, l2, l3, q1, q2, q3, q4, q5, q6⟩
    have hF0 : Fr (fun k => (L3 w k ∧ B ≤ k) ∨ X.o.ownBlock = some k) w w4 := (hf.mono (fun _ _ h => h.elim)).trans q6 (fun k hk ht => by
      rcases ht with (h | h) | h | h
      · exact .inl ⟨L3.back (hf.mono (fun _ _ h => h.elim)) hk h.1, h.2⟩
      · have := hT.base k h; omega
      · have := (own_block hT.own h).1; omega
      · exact .inr h)
    have hF : Fr (fun k => L3 w k ∨ X.o.ownBlock = some k) w w4 := hF0.mono (fun k _ h => h.imp (fun h => h.1) id)
    have hgood : EntE.good 96 4 mkO (fun k => col k = 0) w4 ⟨v, l1, l2, l3, 1000 + ((c + (objs d.now).length + 1 : Nat) : Int)⟩ := fun u hu => by
      obtain ⟨k, h1, h2⟩ := q4 u hu
      refine ⟨⟨k, by omega, h2⟩, fun g hg => S.p.fresh g ?_⟩
      rcases q5 u hu g hg with h | h
      · exact Nat.le_trans hf.size h
      · exact (own_block hT.own h).1
    have hS := S.s.withO hF (e := ⟨v, l1, l2, l3, 1000 + ((c + (objs d.now).length + 1 : Nat) : Int)⟩) q3 hgood (c' := c + (objs d.now).length + 1) (by omega) (N' := N + 200) (by omega)
    refine ⟨rfl, hF0.below S.p.size (fun k hk ht => ?_), col, ⟨X.h, X.s, vo'⟩, _, _, _, _, _, _, _, _, _, q1, q2, hS, by omega, S.old⟩
    rcases ht with h | h
    · omega
    · have := (own_block S.s.ro h).1; omega
end
end Go.Proofs.YtbagcjlimdilpaaGreat
/- The walk of left: what a stop leaves of words and stores. -/
namespace Go.Proofs.YtbagcjlimdilpaaGreat
open Go.RowKit Go.Maps

theorem stsCells_get : ∀ (l : List St) (i : Nat) (j : Nat), i < l.length → j < 3 → (stsCells l)[i * 3 + j]? = (stCells (stq l i))[j]?
  | s :: l, 0, j, _, hj => by
    simp only [stsCells, List.flatMap_cons, Nat.zero_mul, Nat.zero_add]
    rw [List.getElem?_append_left (by simpa [stCells] using hj)]
    rfl
  | s :: l, i + 1, j, hi, hj => by
    have ih := stsCells_get l i j (by simpa using hi) hj
    simp only [stsCells, List.flatMap_cons] at ih ⊢
    rw [List.getElem?_append_right (by simp [stCells]; omega)]
    have e : (i + 1) * 3 + j - (stCells s).length = i * 3 + j := by simp [stCells]; omega
    rw [e, ih]
    rfl
theorem last_le (l : List St) : ∀ n, lastF l n ≤ n
  | 0 => Nat.le_refl _
  | n + 1 => by
    unfold lastF
    split
    · omega
    · have := last_le l n; omega
/-- the i-th store as it is read -/
theorem stores_at {w : World} {B : Nat} {v : Value} {l : List St} (h : w.ownsRow B 122 3 v l.length (stsCells l)) (i : Nat) (hi : i < l.length) : ∃ g c, v = .slice (some ⟨g, 0, none⟩) l.length c ∧ g < w.heap.size ∧ w.cell? ⟨g, i * 3, none⟩ = some (.int .i64 (stq l i).k) ∧ w.cell? ⟨g, i * 3 + 1, none⟩ = some (.int .i64 (stq l i).at') ∧ w.cell? ⟨g, i * 3 + 2, none⟩ = some (.int .u64 (stq l i).v) := by
  rcases h.2 with ⟨_, hn⟩ | ⟨g, cap, cur, rfl, hb, hh, hnc, hcm, hcs, htk⟩
  · omega
  · have hc : ∀ j, j < 3 → w.cell? ⟨g, i * 3 + j, none⟩ = (stCells (stq l i))[j]? := fun j hj => by
      rw [← stsCells_get l i j hi hj, ← htk, (block_cells hh).1, List.getElem?_take_of_lt (by omega)]
      simp
    exact ⟨g, cap, rfl, lt_of_block hh, (hc 0 (by omega)).trans rfl, (hc 1 (by omega)).trans rfl, (hc 2 (by omega)).trans rfl⟩

end Go.Proofs.YtbagcjlimdilpaaGreat
/- Walks of 'sameStores' and 'crashed'. -/
namespace Go.Proofs.YtbagcjlimdilpaaGreat
open Go.RowKit Go.Maps

set_option maxHeartbeats 2000000 in
set_option maxRecDepth 100000 in
theorem sameStores_true (va vb : Value) (l : List St) (B B' : Nat) (w : World) (hl : l.length ≤ 1099511627776) (ha : w.ownsRow B 122 3 va l.length (stsCells l)) (hb : w.ownsRow B' 122 3 vb l.length (stsCells l)) :
    Calls Tryz.prog 134 #[va, vb] w fun e w' => e = .returned (.bool true) ∧ ∃ n, w' = w.drewN n := by
  obtain ⟨a1, c1, rfl⟩ := own_slice ha
  obtain ⟨a2, c2, rfl⟩ := own_slice hb
  go_enter Tryz.func134, Tryz.ntmps134
  go_wp2
  go_loopw [5] (fun i wr => ∃ k n : Nat, k ≤ l.length ∧ i = .int .i64 k ∧ wr = w.drewN n) (fun i _ => l.length - (intOf i).toNat)
  case atStart => exact ⟨0, 0, Nat.zero_le _, rfl, rfl⟩
  case round =>
    obtain ⟨k, n, hk, rfl, rfl⟩ := hrel
    by_cases hlt : k < l.length
    · obtain ⟨g1, d1, e1, _, x0, x1, x2⟩ := stores_at ha k hlt
      obtain ⟨g2, d2, e2, _, y0, y1, y2⟩ := stores_at hb k hlt
      cases e1
      cases e2
      obtain ⟨s, hs⟩ : ∃ s, s = stq l k := ⟨_, rfl⟩
      rw [← hs] at x0 x1 x2 y0 y1 y2
      clear hs ha hb
      obtain ⟨sk, sa, sv⟩ := s
      simp only at x0 x1 x2 y0 y1 y2
      go_wp2
      go_quiet (fail)
      go_wp2
      go_roundw
      case rel => exact ⟨k + 1, n + nq, by omega, by go_num, rfl⟩
      case measure => simp [intOf]; omega
    · go_wp2
      go_ret
      exact ⟨rfl, n, rfl⟩
/-- the bit that goes with store i -/
def bitP (bs : Int) (tn : Nat) (i : Nat) : Bool := decide (bits .and .u64 (bs / 2 ^ ((i + tn) % 64)) 1 = 1)

set_option maxHeartbeats 2000000 in
set_option maxRecDepth 100000 in
theorem crashed_any (gw capw : Nat) (ws : List Int) (lv : Value) (l : List St) (B nn : Nat) (bs : Int) (tn : Nat) (htn : tn < 64) (w : World) (hr : RowU w (some ⟨gw, 0, none⟩) ws) (hp : 0 < ws.length) (hm : ws.length ≤ 362) (ho : w.ownsRow B 122 3 lv l.length (stsCells l)) (hn : nn ≤ l.length) (hl : l.length ≤ 1099511627776) (hin : ∀ s ∈ l, InW ws.length s) :
    Calls Tryz.prog 90 #[.slice (some ⟨gw, 0, none⟩) ws.length capw, lv, .int .i64 (nn : Int), .int .u64 bs, .int .i64 (tn : Int)] w fun e w' => ∃ v, e = .returned v ∧ Own w.heap.size w' v (leftW ws l (lastF l nn) (bitP bs tn) nn) ∧ Fr New w w' := by
  obtain ⟨i0, hi0, hz0, hz1, hz2⟩ := info_parts Tryz.info50
  obtain ⟨P, hP⟩ : ∃ P, P = bitP bs tn := ⟨_, rfl⟩
  rw [← hP]
  have HP : Hid (∀ j, P j = decide (bits .and .u64 (bs / 2 ^ ((j + tn) % 64)) 1 = 1)) := fun j => by rw [hP]; rfl
  have HIN : Hid (∀ j, j < l.length → (stq l j).k = 1 → 0 ≤ (stq l j).at' ∧ (stq l j).at' < (ws.length : Int)) := fun j hj hk => by
    have hs : stq l j ∈ l := by unfold stq; rw [List.getD, List.getElem?_eq_getElem hj]; exact List.getElem_mem _
    exact (hin _ hs).1 hk
  clear hP hin
  obtain ⟨sa, sc, rfl⟩ := own_slice ho
  have HO : Hid (∀ w1, Fr New w w1 → w1.ownsRow B 122 3 (.slice sa l.length sc) l.length (stsCells l)) := fun w1 hf => hf.owns ho (fun _ _ h => h)
  have HNW : Hid (∀ w', Fr New w w' → ∀ j u, (ws.map (Value.int .u64))[j]? = some u → w'.cell? ((⟨gw, 0, none⟩ : Addr).add j) = some u) := fun w' hf => by
    obtain ⟨ad, e, h⟩ := news_row (rowU_fr hf hr (fun _ _ h => h)) (by simp; omega)
    cases e
    exact h
  have HES : Hid ((w.alloc (.cells #[] 50)).ownsRow w.heap.size 50 1 (.slice (some ⟨w.heap.size, 0, none⟩) 0 0) 0 []) := by
    have := World.ownsRow_made (base := w.heap.size) (e := 50) (size := 1) w #[] 0 (by simp) (by decide) (by simp)
    show World.ownsRow _ _ _ _ _ _ _
    simpa using this
  clear ho hr
  go_enter Tryz.func90, Tryz.ntmps90
  go_wp2_with (first
    | (at_builtin; refine wpList_append_own_at _ rfl (.tmp 16) (.tmp 17) 43 rfl w.heap.size 50 i0 (.int .u64 0) 1 8 Tryz.underlying43 hi0 hz0 hz1 hz2 rfl (by decide) _ _ _ rfl HES.out ⟨gw, 0, none⟩ ws.length capw (ws.map (Value.int .u64)) rfl (by simp) (HNW.out _ ((Fr.refl New w).alloc _)) (ints_oneU _) (by unfold maxLen; omega) (by omega) (by simp) ?_; intro v4 w4 ho4 hg4 _ _; rw [Nat.zero_add, List.nil_append] at ho4; have hf4 : Fr New w w4 := ((Fr.refl New w).alloc _).grown hg4 (fun k hk e => by have : w.heap.size = k := Option.some.inj e; omega))
    | fail)
  have HO4 : Hid (Own w.heap.size w4 v4 ws) := ho4
  have HF4 : Hid (Fr New w w4) := hf4
  obtain ⟨a4, c4, hv4⟩ := own_slice ho4
  subst hv4
  obtain ⟨g4, ha4⟩ : ∃ g4, a4 = some ⟨g4, 0, none⟩ := by
    rcases ho4.2 with ⟨e, h⟩ | ⟨g, cap, cur, e, _⟩
    · omega
    · simp only [Value.slice.injEq] at e; exact ⟨g, e.1⟩
  subst ha4
  have HG4 : Hid (w.heap.size ≤ g4) := (own_block ho4 rfl).1
  clear ho4 hf4 hg4 HES HNW
  go_loopg [12, 13] nn (fun gh vl vi wr => ∃ i : Nat, i ≤ nn ∧ gh = nn - i ∧ vl = .int .i64 (lastF l i : Nat) ∧ vi = .int .i64 (i : Int) ∧ wr = w4)
  case atStart => exact ⟨0, by omega, by omega, rfl, rfl, rfl⟩
  case round =>
    obtain ⟨i, hin, rfl, rfl, rfl, hwr⟩ := hrel
    subst hwr
    by_cases hi : i < nn
    · have hd0 : decide (i < nn) = true := by simpa using hi
      obtain ⟨gs, cs, hvs, hgs, k0, k1, k2⟩ := stores_at (HO.out _ HF4.out) i (by omega)
      cases hvs
      have HLS : Hid (lastF l (i + 1) = if (stq l i).k = 2 then i else lastF l i) := rfl
      obtain ⟨kk, hkk⟩ : ∃ kk, kk = (stq l i).k := ⟨_, rfl⟩
      rw [← hkk] at k0 HLS
      have hil : i < l.length := by omega
      clear hkk
      by_cases h2 : kk = 2
      · have h2b : (kk == 2) = true := by simpa using h2
        have HL2 : Hid (lastF l (i + 1) = i) := HLS.out.trans (if_pos h2)
        clear h2
        go_wp2
        go_roundg (nn - (i + 1))
        case measure => omega
        case rel => exact ⟨i + 1, by omega, rfl, by rw [HL2.out], by go_num, rfl⟩
      · have h2b : (kk == 2) = false := by simpa using h2
        have HL2 : Hid (lastF l (i + 1) = lastF l i) := HLS.out.trans (if_neg h2)
        go_wp2
        go_roundg (nn - (i + 1))
        case measure => omega
        case rel => exact ⟨i + 1, by omega, rfl, by rw [HL2.out], by go_num, rfl⟩
    · obtain rfl : i = nn := by omega
      have hd0 : decide (i < i) = false := by simp
      obtain ⟨last, hlast⟩ : ∃ last, last = lastF l i := ⟨_, rfl⟩
      have hll : last ≤ i := by rw [hlast]; exact last_le l i
      rw [← hlast]
      have HLA : Hid (last = lastF l i) := hlast
      clear hi hin hlast
      go_wp2
      go_loopg [14] i (fun gh vi wq => ∃ j : Nat, j ≤ i ∧ gh = i - j ∧ vi = .int .i64 (j : Int) ∧ Own w.heap.size wq (.slice (some ⟨g4, 0, none⟩) ws.length c4) (leftW ws l last P j) ∧ Fr New w wq)
      case atStart => exact ⟨0, by omega, by omega, rfl, HO4.out, HF4.out⟩
      case round =>
        obtain ⟨j, hji, rfl, rfl, hOw, hFw⟩ := hrel
        by_cases hj : j < i
        · have hd1 : decide (j < i) = true := by simpa using hj
          obtain ⟨gs, cs, hvs, hgs, k0, k1, k2⟩ := stores_at (HO.out _ hFw) j (by omega)
          cases hvs
          have hle : (leftW ws l last P j).length = ws.length := leftW_len ..
          have HLW : Hid (leftW ws l last P (j + 1) = if (stq l j).k = 1 ∧ 0 ≤ (stq l j).at' ∧ (stq l j).at' < (ws.length : Int) ∧ (j < last ∨ P j = true) then (leftW ws l last P j).set (stq l j).at'.toNat (stq l j).v else leftW ws l last P j) := rfl
          obtain ⟨kk, hkk⟩ : ∃ kk, kk = (stq l j).k := ⟨_, rfl⟩
          obtain ⟨aa, haa⟩ : ∃ aa, aa = (stq l j).at' := ⟨_, rfl⟩
          obtain ⟨vv, hvv⟩ : ∃ vv, vv = (stq l j).v := ⟨_, rfl⟩
          have HAA := HIN.out j (by omega)
          rw [← hkk, ← haa] at HAA
          rw [← hkk, ← haa, ← hvv] at HLW
          rw [← hkk] at k0
          rw [← haa] at k1
          rw [← hvv] at k2
          have hjl : j < l.length := by omega
          clear hkk haa hvv
          have HBJ := HP.out j
          have HIJ : Hid (kk = 1 → 0 ≤ aa ∧ aa < (ws.length : Int)) := HAA
          clear HAA
          obtain ⟨bt, hbt⟩ : ∃ bt, bt = bits .and .u64 (bs / 2 ^ ((j + tn) % 64)) 1 := ⟨_, rfl⟩
          rw [← hbt] at HBJ
          have HBT : Hid (bits .and .u64 (bs / 2 ^ ((j + tn) % 64)) 1 = bt) := hbt.symm
          have HBP : Hid (P j = decide (bt = 1)) := HBJ
          clear hbt HBJ
          go_upto_region 12 with fail
          rw [HBT.out]
          clear HBT
          by_cases q1 : kk = 1
          · have h1b : (kk == 1) = true := by simpa using q1
            obtain ⟨q2, q3⟩ := HIJ.out q1
            have Q1 : Hid (kk = 1) := q1
            clear q1 HIJ
            obtain ⟨p, rfl⟩ := Int.eq_ofNat_of_zero_le q2
            have hpw : p < ws.length := by omega
            have h3c : decide (p < ws.length) = true := by simpa using hpw
            have hOw2 : wr.ownsRow w.heap.size 50 1 (.slice (some ⟨g4, 0, none⟩) ws.length c4) ws.length ((leftW ws l last P j).map (Value.int .u64)) := by
              have h0 := hOw
              unfold Own at h0
              rwa [hle] at h0
            have hcg : wr.cell? ⟨g4, p, none⟩ = some (.int .u64 (wd (leftW ws l last P j) p)) := by
              have := hOw2.cellAt p (by omega)
              rw [this]
              simp [wd, List.getD, hle, hpw]
            have hcf : wr.frozen? ⟨g4, p, none⟩ = false := hOw2.frozenAt p
            have hg4w : g4 < wr.heap.size := World.block_lt_of_cell? wr _ hcg
            have HSO : Hid (Own w.heap.size (wr.setCell ⟨g4, p, none⟩ (.int .u64 vv)) (.slice (some ⟨g4, 0, none⟩) ws.length c4) ((leftW ws l last P j).set p vv)) := by
              have := (hOw2.stored p (.int .u64 vv)).1
              show Own _ _ _ _
              unfold Own
              rw [List.length_set, hle, List.map_set]
              exact this
            have HSF : Hid (Fr New w (wr.setCell ⟨g4, p, none⟩ (.int .u64 vv))) := hFw.setCell (fun h => by have := HG4.out; simp only at h; omega) _
            have HYES : Hid ((j < last ∨ P j = true) → leftW ws l last P (j + 1) = (leftW ws l last P j).set p vv) := fun h => by
              have := HLW.out.trans (if_pos ⟨Q1.out, q2, q3, h⟩)
              rwa [Int.toNat_natCast] at this
            obtain ⟨yc, hyc⟩ : ∃ y, y = wd (leftW ws l last P j) p := ⟨_, rfl⟩
            rw [← hyc] at hcg
            clear hyc
            by_cases q4 : j < last
            · have h4b : decide (j < last) = true := by simpa using q4
              have HYE : Hid (leftW ws l last P (j + 1) = (leftW ws l last P j).set p vv) := HYES.out (.inl q4)
              clear HYES HLW
              go_upto_region 13 with fail
              go_region
              all_goals
                go_wp2
                go_roundg (i - (j + 1))
                case measure => omega
                case rel =>
                  refine ⟨j + 1, by omega, rfl, by go_num, ?_, ?_⟩
                  · rw [HYE.out]
                    first | exact HSO.out | exact HSO.out.drew
                  · first | exact HSF.out | exact HSF.out.drew
            · have h4b : decide (j < last) = false := by simpa using q4
              by_cases q5 : bt = 1
              · have h5b : (bt == 1) = true := by simpa using q5
                have HYE : Hid (leftW ws l last P (j + 1) = (leftW ws l last P j).set p vv) := HYES.out (.inr (by rw [HBP.out]; simpa using q5))
                clear HYES HLW q5
                go_upto_region 13 with fail
                go_region
                all_goals
                  go_wp2
                  go_roundg (i - (j + 1))
                  case measure => omega
                  case rel =>
                    refine ⟨j + 1, by omega, rfl, by go_num, ?_, ?_⟩
                    · rw [HYE.out]
                      first | exact HSO.out | exact HSO.out.drew
                    · first | exact HSF.out | exact HSF.out.drew
              · have h5b : (bt == 1) = false := by simpa using q5
                have HNO : Hid (leftW ws l last P (j + 1) = leftW ws l last P j) := HLW.out.trans (if_neg (fun h => by rcases h.2.2.2 with h | h; exact q4 h; exact q5 (by rw [HBP.out] at h; simpa using h)))
                clear HYES HLW
                go_wp2
                go_roundg (i - (j + 1))
                case measure => omega
                case rel => exact ⟨j + 1, by omega, rfl, by go_num, by rw [HNO.out]; exact hOw, hFw⟩
          · have h1b : (kk == 1) = false := by simpa using q1
            have HNO : Hid (leftW ws l last P (j + 1) = leftW ws l last P j) := HLW.out.trans (if_neg (fun h => q1 h.1))
            go_wp2
            go_roundg (i - (j + 1))
            case measure => omega
            case rel => exact ⟨j + 1, by omega, rfl, by go_num, by rw [HNO.out]; exact hOw, hFw⟩
        · obtain rfl : j = i := by omega
          have hd1 : decide (j < j) = false := by simp
          go_wp2
          go_ret
          rw [HLA.out] at hOw
          exact ⟨_, rfl, hOw, hFw⟩
end Go.Proofs.YtbagcjlimdilpaaGreat
