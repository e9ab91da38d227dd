/- The walk of the program's Reached: an object is marked just where it is reached. -/
import Derived.Test.YtbagcjlimdilpaaGreatHhJ5
import Derived.Test.YtbagcjlimdilpaaGreatHhJ7
import Derived.Test.YtbagcjlimdilpaaGreatHhJ4
import Derived.Deep.RegionHeld3
import Derived.Deep.AppendLies
namespace Go.Proofs.YtbagcjlimdilpaaGreat
open Go.RowKit

/-- block g is just those marks -/
def MRow (w : World) (g : Nat) (M : List Bool) : Prop := w.heap[g]? = some (.cells ((M.map Value.bool).toArray) 201 (0, 0))
theorem MRow.cell {w : World} {g : Nat} {M : List Bool} (h : MRow w g M) (k : Nat) (hk : k < M.length) : w.cell? ⟨g, k, none⟩ = some (.bool (M.getD k false)) := by
  simp [World.cell?, show w.heap[g]? = _ from h, hk, List.getD]
theorem MRow.free {w : World} {g : Nat} {M : List Bool} (h : MRow w g M) (k : Nat) : w.frozen? ⟨g, k, none⟩ = false := by
  simp [World.frozen?, show w.heap[g]? = _ from h]
theorem MRow.set {w : World} {g : Nat} {M : List Bool} (h : MRow w g M) (k : Nat) (y : Bool) : MRow (w.setCell ⟨g, k, none⟩ (.bool y)) g (M.set k y) := by
  have := heap_setCell_same w g k _ _ (.bool y) h
  unfold MRow
  rw [this]
  simp [List.map_set]

/-- what the search keeps in memory -/
structure RMem (w : World) (W : List Int) (v : Value) (M : List Bool) (wr : World) : Prop where
  row : MRow wr (w.heap.size + 1) M
  res : MRow wr w.heap.size (List.replicate 33 false)
  own : Own w.heap.size wr v W
  len : M.length = 33
  fr : Fr New w wr
theorem RMem.grow {w : World} {W : List Int} {v : Value} {M : List Bool} {wr w' : World} (h : RMem w W v M wr) (hf : Fr New wr w') : RMem w W v M w' :=
  ⟨hf.heap h.row id, hf.heap h.res id, hf.owns h.own (fun _ _ h => h), h.len, h.fr.same hf⟩
theorem RMem.push {w : World} {W : List Int} {v : Value} {M : List Bool} {wr w1 w2 : World} (h : RMem w W v M wr) (hf : Fr New wr w1) {v2 : Value} {x : Int}
    (ho : w2.ownsRow w.heap.size 50 1 v2 (W.length + 1) (W.map (Value.int .u64) ++ [.int .u64 x])) (hg : w1.grownBy w2 v.ownBlock) : RMem w (W ++ [x]) v2 M w2 := by
  have h1 := h.grow hf
  have h2 : Fr (fun k => v.ownBlock = some k) w1 w2 := (Fr.refl _ _).grown hg (fun k _ hk => hk)
  have hne : ∀ t, t ≠ 50 → ∀ g cur, w1.heap[g]? = some (.cells cur t (0, 0)) → ¬ v.ownBlock = some g := fun t ht g cur hg hv => by
    obtain ⟨_, c, hc⟩ := own_block h1.own hv
    exact type_ne hg hc ht rfl
  exact ⟨h2.heap h1.row (hne _ (by decide) _ _ h1.row), h2.heap h1.res (hne _ (by decide) _ _ h1.res), by unfold Own; rw [List.length_append, List.map_append]; exact ho, h.len, h1.fr.trans h2 (fun j hj hv => by have := (own_block h1.own hv).1; omega)⟩
theorem RMem.other {w : World} {W : List Int} {v : Value} {M : List Bool} {wr w1 w2 : World} (h : RMem w W v M wr) (hf : Fr New wr w1) (hg : w1.grownBy w2 v.ownBlock) {g : Nat} {t : TypeId} {cur : Array Value} (ht : t ≠ 50) (hb : wr.heap[g]? = some (.cells cur t (0, 0))) : w2.heap[g]? = some (.cells cur t (0, 0)) := by
  have h1 := h.grow hf
  have h2 : Fr (fun k => v.ownBlock = some k) w1 w2 := (Fr.refl _ _).grown hg (fun k _ hk => hk)
  refine h2.heap (hf.heap hb id) (fun hv => ?_)
  obtain ⟨_, c, hc⟩ := own_block h1.own hv
  exact type_ne (hf.heap hb id) hc ht rfl
theorem RMem.put {w : World} {W : List Int} {v : Value} {M : List Bool} {wr : World} (h : RMem w W v M wr) (k : Nat) : RMem w W v (M.set k true) (wr.setCell ⟨w.heap.size + 1, k, none⟩ (.bool true)) := by
  have hf : Fr (fun j => j = w.heap.size + 1) wr (wr.setCell ⟨w.heap.size + 1, k, none⟩ (.bool true)) := (Fr.refl (fun j => j = w.heap.size + 1) wr).setCell (p := ⟨w.heap.size + 1, k, none⟩) (fun _ => rfl) _
  exact ⟨h.row.set k true, hf.heap h.res (by simp), hf.owns h.own (fun g hg he => by
    obtain ⟨_, c, hc⟩ := own_block h.own hg
    exact type_ne hc h.row (by decide) he), by simpa using h.len, h.fr.trans hf (fun j hj he => by omega)⟩
theorem own_pop {w : World} {B g n c : Nat} {W : List Int} {x : Int} (h : w.ownsRow B 50 1 (.slice (some ⟨g, 0, none⟩) (n + 1) c) (n + 1) ((W ++ [x]).map (Value.int .u64))) :
    w.ownsRow B 50 1 (.slice (some ⟨g, 0, none⟩) n c) n (W.map (Value.int .u64)) ∧ n = W.length ∧ w.cell? ⟨g, n, none⟩ = some (.int .u64 x) := by
  have hl := h.1
  simp at hl
  have hn : n = W.length := by omega
  have hc := h.cellAt n (by omega)
  rw [hn] at hc
  simp at hc
  refine ⟨⟨by simp; omega, ?_⟩, hn, by rw [hn]; exact hc⟩
  rcases h.2 with ⟨h', _⟩ | ⟨g', cap', cur, h', hb, hg, hnc, hcm, hcs, htk⟩
  · cases h'
  · simp only [Value.slice.injEq, Option.some.injEq, Addr.mk.injEq, and_true, true_and] at h'
    obtain ⟨rfl, rfl⟩ := h'
    refine .inr ⟨g, c, cur, rfl, hb, hg, by omega, hcm, hcs, ?_⟩
    have := congrArg (List.take n) htk
    rw [List.take_take, hn] at this
    rw [hn]
    simpa [Nat.min_eq_left] using this
theorem RMem.pop {w : World} {W : List Int} {x : Int} {v : Value} {M : List Bool} {wr : World} (h : RMem w (W ++ [x]) v M wr) : ∃ g c, v = .slice (some ⟨g, 0, none⟩) (W.length + 1) c ∧ wr.cell? ⟨g, W.length, none⟩ = some (.int .u64 x) ∧ RMem w W (.slice (some ⟨g, 0, none⟩) W.length c) M wr ∧ W.length + 1 ≤ c := by
  have ho := h.own
  unfold Own at ho
  rw [List.length_append] at ho
  obtain ⟨g, c, rfl, hc, _⟩ := ho.form (by simp)
  obtain ⟨h1, h2, h3⟩ := own_pop ho
  refine ⟨g, c, rfl, h3, ⟨h.row, h.res, h1, h.len, h.fr⟩, ?_⟩
  rcases ho.2 with ⟨h', _⟩ | ⟨g', cap', cur', h', _, _, hc', _⟩
  · cases h'
  · simp only [Value.slice.injEq, Option.some.injEq, Addr.mk.injEq, and_true, true_and] at h'
    simp at hc'
    omega

theorem Fr.setCells {T : Nat → Prop} {a : World} {b : Nat} (hb : b < a.heap.size → T b) : ∀ (vs : List Value) (o : Nat) (w : World), Fr T a w → Fr T a (w.setCells b o vs)
  | [], _, _, h => h
  | v :: r, o, _, h => Fr.setCells hb r (o + 1) _ (h.setCell (p := ⟨b, o, none⟩) hb v)
theorem MRow.range {w : World} {g : Nat} {M : List Bool} (h : MRow w g M) : w.rangeAt g 0 (M.map Value.bool) := by
  intro j v hv
  have hj : j < M.length := by
    rcases Nat.lt_or_ge j M.length with h' | h'
    · exact h'
    · rw [List.getElem?_eq_none (by simpa using h')] at hv; cases hv
  rw [Nat.zero_add, h.cell j hj]
  simp [hj] at hv
  simp [List.getD, hj, hv]
theorem MRow.there {w : World} {g : Nat} {M : List Bool} (h : MRow w g M) {n : Nat} (hn : n ≤ M.length) : w.there g 0 n := by
  intro j hj
  rw [Nat.zero_add, h.cell j (by omega), h.free j]
  simp
theorem marks_one (M : List Bool) : (M.map Value.bool).toArray.all (·.oneCell') = true := all_oneCell_toArray (fun v hv => by
  obtain ⟨b, _, rfl⟩ := List.mem_map.1 hv
  rfl)
theorem Tryz.sizeMarks : (Tryz.prog.info? 201).map (·.size) = some 33 := by kernel_rfl

set_option maxHeartbeats 4000000 in
set_option maxRecDepth 100000 in
theorem reached2_row (t : Nat) (x0 : Value) (fL fR : Nat) (y : Value) (ws : List Int) (v : Value) (l : List Ob) (w : World) (hm : ws.length ≤ 1048576) (h7 : 7 ≤ ws.length) (hrow : RowAt w t x0 fL fR y ws) (hv : LiesT w v l) (ha : Asc l) (hin : Within ws l) (hh : ∀ o ∈ l, o.block < 32) (hl32 : l.length ≤ 32) :
    Calls Tryz.prog 141 #[v, .iface t x0] w fun e w' => ∃ M : List Bool, e = .returned (.agg ((M.map Value.bool).toArray)) ∧ M.length = 33 ∧ (∀ i, i < l.length → (mkd l M i ↔ Reach ws l i)) ∧ Fr New w w' := by
  have HV : Hid (∀ wr, Fr New w wr → LiesT wr v l) := fun wr hf => hv.fr hf (fun _ _ h => h)
  have HA : Hid (Asc l) := ha
  have HHL : Hid (∀ wr, Fr New w wr → ∀ h, Calls Tryz.prog 56 #[v, .int .u64 h] wr fun e w' => ∃ r, e = .returned r ∧ HeldIs l h r ∧ Fr New wr w') := fun wr hf h => held_any v l h wr (HV.out wr hf) ha
  have HW : Hid (∀ wr, Fr New w wr → ∀ i, i < ws.length → Calls Tryz.prog fR #[y, .int .i64 (i : Nat)] wr fun e w'' => e = .returned (.int .u64 (wd ws i)) ∧ w'' = wr) := hrow.read
  have HM : Hid (∀ w', Fr New w w' → (method 356 t x0 "Read").run Tryz.prog w' = .ok (fR, y) w') := hrow.mread
  have HBO : Hid (∀ o ∈ l, o.block < 32 ∧ 106 + 8 * (o.block + o.span) ≤ ws.length ∧ o.ptrs < 8 * o.span) := fun o ho => ⟨hh o ho, hin o ho⟩
  have HB4 : Hid (∀ o ∈ l, o.ptrs < 32) := by
    obtain ⟨_, _, _, _, hb, _⟩ := hv
    exact fun o ho => (hb o ho).2.2
  obtain ⟨av, cv, rfl, _⟩ := hv
  have hcf := hrow.cread
  have har := hrow.aread
  have hmf : ∀ (fn : Fn) (first cap : Array Value) (w : World), (Instr.makeFunc fn first cap).run Tryz.prog w = .ok (.func fn first cap) w := fun _ _ _ _ => rfl
  obtain ⟨i0, hi0, hz0, hz1, hz2⟩ := info_parts Tryz.info50
  obtain ⟨L, hL⟩ : ∃ L, L = ws.length := ⟨_, rfl⟩
  have HL : Hid (L = ws.length) := hL
  rw [← hL] at hm h7
  clear hrow ha hin hh hL
  go_enter Tryz.func141, Tryz.ntmps141
  go_wp2
  have hm0 : RMem w [] (.slice none 0 0) (List.replicate 33 false) ((w.alloc (.cells #[.bool false, .bool false, .bool false, .bool false, .bool false, .bool false, .bool false, .bool false, .bool false, .bool false, .bool false, .bool false, .bool false, .bool false, .bool false, .bool false, .bool false, .bool false, .bool false, .bool false, .bool false, .bool false, .bool false, .bool false, .bool false, .bool false, .bool false, .bool false, .bool false, .bool false, .bool false, .bool false, .bool false] 201)).alloc (.cells #[.bool false, .bool false, .bool false, .bool false, .bool false, .bool false, .bool false, .bool false, .bool false, .bool false, .bool false, .bool false, .bool false, .bool false, .bool false, .bool false, .bool false, .bool false, .bool false, .bool false, .bool false, .bool false, .bool false, .bool false, .bool false, .bool false, .bool false, .bool false, .bool false, .bool false, .bool false, .bool false, .bool false] 201)) :=
    ⟨new_at2 w _ _, (Go.Deep.blk_alloc_lt _ _ _ (by simp)).trans (Go.Deep.blk_alloc_new w _), World.ownsRow_nil _ _ _ _, by simp, ((Fr.refl _ _).alloc _).alloc _⟩
  go_loopg [6, 12] 4 (fun gh s6 s12 wr => ∃ (R : Nat) (W : List Int), R ≤ 4 ∧ gh = 4 - R ∧ s12 = .int .i64 R ∧ Dfs ws l W (List.replicate 33 false) R l.length 0 ∧ RMem w W s6 (List.replicate 33 false) wr)
  case atStart => exact ⟨0, [], by omega, rfl, rfl, dfs_start ws l 33, hm0⟩
  case round =>
    clear hm0
    obtain ⟨R, W, hR4, rfl, rfl, hD, hmem⟩ := hrel
    by_cases hR : R < 4
    · have hc := HW.out wr hmem.fr (3 + R) (by rw [← HL.out]; omega)
      have hmr := HM.out wr hmem.fr
      have hD2 := hD.root hR
      have hrm := hD.room
      rw [if_neg (by omega)] at hrm
      obtain ⟨x, hx⟩ : ∃ x, x = wd ws (3 + R) := ⟨_, rfl⟩
      rw [← hx] at hc hD2
      have HR : Hid (Calls Tryz.prog fR #[y, .int .i64 ((3 + R : Nat) : Int)] wr fun e w'' => e = .returned (.int .u64 x) ∧ w'' = wr) := hc
      have hwl : W.length ≤ 2000 := by omega
      clear hx hD hrm hc
      go_wp2_with (first
        | (refine calls_same HR.out ?_)
        | (at_builtin; refine wpList_append_own _ rfl (.tmp 15) (.tmp 20) 43 rfl w.heap.size 50 i0 (.int .u64 0) 1 8 Tryz.underlying43 hi0 hz0 hz1 hz2 rfl (by decide) _ _ _ rfl (hmem.own.alloc _) ⟨wr.heap.size, 0, none⟩ 1 1 [.int .u64 x] rfl rfl (World.news_of_block (Go.Deep.blk_alloc_new wr _)) (by intro u hu; simp at hu; subst hu; rfl) (by unfold maxLen; omega) (by omega) (by have := hmem.fr.size; simp; omega) ?_; intro v2 w2 ho2 hg2 _; have hm2 := hmem.push ((Fr.refl New wr).alloc _) ho2 hg2)
        | fail)
      go_roundg (4 - (R + 1))
      case measure => omega
      case rel => exact ⟨R + 1, _, by omega, rfl, by go_num, hD2, hm2⟩
    · obtain rfl : R = 4 := by omega
      obtain ⟨a6, c6, rfl⟩ := own_slice hmem.own
      go_wp2
      go_loopg [6] (40 * unm l (List.replicate 33 false) + W.length) (fun gh s6 wr => ∃ (W : List Int) (M : List Bool), gh = 40 * unm l M + W.length ∧ Dfs ws l W M 4 l.length 0 ∧ RMem w W s6 M wr)
      case atStart => exact ⟨W, _, rfl, hD, hmem⟩
      case round =>
        clear hD hmem hR hR4
        obtain ⟨W, M, rfl, hD, hmem⟩ := hrel
        rcases List.eq_nil_or_concat W with rfl | ⟨W', x, hWx⟩
        · obtain ⟨a6, c6, rfl⟩ := own_slice hmem.own
          have HD : Hid (∀ i, i < l.length → (mkd l M i ↔ Reach ws l i)) := hD.done (fun r k hk => idx_lt hk)
          clear hD
          have HSZ : Hid ((Tryz.prog.info? 201).map (·.size) = some (M.map Value.bool).length) := by rw [List.length_map, hmem.len]; exact Tryz.sizeMarks
          have HTH : Hid (wr.there w.heap.size 0 (M.map Value.bool).toArray.size) := hmem.res.there (by simp [hmem.len])
          go_wp2_with (first
            | (refine wpList_load_mid rfl 201 (.tmp 5) rfl (w.heap.size + 1) 0 (by rfl) (M.map Value.bool) _ hmem.row.range Tryz.underlying201 rfl HSZ.out ?_)
            | (refine wpList_store_mid rfl 201 (.tmp 4) (.tmp 69) rfl w.heap.size 0 ((M.map Value.bool).toArray) (by rfl) (by rfl) HTH.out HSZ.out (marks_one M) ?_)
            | fail)
          refine bodyPost_ret (v := .agg ((M.map Value.bool).toArray)) ?_ rfl ⟨M, rfl, hmem.len, HD.out, Fr.setCells (fun h => absurd h (by simp)) _ _ _ hmem.fr⟩
          have hLD := run_loadVar_mid (P := Tryz.prog) (wr.setCells w.heap.size 0 (M.map Value.bool)) w.heap.size 0 201 (M.map Value.bool) _ (World.rangeAt_setCells_same wr w.heap.size 0 _ (by simpa using HTH.out)) Tryz.underlying201 rfl HSZ.out
          simp [results, Tryz.results141, Act.put, asAddr, hLD]
        · rw [List.concat_eq_append] at hWx
          subst hWx
          have hrm := hD.room
          rw [if_neg (by omega), List.length_append] at hrm
          simp only [List.length_cons, List.length_nil] at hrm
          obtain ⟨g, cc, rfl, hcx, hpop, hcap⟩ := hmem.pop
          clear hmem
          have HXL : Hid ((W' ++ [x]).length = W'.length + 1) := by simp [Hid]
          obtain ⟨n, hn⟩ : ∃ n, n = W'.length := ⟨_, rfl⟩
          rw [← hn] at hcx hpop hcap hrm HXL ⊢
          have HN : Hid (n = W'.length) := hn
          clear hn
          have hn2 : n ≤ 2000 := by omega
          have HHd := HHL.out wr hpop.fr x
          have HHX : Hid (Calls Tryz.prog 56 #[.slice av l.length cv, .int .u64 x] wr fun e w' => ∃ r, e = .returned r ∧ HeldIs l x r ∧ Fr New wr w') := HHd
          clear HHd hrm
          rcases hx : idx l x with _ | k
          · have hD2 := hD.drop (fun k hk => by rw [hx] at hk; cases hk)
            clear hD
            go_wp2_with (first
              | (go_at_call 56; refine HHX.out.mono ?_; rintro e w1 ⟨r, rfl, hs, hf1⟩; obtain rfl : r = .tuple #[.agg #[.int .i64 0, .int .i64 0, .int .i64 0, .int .i64 0], .bool false] := (by rcases hs with ⟨k, hk, hk', e⟩ | ⟨_, e⟩; (rw [hx] at hk'; cases hk'); exact e))
              | fail)
            go_roundg (40 * unm l M + n)
            case measure => rw [HXL.out]; omega
            case rel => exact ⟨W', M, by rw [HN.out], hD2, hpop.grow (hf1.alloc _)⟩
          · have hk := idx_lt hx
            obtain ⟨hob, hin1, hin2⟩ := HBO.out l[k] (List.getElem_mem _)
            have hp32 := HB4.out l[k] (List.getElem_mem _)
            obtain ⟨B, hB⟩ : ∃ B, B = hnd l k := ⟨_, rfl⟩
            have hBo : (l[k]).block + 1 = B := by rw [hB, hnd_eq hk]
            have hB33 : B < 33 := by omega
            have hlen := hpop.len
            obtain ⟨s, hs⟩ : ∃ s, s = (l[k]).span := ⟨_, rfl⟩
            obtain ⟨p, hp⟩ : ∃ p, p = (l[k]).ptrs := ⟨_, rfl⟩
            have HR2 : Hid (∀ r, HeldIs l x r → r = .tuple #[.agg #[.int .i64 1, .int .i64 B, .int .i64 s, .int .i64 p], .bool true]) := fun r hr => by
              rcases hr with ⟨k', hk', h1, h2⟩ | ⟨h1, _⟩
              · rw [hx] at h1; cases h1; rw [h2, hs, hp, ← hBo]
              · rw [hx] at h1; cases h1
            have HKB : Hid (B = hnd l k ∧ s = (l[k]).span ∧ p = (l[k]).ptrs) := ⟨hB, hs, hp⟩
            have hcm := fun wr (h : RMem w W' (.slice (some ⟨g, 0, none⟩) n cc) M wr) => h.row.cell B (by omega)
            have hfm := fun wr (h : RMem w W' (.slice (some ⟨g, 0, none⟩) n cc) M wr) => h.row.free B
            have hb0 : (0 : Int) ≤ (B : Int) := by omega
            have hb1 : (B : Int) < 33 := by omega
            rw [← hp] at hp32
            by_cases hmk : mkd l M k
            · have hMB : M.getD B false = true := by rw [hB]; exact hmk
              have hD2 := hD.drop (fun k' hk' => by rw [hx] at hk'; cases hk'; exact hmk)
              clear hD hB hs hp hBo hmk hx hob hin1 hin2
              rw [hMB] at hcm
              clear hMB
              go_wp2_with (first
                | (go_at_call 56; refine HHX.out.mono ?_; rintro e w1 ⟨r, rfl, hs, hf1⟩; obtain rfl := HR2.out r hs; have hc1 := hcm w1 (hpop.grow hf1); have hc1' : (w1.alloc (.cells #[.int .i64 1, .int .i64 B, .int .i64 s, .int .i64 p] 115)).cell? ⟨w.heap.size + 1, B, none⟩ = some (.bool true) := hcm _ (hpop.grow (hf1.alloc _)))
                | fail)
              go_roundg (40 * unm l M + n)
              case measure => rw [HXL.out]; omega
              case rel => exact ⟨W', M, by rw [HN.out], hD2, hpop.grow (hf1.alloc _)⟩
            · have hMB : M.getD B false = false := by rw [hB]; unfold mkd at hmk; simpa using hmk
              have hD2 := hD.mark HA.out hk hx (by rw [← hB]; omega) hmk
              have hmk2 : mkd l (M.set (hnd l k) true) k := (mk_set (by rw [← hB]; omega)).2 (.inl rfl)
              have hun := unm_set HA.out hk (by rw [← hB]; omega) hmk
              rw [← hB] at hD2 hmk2 hun
              have HUN : Hid (unm l (M.set B true) + 1 = unm l M) := hun
              have HPW : Hid (∀ q, q < p → ∀ wr, Fr New w wr → (Calls Tryz.prog fR #[y, .int .i64 ((106 + 8 * (B - 1) + 1 + q : Nat) : Int)] wr fun e w'' => e = .returned (.int .u64 (wd ws (pl l[k] q))) ∧ w'' = wr) ∧ 106 + 8 * (B - 1) + 1 + q < L) := fun q hq wr hf => by
                have e : 106 + 8 * (B - 1) + 1 + q = pl l[k] q := by unfold pl; omega
                rw [e]
                have hlt : pl l[k] q < ws.length := by unfold pl; rw [hp] at hq; omega
                exact ⟨HW.out wr hf _ hlt, by rw [HL.out]; exact hlt⟩
              have hB1 : 1 ≤ B := by omega
              clear hD hB hs hp hBo hmk hx hob hin1 hin2 hun
              rw [hMB] at hcm
              clear hMB
              go_wp2_with (first
                | (go_at_call 56; refine HHX.out.mono ?_; rintro e w1 ⟨r, rfl, hs, hf1⟩; obtain rfl := HR2.out r hs; have hc1 := hcm w1 (hpop.grow hf1); have hc2 := hfm w1 (hpop.grow hf1); have hlt1 : w.heap.size + 1 < w1.heap.size := lt_of_block (hpop.grow hf1).row)
                | fail)
              have hm3 : RMem w W' (.slice (some ⟨g, 0, none⟩) n cc) (M.set B true) ((w1.setCell ⟨w.heap.size + 1, B, none⟩ (.bool true)).alloc (.cells #[.int .i64 1, .int .i64 B, .int .i64 s, .int .i64 p] 115)) := ((hpop.grow hf1).put B).grow ((Fr.refl _ _).alloc _)
              have ht3 : ((w1.setCell ⟨w.heap.size + 1, B, none⟩ (.bool true)).alloc (.cells #[.int .i64 1, .int .i64 B, .int .i64 s, .int .i64 p] 115)).heap[w1.heap.size]? = some (.cells #[.int .i64 1, .int .i64 B, .int .i64 s, .int .i64 p] 115 (0, 0)) := new_at _ _ _ (World.size_setCell _ _ _)
              clear hc1 hc2 hlt1
              go_loopg [6, 54] p (fun gh s6 s54 wr => ∃ (q : Nat) (W : List Int), q ≤ p ∧ gh = p - q ∧ s54 = .int .i64 q ∧ W.length ≤ n + q ∧ Dfs ws l W (M.set B true) 4 k q ∧ RMem w W s6 (M.set B true) wr ∧ wr.heap[w1.heap.size]? = some (.cells #[.int .i64 1, .int .i64 B, .int .i64 s, .int .i64 p] 115 (0, 0)))
              case atStart => exact ⟨0, W', by omega, rfl, rfl, by rw [HN.out]; omega, hD2, hm3, ht3⟩
              case round =>
                clear hm3 ht3 hD2 hpop hf1
                obtain ⟨q, W, hqp, rfl, rfl, hWl, hDq, hmq, htq⟩ := hrel
                obtain ⟨a6, c6, rfl⟩ := own_slice hmq.own
                by_cases hq : q < p
                · have hDn := hDq.push hk hmk2 (by rw [← HKB.out.2.2]; exact hq) (by omega)
                  obtain ⟨x', hx'⟩ : ∃ x', x' = wd ws (pl l[k] q) := ⟨_, rfl⟩
                  have HRD : Hid (∀ w2, Fr New w w2 → Calls Tryz.prog fR #[y, .int .i64 ((106 + 8 * (B - 1) + 1 + q : Nat) : Int)] w2 fun e w'' => e = .returned (.int .u64 x') ∧ w'' = w2) := fun w2 hf => by
                    obtain ⟨h1, h2⟩ := HPW.out q hq w2 hf
                    rw [hx']
                    exact h1
                  have HPL : Hid (∀ w2, Calls Tryz.prog 60 #[.agg #[.int .i64 1, .int .i64 B, .int .i64 s, .int .i64 p], .int .i64 q] w2 fun e w' => e = .returned (.int .i64 ((106 + 8 * (B - 1) + 1 + q : Nat) : Int)) ∧ Fr New w2 w') := fun w2 => by
                    have := twplace_any 1 s p (B - 1) q w2 (by omega) (by omega)
                    rwa [show B - 1 + 1 = B by omega] at this
                  rw [← hx'] at hDn
                  obtain ⟨pq, hpq⟩ : ∃ pq : Nat, pq = 106 + 8 * (B - 1) + 1 + q := ⟨_, rfl⟩
                  rw [← hpq] at HRD HPL
                  obtain ⟨ht, hz⟩ := block_cells htq
                  have ht0 : wr.cell? ⟨w1.heap.size, 0, none⟩ = some (.int .i64 1) := (ht 0).trans rfl
                  have ht1 : wr.cell? ⟨w1.heap.size, 1, none⟩ = some (.int .i64 B) := (ht 1).trans rfl
                  have ht2 : wr.cell? ⟨w1.heap.size, 2, none⟩ = some (.int .i64 s) := (ht 2).trans rfl
                  have ht3 : wr.cell? ⟨w1.heap.size, 3, none⟩ = some (.int .i64 p) := (ht 3).trans rfl
                  have HWL : Hid (W.length ≤ 2100) := by show _ ≤ _; omega
                  have HBW : Hid (w.heap.size ≤ wr.heap.size) := hmq.fr.size
                  clear hpq hx' hDq ht hz
                  go_upto_region 17 with fail
                  go_region_held3 (fun w' => w'.cell? ⟨w1.heap.size, 0, none⟩ = some (.int .i64 1) ∧ w'.cell? ⟨w1.heap.size, 1, none⟩ = some (.int .i64 B) ∧ w'.cell? ⟨w1.heap.size, 2, none⟩ = some (.int .i64 s) ∧ w'.cell? ⟨w1.heap.size, 3, none⟩ = some (.int .i64 p)) (first | go_keep | exact hkeep2 | exact hkeep3)
                    (first
                      | (go_at_call 60; refine (HPL.out _).mono ?_; rintro e w2 ⟨rfl, hf2⟩; have hf2' : Fr New wr w2 := ((Fr.refl New wr).drew.same hf2); have hkeep2 : w2.cell? ⟨w1.heap.size, 0, none⟩ = some (.int .i64 1) ∧ w2.cell? ⟨w1.heap.size, 1, none⟩ = some (.int .i64 B) ∧ w2.cell? ⟨w1.heap.size, 2, none⟩ = some (.int .i64 s) ∧ w2.cell? ⟨w1.heap.size, 3, none⟩ = some (.int .i64 p) := ⟨hf2'.cell ht0 id, hf2'.cell ht1 id, hf2'.cell ht2 id, hf2'.cell ht3 id⟩)
                      | (rw [HM.out _ (hmq.fr.same hf2')])
                      | (refine calls_same (HRD.out _ (hmq.fr.same hf2')) ?_)
                      | (refine step_append_lies _ (by rfl) (.tmp 57) (.tmp 66) 43 (by rfl) w.heap.size 50 i0 (.int .u64 0) 1 8 Tryz.underlying43 hi0 hz0 hz1 hz2 rfl (by decide) (.slice a6 W.length c6) W.length (W.map (Value.int .u64)) (by rfl) ((hmq.grow hf2').own.alloc _) ⟨w2.heap.size, 0, none⟩ 1 1 [.int .u64 x'] (by rfl) rfl (World.news_of_block (Go.Deep.blk_alloc_new w2 _)) (by intro u hu; simp at hu; subst hu; rfl) (by decide) (by have := HWL.out; unfold maxLen; omega) (by have := HWL.out; omega) (by have := HBW.out; have := hf2'.size; simp; omega) _ rfl ?_; intro g7 c7 w7 ho7 hg7 _ _; have hm7 := hmq.push (hf2'.alloc _) ho7 hg7; have ht7 := hmq.other (hf2'.alloc _) hg7 (by decide) htq; have hkeep3 : w7.cell? ⟨w1.heap.size, 0, none⟩ = some (.int .i64 1) ∧ w7.cell? ⟨w1.heap.size, 1, none⟩ = some (.int .i64 B) ∧ w7.cell? ⟨w1.heap.size, 2, none⟩ = some (.int .i64 s) ∧ w7.cell? ⟨w1.heap.size, 3, none⟩ = some (.int .i64 p) := ⟨((block_cells ht7).1 0).trans rfl, ((block_cells ht7).1 1).trans rfl, ((block_cells ht7).1 2).trans rfl, ((block_cells ht7).1 3).trans rfl⟩))
                  all_goals
                    clear hkeep2 hkeep3
                    go_wp2_with fail
                    go_roundg (p - (q + 1))
                    case measure => omega
                    case rel => exact ⟨q + 1, _, by omega, rfl, by go_num, by simp; omega, hDn, hm7, ht7⟩
                · obtain rfl : q = p := by omega
                  have hD9 := hDq.all hk (by rw [← HKB.out.2.2]; exact Nat.le_refl _)
                  go_wp2
                  go_roundg (40 * unm l (M.set B true) + W.length)
                  case measure => have := HUN.out; rw [HXL.out]; omega
                  case rel => exact ⟨W, _, rfl, hD9, hmq⟩
theorem reached2_any (sb so c : Nat) (ws : List Int) (v : Value) (l : List Ob) (w : World) (hm : ws.length ≤ 1048576) (h7 : 7 ≤ ws.length) (hcw : ∀ i, i < ws.length → w.cell? ⟨sb, so + i, none⟩ = some (.int .u64 (wd ws i))) (hv : LiesT w v l) (ha : Asc l) (hin : Within ws l) (hh : ∀ o ∈ l, o.block < 32) (hl32 : l.length ≤ 32) :
    Calls Tryz.prog 141 #[v, rowV (some ⟨sb, so, none⟩) ws.length c] w fun e w' => ∃ M : List Bool, e = .returned (.agg ((M.map Value.bool).toArray)) ∧ M.length = 33 ∧ (∀ i, i < l.length → (mkd l M i ↔ Reach ws l i)) ∧ Fr New w w' :=
  reached2_row _ _ _ _ _ ws v l w hm h7 (kept_row rfl hcw) hv ha hin hh hl32
end Go.Proofs.YtbagcjlimdilpaaGreat
