/- Texts that follow one another, joined. -/
import Derived.Test.YtbagcjlimdilpaaGreatKtJ3
import Derived.Maps.Own
import Derived.Maps.OwnOps
import Derived.Maps.OwnSet
import Derived.Lib.SlKeysI
import Derived.Deep.CutRange
import Derived.Test.YtbagcjlimdilpaaGreatKtJ1
/- The program's rows behind the interface: words that are told, and changes over them. -/
namespace Go.Proofs.YtbagcjlimdilpaaGreat
open Go.RowKit Go.Maps

theorem meth_tread (tb : Nat) (w : World) (v : Value) (hc : w.cell? ⟨tb, 0, none⟩ = some v) : (method 356 97 (.pointer (some ⟨tb, 0, none⟩)) "Read").run Tryz.prog w = .ok (197, v) w := by
  have h : (method 356 97 (.pointer (some ⟨tb, 0, none⟩)) "Read").run Tryz.prog w = ((load ⟨tb, 0, none⟩) >>= fun v => (pure (197, v) : Sem (FuncId × Value))).run Tryz.prog w := by kernel_rfl
  rw [h]
  simp [go_sem, hc]
theorem meth_tlen (tb : Nat) (w : World) (v : Value) (hc : w.cell? ⟨tb, 0, none⟩ = some v) : (method 356 97 (.pointer (some ⟨tb, 0, none⟩)) "Len").run Tryz.prog w = .ok (196, v) w := by
  have h : (method 356 97 (.pointer (some ⟨tb, 0, none⟩)) "Len").run Tryz.prog w = ((load ⟨tb, 0, none⟩) >>= fun v => (pure (196, v) : Sem (FuncId × Value))).run Tryz.prog w := by kernel_rfl
  rw [h]
  simp [go_sem, hc]
theorem ahead_tread (a : Addr) (w : World) : (nilAhead 356 97 (.pointer (some a)) "Read").run Tryz.prog w = .ok (some false) w := by kernel_rfl
theorem meth_tput (a : Addr) (w : World) : (method 356 97 (.pointer (some a)) "Put").run Tryz.prog w = .ok (139, .pointer (some a)) w := by kernel_rfl
theorem ahead_tput (a : Addr) (w : World) : (nilAhead 356 97 (.pointer (some a)) "Put").run Tryz.prog w = .ok (some false) w := by kernel_rfl
theorem meth_clen (a : Addr) (w : World) : (method 356 101 (.pointer (some a)) "Len").run Tryz.prog w = .ok (198, .pointer (some a)) w := by kernel_rfl
theorem meth_cread (a : Addr) (w : World) : (method 356 101 (.pointer (some a)) "Read").run Tryz.prog w = .ok (70, .pointer (some a)) w := by kernel_rfl
theorem meth_cput (a : Addr) (w : World) : (method 356 101 (.pointer (some a)) "Put").run Tryz.prog w = .ok (59, .pointer (some a)) w := by kernel_rfl
theorem ahead_cread (a : Addr) (w : World) : (nilAhead 356 101 (.pointer (some a)) "Read").run Tryz.prog w = .ok (some false) w := by kernel_rfl
theorem ahead_cput (a : Addr) (w : World) : (nilAhead 356 101 (.pointer (some a)) "Put").run Tryz.prog w = .ok (some false) w := by kernel_rfl
theorem call_clen (a : Array Value) (w : World) : (callFunc 198 a).run Tryz.prog w = .ok (.enter 198 a) w := by kernel_rfl
theorem call_cread (a : Array Value) (w : World) : (callFunc 70 a).run Tryz.prog w = .ok (.enter 70 a) w := by kernel_rfl

/-- a row that is told: its struct, its words -/
structure ToldIs (w : World) (tb g : Nat) (ws : List Int) (vs : Value) : Prop where
  td : w.heap[tb]? = some (.cells #[.slice (some ⟨g, 0, none⟩) ws.length ws.length, vs] 108 (0, 0))
  wb : w.heap[g]? = some (.cells ((ws.map (Value.int .u64)).toArray) 50 (0, 0))
  len : ws.length ≤ 1048576
namespace ToldIs
variable {w : World} {tb g : Nat} {ws : List Int} {vs : Value}
theorem head (h : ToldIs w tb g ws vs) : w.cell? ⟨tb, 0, none⟩ = some (.slice (some ⟨g, 0, none⟩) ws.length ws.length) := ((block_cells h.td).1 0).trans rfl
theorem stores (h : ToldIs w tb g ws vs) : w.cell? ⟨tb, 1, none⟩ = some vs := ((block_cells h.td).1 1).trans rfl
theorem cells (h : ToldIs w tb g ws vs) (i : Nat) (hi : i < ws.length) : w.cell? ⟨g, 0 + i, none⟩ = some (.int .u64 (wd ws i)) := by
  rw [Nat.zero_add, (block_cells h.wb).1]
  simp [wd, hi]
theorem fr {T : Nat → Prop} {w' : World} (h : ToldIs w tb g ws vs) (hf : Fr T w w') (h1 : ¬ T tb) (h2 : ¬ T g) : ToldIs w' tb g ws vs := ⟨hf.heap h.td h1, hf.heap h.wb h2, h.len⟩
theorem row (h : ToldIs w tb g ws vs) : RowAt w 97 (.pointer (some ⟨tb, 0, none⟩)) 196 197 (.slice (some ⟨g, 0, none⟩) ws.length ws.length) ws :=
  ⟨fun w' hf => meth_tlen _ w' _ (hf.cell h.head id), fun w' hf => meth_tread _ w' _ (hf.cell h.head id), fun w' => ahead_tread _ w', call_klen, call_kread, fun w' _ => klen_any _ _ _ w',
    fun w' hf i hi => kread_any g 0 _ _ i _ w' hi (hf.cell (h.cells i hi) id)⟩
end ToldIs

theorem key_int : Keyed Tryz.prog 3 := int_keyed Tryz.underlying3
theorem zero_u64 (w : World) : (zeroValue 50).run Tryz.prog w = .ok (.int .u64 0) w := by kernel_rfl
theorem hkey_i (q : Nat) (hq : q ≤ 1048576) : keyOf Tryz.prog 3 (.int .i64 (q : Int)) = some (.int .i64 (q : Int)) := keyOf_int_mk Tryz.underlying3 (WalkArith.wf_i64 (by omega))
theorem lit_ne {a b : Int} (h : a ≠ b) : (Lit.int .i64 a) ≠ (Lit.int .i64 b) := by intro e; cases e; exact h rfl
/-- what a map of changes says: where now is another word than ws, and which -/
structure DiffIs (D : DataW Unit) (ws now : List Int) : Prop where
  key : ∀ p : Int, Maps.has D (.int .i64 p) = true ↔ ∃ q : Nat, q < ws.length ∧ p = (q : Int) ∧ wd now q ≠ wd ws q
  val : ∀ q : Nat, Maps.has D (.int .i64 (q : Int)) = true → D.atKey (.int .i64 (q : Int)) (.lit (.int .u64 0)) = .lit (.int .u64 (wd now q))
theorem diff_none (ws : List Int) : DiffIs (.map []) ws ws := ⟨fun p => by simp [Maps.has], fun q h => by simp [Maps.has] at h⟩
theorem diff_put {D : DataW Unit} {ws now : List Int} (h : DiffIs D ws now) (hD : IsMap D) (hl : now.length = ws.length) {q : Nat} (hq : q < ws.length) {v : Int} (hv : v ≠ wd ws q) : DiffIs (D.put (.int .i64 (q : Int)) (.lit (.int .u64 v))) ws (now.set q v) := by
  refine ⟨fun p => ?_, fun p hp => ?_⟩
  · by_cases he : p = (q : Int)
    · subst he
      rw [has_put_same (k := .int .i64 (q : Int)) hD trivial]
      simp only [true_iff]
      exact ⟨q, hq, rfl, by rw [wd_set (by omega), if_pos rfl]; exact hv⟩
    · rw [has_put_other (lit_ne he), h.key]
      refine exists_congr fun r => and_congr_right fun hr => and_congr_right fun hpr => ?_
      rw [wd_set (by omega), if_neg (by intro e; subst e; exact he hpr)]
  · by_cases he : p = q
    · subst he
      rw [atKey_put_same (k := .int .i64 (p : Int)) hD trivial, wd_set (by omega), if_pos rfl]
    · have hne : ((p : Int)) ≠ (q : Int) := by omega
      rw [has_put_other (lit_ne hne)] at hp
      rw [atKey_put_other (lit_ne hne), h.val p hp, wd_set (by omega), if_neg he]
theorem diff_del {D : DataW Unit} {ws now : List Int} (h : DiffIs D ws now) (hl : now.length = ws.length) {q : Nat} (hq : q < ws.length) : DiffIs (D.del (.int .i64 (q : Int))) ws (now.set q (wd ws q)) := by
  refine ⟨fun p => ?_, fun p hp => ?_⟩
  · by_cases he : p = (q : Int)
    · subst he
      rw [has_del_same]
      refine ⟨(fun h => by cases h), ?_⟩
      rintro ⟨r, hr, hqr, hne⟩
      obtain rfl : q = r := by omega
      rw [wd_set (by omega), if_pos rfl] at hne
      exact absurd rfl hne
    · rw [has_del_other (lit_ne he), h.key]
      refine exists_congr fun r => and_congr_right fun hr => and_congr_right fun hpr => ?_
      rw [wd_set (by omega), if_neg (by intro e; subst e; exact he hpr)]
  · by_cases he : p = q
    · subst he
      rw [has_del_same] at hp
      cases hp
    · have hne : ((p : Int)) ≠ (q : Int) := by omega
      rw [has_del_other (lit_ne hne)] at hp
      rw [atKey_del_other (lit_ne hne), h.val p hp, wd_set (by omega), if_neg he]
/-- the places at which now is another word than ws, in order -/
def difP (ws now : List Int) : List Nat := (List.range ws.length).filter (fun q => wd now q != wd ws q)
theorem mem_difP {ws now : List Int} {q : Nat} : q ∈ difP ws now ↔ q < ws.length ∧ wd now q ≠ wd ws q := by simp [difP]
theorem difP_nodup (ws now : List Int) : (difP ws now).Nodup := List.Pairwise.filter _ List.nodup_range
theorem difP_len (ws now : List Int) : (difP ws now).length ≤ ws.length := by
  have := List.length_filter_le (fun q => wd now q != wd ws q) (List.range ws.length)
  simpa [difP] using this
/-- the entries of a map of ints are such -/
theorem owns_kinds {w : World} {mb n : Nat} {D : DataW Unit} (h : w.ownsMap Tryz.prog 3 (plainElem Tryz.prog 50) mb n D) : ∃ es : List (Lit × DataW Unit), D = .map es ∧ es.Pairwise (fun p q => p.1 ≠ q.1) ∧ ∀ p ∈ es, ∃ x, p.1 = .int .i64 x := by
  obtain ⟨es, hD, hp⟩ := h.tidy key_int
  refine ⟨es, hD, hp, fun p hp' => ?_⟩
  obtain ⟨es0, clock, hb, F, hs, hD0⟩ := h
  rw [hD] at hD0
  cases hD0
  have : p ∈ es0.toList.map (WideElems.rg Tryz.prog 3 (plainElem Tryz.prog 50)) := by
    have hperm : ∀ l : List (Lit × DataW Unit), ∀ z, z ∈ l.foldr DataW.insert [] → z ∈ l := fun l => by
      induction l with
      | nil => intro z hz; exact hz
      | cons a l ih =>
        intro z hz
        have hin : ∀ (m : List (Lit × DataW Unit)), z ∈ DataW.insert a m → z = a ∨ z ∈ m := fun m => by
          induction m with
          | nil => intro hz; simpa [DataW.insert] using hz
          | cons b m ihm =>
            intro hz
            simp only [DataW.insert] at hz
            split at hz
            · simpa using hz
            · rcases List.mem_cons.1 hz with rfl | hz
              · exact .inr (by simp)
              · rcases ihm hz with e | e
                · exact .inl e
                · exact .inr (by simp [e])
        rcases hin _ hz with rfl | hz
        · simp
        · exact List.mem_cons_of_mem _ (ih z hz)
    exact hperm _ _ hp'
  obtain ⟨v, hv⟩ := fit_keys F p this
  obtain ⟨x, _, e, _⟩ := Maps.keyOf_i64 Tryz.underlying3 hv
  exact ⟨x, e⟩
theorem keys_perm' {w : World} {mb n : Nat} {D : DataW Unit} {ws now : List Int} (h : w.ownsMap Tryz.prog 3 (plainElem Tryz.prog 50) mb n D) (hd : DiffIs D ws now) : ((difP ws now).map (fun q : Nat => (q : Int))).Perm (intKeys D) := by
  obtain ⟨es, rfl, hp, hk⟩ := owns_kinds h
  refine perm_intKeys hp hk ?_ ?_
  · exact List.Pairwise.map _ (fun a b hne e => hne (by exact Int.ofNat.inj e)) (difP_nodup ws now)
  · intro x
    rw [hd.key]
    simp only [List.mem_map, mem_difP]
    constructor
    · rintro ⟨q, ⟨h1, h2⟩, rfl⟩; exact ⟨q, h1, rfl, h2⟩
    · rintro ⟨q, h1, rfl, h2⟩; exact ⟨q, ⟨h1, h2⟩, rfl⟩
theorem size_keys (D : DataW Unit) : Maps.size D = (intKeys D).length := by
  cases D <;> simp [Maps.size, intKeys]
theorem diff_size {w : World} {mb n : Nat} {D : DataW Unit} {ws now : List Int} (h : w.ownsMap Tryz.prog 3 (plainElem Tryz.prog 50) mb n D) (hd : DiffIs D ws now) : Maps.size D = (difP ws now).length := by
  rw [size_keys, ← (keys_perm' h hd).length_eq, List.length_map]
theorem owns_tight {w : World} {mb n : Nat} {D : DataW Unit} (h : w.ownsMap Tryz.prog 3 (plainElem Tryz.prog 50) mb n D) : w.ownsMap Tryz.prog 3 (plainElem Tryz.prog 50) mb (Maps.size D) D := by
  obtain ⟨es, clock, hb, F, hs, hD⟩ := h
  refine ⟨es, clock, hb, F, ?_, hD⟩
  rw [hD, size_eq, length_sorted]
  simp
end Go.Proofs.YtbagcjlimdilpaaGreat
/- The walk of the document's 'reached': an object is marked just where it is reached. -/
namespace Go.Proofs.YtbagcjlimdilpaaGreat
open Go.RowKit

theorem Tryz.info4 : (Tryz.prog.info? 4).map (fun i => (i.zero, i.size, i.bytes)) = some (some (.bool false), 1, 1) := by kernel_rfl

/-- block g is just those marks -/
def BRow (w : World) (g : Nat) (out : List Bool) : Prop := w.heap[g]? = some (.cells ((out.map Value.bool).toArray) 4 (0, 0))
theorem BRow.cell {w : World} {g : Nat} {out : List Bool} (h : BRow w g out) (k : Nat) (hk : k < out.length) : w.cell? ⟨g, k, none⟩ = some (.bool out[k]) := by
  simp [World.cell?, show w.heap[g]? = _ from h, hk]
theorem BRow.free {w : World} {g : Nat} {out : List Bool} (h : BRow w g out) (k : Nat) : w.frozen? ⟨g, k, none⟩ = false := by
  simp [World.frozen?, show w.heap[g]? = _ from h]
theorem BRow.set {w : World} {g : Nat} {out : List Bool} (h : BRow w g out) (k : Nat) (y : Bool) : BRow (w.setCell ⟨g, k, none⟩ (.bool y)) g (out.set k y) := by
  have := heap_setCell_same w g k _ _ (.bool y) h
  unfold BRow
  rw [this]
  simp [List.map_set]
theorem BRow.ofOwn {w : World} {g base n : Nat} {xs : List Value} {out : List Bool} (h : w.ownsRow base 4 1 (.slice (some ⟨g, 0, none⟩) n n) n xs) (hx : xs = out.map Value.bool) : BRow w g out := by
  rcases h.2 with ⟨h', _⟩ | ⟨g', cap', cur, h', _, hg, _, _, hcs, htk⟩
  · cases h'
  · simp only [Value.slice.injEq, Option.some.injEq, Addr.mk.injEq, and_true, true_and] at h'
    obtain ⟨rfl, rfl⟩ := h'
    unfold BRow
    rw [hg, ← hx, ← htk, List.take_of_length_le (by rw [Array.length_toList, hcs]; exact Nat.le_refl _)]
theorem made_false (n : Nat) : (madeCells (Value.bool false).cells (n * 1)).toList = (List.replicate n false).map Value.bool := by
  rw [Nat.mul_one, List.map_replicate]; exact toList_madeCells_one _ n

/-- what the search keeps in memory -/
structure Mem (w : World) (g : Nat) (out : List Bool) (wr : World) : Prop where
  row : BRow wr g out
  fr : Fr New w wr
theorem Mem.put {w : World} {out : List Bool} {wr : World} (h : Mem w w.heap.size out wr) (k : Nat) : Mem w w.heap.size (out.set k true) (wr.setCell ⟨w.heap.size, k, none⟩ (.bool true)) :=
  ⟨h.row.set k true, h.fr.setCell (fun hlt => absurd hlt (by simp)) _⟩
theorem Mem.grow {w : World} {out : List Bool} {wr w' : World} (h : Mem w w.heap.size out wr) (hf : Fr New wr w') : Mem w w.heap.size out w' := ⟨hf.heap h.row id, h.fr.same hf⟩

/-- the objects lie within the words -/
def Within (ws : List Int) (l : List Ob) : Prop := ∀ o ∈ l, 106 + 8 * (o.block + o.span) ≤ ws.length ∧ o.ptrs < 8 * o.span

set_option maxHeartbeats 2000000 in
set_option maxRecDepth 1000000 in
theorem reached_any (a : Option Addr) (cap : Nat) (ws : List Int) (v : Value) (l : List Ob) (w : World) (hm : ws.length ≤ 1048576) (h7 : 7 ≤ ws.length) (hr : RowU w a ws) (hv : LiesO w v l) (hin : Within ws l) :
    Calls Tryz.prog 149 #[.slice a ws.length cap, v] w fun e w' => ∃ out : List Bool, e = .returned (.slice (some ⟨w.heap.size, 0, none⟩) l.length l.length) ∧ BRow w' w.heap.size out ∧ out.length = l.length ∧ (∀ i, out[i]? = some true ↔ Reach ws l i) ∧ Fr New w w' := by
  have HV : Hid (∀ wr, Fr New w wr → LiesO wr v l) := fun wr hf => hv.fr hf (fun _ _ h => h)
  obtain ⟨av, cv, rfl, hl, hbo, hcl⟩ := hv
  obtain ⟨sb, so, rfl, hsb, hcw⟩ := rowU_plain hr (by omega)
  have HW : Hid (∀ wr, Fr New w wr → ∀ i, i < ws.length → wr.cell? ⟨sb, so + i, none⟩ = some (.int .u64 (wd ws i))) := fun wr hf i hi => hf.cell (hcw i hi) id
  have HC : Hid (0 < l.length → ∃ g, av = some ⟨g, 0, none⟩ ∧ ∀ wr, Fr New w wr → ∀ i (hi : i < l.length), wr.cell? ⟨g, i * 3, none⟩ = some (.int .i64 (l[i]).block) ∧ wr.cell? ⟨g, i * 3 + 1, none⟩ = some (.int .i64 (l[i]).span) ∧ wr.cell? ⟨g, i * 3 + 2, none⟩ = some (.int .i64 (l[i]).ptrs)) := by
    intro hp
    obtain ⟨g, e, _, hc⟩ := hcl hp
    exact ⟨g, e, fun wr hf i hi => ⟨hf.cell (hc i hi).1 id, hf.cell (hc i hi).2.1 id, hf.cell (hc i hi).2.2 id⟩⟩
  have HBO : Hid (∀ o ∈ l, o.block ≤ 1048576 ∧ o.span ≤ 4 ∧ o.ptrs < 32) := hbo
  have HIN : Hid (Within ws l) := hin
  clear hr hcl hcw hbo hin
  obtain ⟨i0, hi, hz0, hz1, hz2⟩ := info_parts Tryz.info4
  go_enter Tryz.func149, Tryz.ntmps149
  go_wp2_with (first
    | (at_make; refine wpList_make_full _ rfl (.tmp 13) (.tmp 13) 124 rfl w.heap.size 4 i0 (.bool false) 1 Tryz.underlying124 hi hz0 hz1 .i64 .i64 _ _ l.length rfl rfl rfl rfl (by rw [hz2]; omega) (by unfold maxLen; omega) (Nat.le_refl _) ?_; intro w1 hown1 hg1; have hm1 : Mem w w.heap.size (List.replicate l.length false) w1 := ⟨BRow.ofOwn hown1 (made_false _), (Fr.refl New w).grownNew hg1⟩; clear hown1 hg1)
    | fail)
  go_loopw [7] (fun t wr => ∃ (r : Nat) (out : List Bool), r ≤ 4 ∧ t = .int .i64 r ∧ Marks ws l r out ∧ Mem w w.heap.size out wr) (fun t _ => 4 - (intOf t).toNat)
  case atStart => exact ⟨0, _, by omega, rfl, marks_none ws l, hm1⟩
  case round =>
    obtain ⟨r, out, hr4, rfl, hM, hmem⟩ := hrel
    clear hm1
    by_cases hr : r < 4
    · have hc := HW.out wr hmem.fr (3 + r) (by omega)
      have hc' : wr.cell? ⟨sb, so + (3 + r), none⟩ = some (.int .u64 (wd ws (3 + r))) := hc
      clear hc
      have HF : Hid (Calls Tryz.prog 130 #[.slice av l.length cv, .int .u64 (wd ws (3 + r))] wr fun e w' => e = .returned (.int .i64 (findI l (wd ws (3 + r)))) ∧ w' = wr) := find_any _ l _ wr (HV.out wr hmem.fr)
      obtain ⟨h, hh⟩ : ∃ h, h = wd ws (3 + r) := ⟨_, rfl⟩
      rw [← hh] at hc' HF
      rcases hx : idx l h with _ | k
      · have hnx := hM.next (fun k hk => by rw [← hh, hx] at hk; cases hk)
        rw [findI_none hx] at HF
        clear hx hh
        go_wp2_with (go_at_call 130; refine calls_same HF.out ?_)
        go_roundw
        case rel => exact ⟨r + 1, out, by omega, by go_num, hnx, hmem⟩
        case measure => simp [intOf]; omega
      · have hk := idx_lt hx
        have hnx := (hM.mark hk (reach_root hr (by rw [← hh]; exact hx))).next (fun k' hk' => by rw [← hh, hx] at hk'; cases hk'; exact (set_true (by rw [hM.len]; exact hk)).2 (.inl rfl))
        rw [findI_some hx] at HF
        have hcl := hmem.row.cell k (by rw [hM.len]; exact hk)
        have hfz := hmem.row.free k
        have hput := hmem.put k
        clear hx hh
        go_wp2_with (go_at_call 130; refine calls_same HF.out ?_)
        go_roundw
        case rel => exact ⟨r + 1, _, by omega, by go_num, hnx, hput⟩
        case measure => simp [intOf]; omega
    · obtain rfl : r = 4 := by omega
      go_wp2
      go_loopg [6] (unmarked out + 1) (fun gh t wr => ∃ (out : List Bool) (m : Bool), t = .bool m ∧ gh = (if m then unmarked out + 1 else 0) ∧ Marks ws l 4 out ∧ (m = false → ∀ i, i < l.length → ∀ p, Spread ws l out i p) ∧ Mem w w.heap.size out wr)
      case atStart => exact ⟨out, true, rfl, rfl, hM, (fun h => by cases h), hmem⟩
      case round =>
        clear hM hmem hr hr4
        obtain ⟨out, m, rfl, rfl, hM, hS, hmem⟩ := hrel
        cases m with
        | false =>
          have hd := hM.done (hS rfl)
          have HD : Hid (∀ i, out[i]? = some true ↔ Reach ws l i) := hd
          have hln := hM.len
          have HLN : Hid (out.length = l.length) := hln
          clear hd hln hS
          go_wp2
          go_ret
          exact ⟨out, rfl, hmem.row, HLN.out, HD.out, hmem.fr⟩
        | true =>
          have hP0 := Pass.start hM
          obtain ⟨U0, hU0⟩ : ∃ U0, U0 = unmarked out := ⟨_, rfl⟩
          rw [← hU0] at hP0
          have HU : Hid (U0 = unmarked out) := hU0
          clear hS hM hU0
          go_wp2
          go_loopg [6, 9] l.length (fun gh t ti wr => ∃ (out : List Bool) (m : Bool) (i : Nat), t = .bool m ∧ ti = .int .i64 i ∧ i ≤ l.length ∧ gh = l.length - i ∧ Pass ws l U0 out m i ∧ Mem w w.heap.size out wr)
          case atStart => exact ⟨out, false, 0, rfl, rfl, by omega, rfl, hP0, hmem⟩
          case round =>
            clear hP0 hmem
            obtain ⟨out', m, i, rfl, rfl, hil, rfl, hP, hmem⟩ := hrel
            by_cases hi : i < l.length
            · obtain ⟨g, rfl, hcells⟩ := HC.out (by omega)
              obtain ⟨hb1, hb2, hb3⟩ := HBO.out l[i] (List.getElem_mem _)
              obtain ⟨hw1, hw2⟩ := HIN.out l[i] (List.getElem_mem _)
              obtain ⟨o, ho⟩ : ∃ o, o = l[i] := ⟨_, rfl⟩
              have HO : Hid (o = l[i]) := ho
              have HCI : Hid (∀ wr, Fr New w wr → wr.cell? ⟨g, i * 3, none⟩ = some (.int .i64 o.block) ∧ wr.cell? ⟨g, i * 3 + 1, none⟩ = some (.int .i64 o.span) ∧ wr.cell? ⟨g, i * 3 + 2, none⟩ = some (.int .i64 o.ptrs)) := by rw [ho]; exact fun wr hf => hcells wr hf i hi
              rw [← ho] at hb1 hb2 hb3 hw1 hw2
              clear ho hcells
              go_wp2
              go_loopg [6, 10] o.ptrs (fun gh t tp wr => ∃ (out : List Bool) (m : Bool) (p : Nat), t = .bool m ∧ tp = .int .i64 p ∧ p ≤ o.ptrs ∧ gh = o.ptrs - p ∧ Pass ws l U0 out m i ∧ (m = false → Spread ws l out i p) ∧ Mem w w.heap.size out wr)
              case atStart => exact ⟨out', m, 0, rfl, rfl, by omega, rfl, hP, fun _ => spread_zero, hmem⟩
              case round =>
                clear hP hmem
                obtain ⟨out, m, p, rfl, rfl, hpp, rfl, hP, hSp, hmem⟩ := hrel
                obtain ⟨e0, e1, e2⟩ := HCI.out wr hmem.fr
                have hio : i < out.length := by rw [hP.marks.len]; exact hi
                have hci := hmem.row.cell i hio
                rcases hoi : out[i] with _ | _
                · rw [hoi] at hci
                  have hnx := hP.next (fun _ p => spread_not (by rw [List.getElem?_eq_getElem hio, hoi]; simp) p)
                  clear hoi hSp hP
                  go_wp2
                  go_roundg (l.length - (i + 1))
                  case measure => omega
                  case rel => exact ⟨out, m, i + 1, rfl, by go_num, by omega, rfl, hnx, hmem⟩
                · rw [hoi] at hci
                  by_cases hp : p < o.ptrs
                  · have hd : decide ((p : Int) < (o.ptrs : Int)) = true := by simp; omega
                    have HPL : Hid (Calls Tryz.prog 129 #[.agg #[.int .i64 o.block, .int .i64 o.span, .int .i64 o.ptrs], .int .i64 p] wr fun e w' => e = .returned (.int .i64 (106 + 8 * (o.block : Int) + 1 + p)) ∧ Fr New wr w') := place_any o p wr hb1 (by omega) (by omega)
                    obtain ⟨h, hh⟩ : ∃ h, h = wd ws (106 + 8 * o.block + 1 + p) := ⟨_, rfl⟩
                    have HCW : Hid (∀ wr, Fr New w wr → wr.cell? ⟨sb, so + (106 + 8 * o.block + 1 + p), none⟩ = some (.int .u64 h)) := by rw [hh]; exact fun wr hf => HW.out wr hf _ (by omega)
                    have HFI : Hid (∀ wr, Fr New w wr → Calls Tryz.prog 130 #[.slice (some ⟨g, 0, none⟩) l.length cv, .int .u64 h] wr fun e w' => e = .returned (.int .i64 (findI l h)) ∧ w' = wr) := fun wr hf => find_any _ l _ wr (HV.out wr hf)
                    have hpl : ∀ (hi' : i < l.length), wd ws (pl l[i] p) = h := fun _ => by rw [← HO.out]; exact hh.symm
                    have HOI : Hid (out[i]? = some true) := (List.getElem?_eq_getElem hio).trans (by rw [hoi])
                    have hpi : p < (l[i]).ptrs := by rw [← HO.out]; exact hp
                    clear hh hoi
                    rcases hx : idx l h with _ | k
                    · have hsp : m = false → Spread ws l out i (p + 1) := fun hm => spread_more (hSp hm) (fun hi' k hk => by rw [hpl hi', hx] at hk; cases hk)
                      have HF2 : Hid (∀ wr, Fr New w wr → Calls Tryz.prog 130 #[.slice (some ⟨g, 0, none⟩) l.length cv, .int .u64 h] wr fun e w' => e = .returned (.int .i64 (-1)) ∧ w' = wr) := by rw [← findI_none hx]; exact HFI.out
                      clear hx hpl hSp HFI hpi
                      go_wp2_with (first
                        | (go_at_call 129; refine HPL.out.mono ?_; rintro e w2 ⟨rfl, hf2⟩; have hm2 := hmem.grow hf2; have hcw := HCW.out w2 hm2.fr)
                        | (go_at_call 130; refine calls_same (HF2.out w2 hm2.fr) ?_)
                        | fail)
                      go_roundg (o.ptrs - (p + 1))
                      case measure => omega
                      case rel => exact ⟨out, m, p + 1, rfl, by go_num, by omega, rfl, hP, hsp, hm2⟩
                    · have hk := idx_lt hx
                      have hko : k < out.length := by rw [hP.marks.len]; exact hk
                      have HF2 : Hid (∀ wr, Fr New w wr → Calls Tryz.prog 130 #[.slice (some ⟨g, 0, none⟩) l.length cv, .int .u64 h] wr fun e w' => e = .returned (.int .i64 k) ∧ w' = wr) := by rw [← findI_some hx]; exact HFI.out
                      rcases hok : out[k] with _ | _
                      · have hP2 := hP.mark hk (reach_step hi (hP.marks.sound i HOI.out) hpi (by rw [hpl hi]; exact hx)) ((List.getElem?_eq_getElem hko).trans (by rw [hok]))
                        have HK : Hid (∀ w2, Fr New wr w2 → w2.cell? ⟨w.heap.size, k, none⟩ = some (.bool false) ∧ w2.frozen? ⟨w.heap.size, k, none⟩ = false) := fun w2 hf => ⟨((hmem.grow hf).row.cell k hko).trans (by rw [hok]), (hmem.grow hf).row.free k⟩
                        clear hx hpl hSp HFI hpi hok
                        go_wp2_with (first
                          | (go_at_call 129; refine HPL.out.mono ?_; rintro e w2 ⟨rfl, hf2⟩; have hm2 := hmem.grow hf2; have hcw := HCW.out w2 hm2.fr; obtain ⟨hck, hfk⟩ := HK.out w2 hf2; have hput := hm2.put k)
                          | (go_at_call 130; refine calls_same (HF2.out w2 hm2.fr) ?_)
                          | fail)
                        go_roundg (o.ptrs - (p + 1))
                        case measure => omega
                        case rel => exact ⟨_, true, p + 1, rfl, by go_num, by omega, rfl, hP2, (fun h => by cases h), hput⟩
                      · have hsp : m = false → Spread ws l out i (p + 1) := fun hm => spread_more (hSp hm) (fun hi' k' hk' => by rw [hpl hi', hx] at hk'; cases hk'; exact (List.getElem?_eq_getElem hko).trans (by rw [hok]))
                        have HK : Hid (∀ w2, Fr New wr w2 → w2.cell? ⟨w.heap.size, k, none⟩ = some (.bool true)) := fun w2 hf => ((hmem.grow hf).row.cell k hko).trans (by rw [hok])
                        clear hx hpl hSp HFI hpi hok
                        go_wp2_with (first
                          | (go_at_call 129; refine HPL.out.mono ?_; rintro e w2 ⟨rfl, hf2⟩; have hm2 := hmem.grow hf2; have hcw := HCW.out w2 hm2.fr; have hck := HK.out w2 hf2)
                          | (go_at_call 130; refine calls_same (HF2.out w2 hm2.fr) ?_)
                          | fail)
                        go_roundg (o.ptrs - (p + 1))
                        case measure => omega
                        case rel => exact ⟨out, m, p + 1, rfl, by go_num, by omega, rfl, hP, hsp, hm2⟩
                  · have hd : decide ((p : Int) < (o.ptrs : Int)) = false := by simp; omega
                    have hnx := hP.next (fun hm p' => spread_all (hSp hm) hi (by rw [← HO.out]; omega) p')
                    clear hoi hSp hP
                    go_wp2
                    go_roundg (l.length - (i + 1))
                    case measure => omega
                    case rel => exact ⟨out, m, i + 1, rfl, by go_num, by omega, rfl, hnx, hmem⟩
            · obtain rfl : i = l.length := by omega
              cases m with
              | true =>
                have hy := hP.yes rfl
                have hM := hP.marks
                rw [HU.out] at hy
                go_wp2
                go_roundg (unmarked out' + 1)
                case measure => simp; omega
                case rel => exact ⟨out', true, rfl, rfl, hM, (fun h => by cases h), hmem⟩
              | false =>
                obtain ⟨hn, hS⟩ := hP.no rfl
                have hM := hP.marks
                go_wp2
                go_roundg 0
                case measure => simp
                case rel => exact ⟨out', false, rfl, rfl, hM, fun _ => hS, hmem⟩
end Go.Proofs.YtbagcjlimdilpaaGreat
/- Walks of the program's find: what stands at a block. -/
namespace Go.Proofs.YtbagcjlimdilpaaGreat
open Go.RowKit

/-- what a walk finds, as a value -/
abbrev thingV (k b s p : Int) : Value := .agg #[.int .i64 k, .int .i64 b, .int .i64 s, .int .i64 p]
/-- what stands at block b, as a value -/
def slotV (s : Option (Option Ob)) (b : Nat) : Value :=
  match s with
  | none => thingV 0 ((b + 1 : Nat) : Int) 1 0
  | some (some o) => thingV 1 ((b + 1 : Nat) : Int) o.span o.ptrs
  | some none => thingV 2 ((b + 1 : Nat) : Int) 1 0

theorem slot_case {ws : List Int} {b n : Nat} (hL : ws.length = 106 + 8 * n) (h0 : wd ws (106 + 8 * b) ≠ 0) :
    (hdr1 (wd ws (106 + 8 * b)) ∧ b + spanOf (wd ws (106 + 8 * b)) ≤ n ∧ slotAt ws b = some (some ⟨b, spanOf (wd ws (106 + 8 * b)), ptrsOf (wd ws (106 + 8 * b))⟩)) ∨
    (hdr1 (wd ws (106 + 8 * b)) ∧ n < b + spanOf (wd ws (106 + 8 * b)) ∧ slotAt ws b = some none) ∨ (¬ hdr1 (wd ws (106 + 8 * b)) ∧ slotAt ws b = some none) := by
  obtain ⟨h, hh⟩ : ∃ h, h = wd ws (106 + 8 * b) := ⟨_, rfl⟩
  unfold slotAt
  rw [← hh] at h0 ⊢
  rw [if_neg h0]
  by_cases h1 : hdr1 h
  · by_cases h2 : b + spanOf h ≤ n
    · refine .inl ⟨h1, h2, ?_⟩
      rw [if_pos (okB_iff.2 ⟨h1.1, h1.2.1, h1.2.2, by omega⟩)]
    · refine .inr (.inl ⟨h1, by omega, ?_⟩)
      rw [if_neg]
      intro hk
      have := (okB_iff.1 hk).2.2.2
      omega
  · refine .inr (.inr ⟨h1, ?_⟩)
    rw [if_neg]
    intro hk
    have := okB_iff.1 hk
    exact h1 ⟨this.1, this.2.1, this.2.2.1⟩

set_option maxHeartbeats 1000000 in
set_option maxRecDepth 100000 in
theorem find_thing (t : Nat) (x : Value) (fL fR : Nat) (y : Value) (L n b : Nat) (ws : List Int) (w : World) (hL : ws.length = L) (hn : L = 106 + 8 * n) (hn32 : n ≤ 32) (hb : b < n) (hrow : RowAt w t x fL fR y ws) :
    Calls Tryz.prog 148 #[.iface t x, .int .i64 ((b + 1 : Nat) : Int), .int .i64 (n : Int)] w fun e w' => e = .returned (slotV (slotAt ws b) b) ∧ Fr New w w' := by
  have HSC := slot_case (ws := ws) (b := b) (n := n) (by omega)
  have HF : Hid (wd ws (106 + 8 * b) = 0 → slotAt ws b = none) := slot_free
  obtain ⟨h, hh⟩ : ∃ h, h = wd ws (106 + 8 * b) := ⟨_, rfl⟩
  rw [← hh] at HSC HF
  have HP : Hid (∀ w, Calls Tryz.prog 118 #[.int .i64 ((b + 1 : Nat) : Int)] w fun e w' => e = .returned (.int .i64 ((106 + 8 * b : Nat) : Int)) ∧ w' = w) := fun w => place_of b w (by omega)
  have HR : Hid (∀ w', Fr New w w' → Calls Tryz.prog fR #[y, .int .i64 ((106 + 8 * b : Nat) : Int)] w' fun e w'' => e = .returned (.int .u64 h) ∧ w'' = w') := fun w' hf => by rw [hh]; exact hrow.read w' hf _ (by omega)
  obtain ⟨B, hB⟩ : ∃ B : Nat, B = b + 1 := ⟨_, rfl⟩
  obtain ⟨q, hq⟩ : ∃ q : Nat, q = 106 + 8 * b := ⟨_, rfl⟩
  rw [← hq] at HP HR
  have HB : Hid (B = b + 1) := hB
  rw [← hB] at HP ⊢
  have HM : Hid (∀ w', Fr New w w' → (method 356 t x "Read").run Tryz.prog w' = .ok (fR, y) w') := hrow.mread
  have ha := hrow.aread
  have hcf := hrow.cread
  have hBn : B ≤ n := by omega
  have hmf : ∀ (fn : Fn) (first cap : Array Value) (w : World), (Instr.makeFunc fn first cap).run Tryz.prog w = .ok (.func fn first cap) w := fun _ _ _ _ => rfl
  clear hB hq hh hrow hL hn
  by_cases h0 : h = 0
  · rw [HF.out h0]
    subst h0
    clear HSC HF
    go_enter Tryz.func148, Tryz.ntmps148
    go_upto_region 1 with fail
    go_region_with (first
      | (go_at_call 118; refine calls_same (HP.out _) ?_)
      | (rw [HM.out]; rotate_left 1; focus (repeat (first | exact Fr.refl _ _ | assumption | apply Fr.drew | apply Fr.alloc)))
      | (refine calls_same (HR.out _ (by repeat (first | exact Fr.refl _ _ | assumption | apply Fr.drew | apply Fr.alloc))) ?_))
    all_goals go_wp2_with fail
    all_goals exact bodyPost_ret (v := slotV none b) (by simp [results, Tryz.results148, go_sem, slotV, thingV, HB.out]) rfl ⟨rfl, by first | exact ((Fr.refl _ _).alloc _).drew | exact (Fr.refl _ _).alloc _⟩
  rcases HSC h0 with ⟨h1, h2, h3⟩ | ⟨h1, h2, h3⟩ | ⟨h1, h3⟩
  · have HY : Hid (∀ w, Calls Tryz.prog 157 #[.int .u64 h] w fun e w' => e = .returned (.tuple #[.int .i64 (spanOf h), .int .i64 (ptrsOf h), .bool true]) ∧ w' = w) := fun w => parse_yes h w h1
    have hz : (h == 0) = false := by simpa using h0
    obtain ⟨s, hs⟩ : ∃ s, s = spanOf h := ⟨_, rfl⟩
    obtain ⟨p, hp⟩ : ∃ p, p = ptrsOf h := ⟨_, rfl⟩
    rw [← hs, ← hp] at h3 HY
    rw [← hs] at h2
    rw [h3]
    have hd : decide ((n : Int) < (B : Int) + s - 1) = false := by have := HB.out; simp; omega
    have hb32 : s ≤ 32 := by omega
    clear HSC HF h0 h1 h2 h3 hs hp
    go_enter Tryz.func148, Tryz.ntmps148
    go_upto_region 1 with fail
    go_region_with (first
      | (go_at_call 118; refine calls_same (HP.out _) ?_)
      | (rw [HM.out]; rotate_left 1; focus (repeat (first | exact Fr.refl _ _ | assumption | apply Fr.drew | apply Fr.alloc)))
      | (refine calls_same (HR.out _ (by repeat (first | exact Fr.refl _ _ | assumption | apply Fr.drew | apply Fr.alloc))) ?_))
    all_goals go_wp2_with (go_at_call 157; refine calls_same (HY.out _) ?_)
    all_goals exact bodyPost_ret (v := slotV (some (some ⟨b, s, p⟩)) b) (by simp [results, Tryz.results148, go_sem, slotV, thingV, HB.out]) rfl ⟨rfl, by first | exact ((Fr.refl _ _).alloc _).drew | exact (Fr.refl _ _).alloc _⟩
  · have HY : Hid (∀ w, Calls Tryz.prog 157 #[.int .u64 h] w fun e w' => e = .returned (.tuple #[.int .i64 (spanOf h), .int .i64 (ptrsOf h), .bool true]) ∧ w' = w) := fun w => parse_yes h w h1
    have hz : (h == 0) = false := by simpa using h0
    have hs4 : spanOf h ≤ 4 := by obtain ⟨a1, a2, _⟩ := h1; unfold spanOf; omega
    obtain ⟨s, hs⟩ : ∃ s, s = spanOf h := ⟨_, rfl⟩
    obtain ⟨p, hp⟩ : ∃ p, p = ptrsOf h := ⟨_, rfl⟩
    rw [← hs, ← hp] at HY
    rw [← hs] at h2 hs4
    rw [h3]
    have hd : decide ((n : Int) < (B : Int) + s - 1) = true := by have := HB.out; simp; omega
    clear HSC HF h0 h1 h2 h3 hs hp
    go_enter Tryz.func148, Tryz.ntmps148
    go_upto_region 1 with fail
    go_region_with (first
      | (go_at_call 118; refine calls_same (HP.out _) ?_)
      | (rw [HM.out]; rotate_left 1; focus (repeat (first | exact Fr.refl _ _ | assumption | apply Fr.drew | apply Fr.alloc)))
      | (refine calls_same (HR.out _ (by repeat (first | exact Fr.refl _ _ | assumption | apply Fr.drew | apply Fr.alloc))) ?_))
    all_goals go_wp2_with (go_at_call 157; refine calls_same (HY.out _) ?_)
    all_goals exact bodyPost_ret (v := slotV (some none) b) (by simp [results, Tryz.results148, go_sem, slotV, thingV, HB.out]) rfl ⟨rfl, by first | exact ((Fr.refl _ _).alloc _).drew | exact (Fr.refl _ _).alloc _⟩
  · have HY : Hid (∀ w, Calls Tryz.prog 157 #[.int .u64 h] w fun e w' => e = .returned (.tuple #[.int .i64 0, .int .i64 0, .bool false]) ∧ w' = w) := fun w => parse_no h w h1
    have hz : (h == 0) = false := by simpa using h0
    rw [h3]
    clear HSC HF h0 h1 h3
    go_enter Tryz.func148, Tryz.ntmps148
    go_upto_region 1 with fail
    go_region_with (first
      | (go_at_call 118; refine calls_same (HP.out _) ?_)
      | (rw [HM.out]; rotate_left 1; focus (repeat (first | exact Fr.refl _ _ | assumption | apply Fr.drew | apply Fr.alloc)))
      | (refine calls_same (HR.out _ (by repeat (first | exact Fr.refl _ _ | assumption | apply Fr.drew | apply Fr.alloc))) ?_))
    all_goals go_wp2_with (go_at_call 157; refine calls_same (HY.out _) ?_)
    all_goals exact bodyPost_ret (v := slotV (some none) b) (by simp [results, Tryz.results148, go_sem, slotV, thingV, HB.out]) rfl ⟨rfl, by first | exact ((Fr.refl _ _).alloc _).drew | exact (Fr.refl _ _).alloc _⟩
end Go.Proofs.YtbagcjlimdilpaaGreat
/- Walks of the program's search for an object: Compare, BinarySearchFunc, Held, Dangling. -/
namespace Go.Proofs.YtbagcjlimdilpaaGreat
open Go.RowKit

/-- a list of objects, as the program keeps it -/
def LiesT (w : World) (v : Value) (l : List Ob) : Prop := ∃ a cap, v = .slice a l.length cap ∧ l.length ≤ 1048576 ∧ (∀ o ∈ l, o.block ≤ 1048576 ∧ o.span ≤ 4 ∧ o.ptrs < 32) ∧
  (0 < l.length → ∃ g, a = some ⟨g, 0, none⟩ ∧ g < w.heap.size ∧ ∀ i (hi : i < l.length), w.cell? ⟨g, i * 4, none⟩ = some (.int .i64 1) ∧ w.cell? ⟨g, i * 4 + 1, none⟩ = some (.int .i64 (((l[i]).block + 1 : Nat) : Int)) ∧ w.cell? ⟨g, i * 4 + 2, none⟩ = some (.int .i64 (l[i]).span) ∧ w.cell? ⟨g, i * 4 + 3, none⟩ = some (.int .i64 (l[i]).ptrs))
theorem LiesT.fr {T : Nat → Prop} {w w' : World} {v : Value} {l : List Ob} (h : LiesT w v l) (hf : Fr T w w') (hn : ∀ g, v.ownBlock = some g → ¬ T g) : LiesT w' v l := by
  obtain ⟨a, c, rfl, hl, hb, hc⟩ := h
  refine ⟨a, c, rfl, hl, hb, fun hp => ?_⟩
  obtain ⟨g, rfl, hg, hcc⟩ := hc hp
  refine ⟨g, rfl, Nat.lt_of_lt_of_le hg hf.size, fun i hi => ?_⟩
  obtain ⟨h1, h2, h3, h4⟩ := hcc i hi
  exact ⟨hf.cell h1 (hn g rfl), hf.cell h2 (hn g rfl), hf.cell h3 (hn g rfl), hf.cell h4 (hn g rfl)⟩

/-- in the order of their handles -/
def Asc (l : List Ob) : Prop := ∀ i j (hi : i < l.length) (hj : j < l.length), i < j → (l[i]).block < (l[j]).block
theorem walkF_ge {ws : List Int} {n f b : Nat} : ∀ o ∈ (walkF ws n f b).1, b ≤ o.block := by
  induction f generalizing b with
  | zero => intro o ho; simp [walkF] at ho
  | succ f ih =>
    intro o ho
    rw [walkF] at ho
    split at ho
    · split at ho
      · rename_i o' hs
        obtain ⟨e1, e2, _⟩ := slot_obs hs
        rcases List.mem_cons.1 ho with rfl | ho
        · omega
        · have := ih o ho; omega
      · have := ih o ho; omega
      · have := ih o ho; omega
    · simp at ho
theorem asc_cons {o : Ob} {l : List Ob} (h : ∀ x ∈ l, o.block < x.block) (hl : Asc l) : Asc (o :: l) := by
  intro i j hi hj hij
  cases j with
  | zero => omega
  | succ j =>
    cases i with
    | zero => simpa using h _ (List.getElem_mem (by simpa using hj))
    | succ i => simpa using hl i j (by simpa using hi) (by simpa using hj) (by omega)
theorem walkF_asc {ws : List Int} {n f b : Nat} : Asc (walkF ws n f b).1 := by
  induction f generalizing b with
  | zero => intro i j hi; simp [walkF] at hi
  | succ f ih =>
    rw [walkF]
    split
    · split
      · rename_i o hs
        obtain ⟨e1, e2, _⟩ := slot_obs hs
        refine asc_cons (fun x hx => ?_) ih
        have := walkF_ge x hx
        omega
      · exact ih
      · exact ih
    · intro i j hi; simp at hi
theorem objs_asc (ws : List Int) : Asc (objs ws) := walkF_asc

/-- what Compare says -/
def cmpI (x y : Int) : Int := if x < y then -1 else if y < x then 1 else 0
theorem nan_any (x : Int) (w : World) : Calls Tryz.prog 146 #[.int .u64 x] w fun e w' => e = .returned (.bool false) ∧ w' = w := by
  go_enter Tryz.func146, Tryz.ntmps146
  go_wp2
  go_ret
  exact ⟨by simp, rfl⟩
theorem compare_any (x y : Int) (w : World) : Calls Tryz.prog 107 #[.int .u64 x, .int .u64 y] w fun e w' => e = .returned (.int .i64 (cmpI x y)) ∧ w' = w := by
  by_cases h1 : x < y
  · have e : cmpI x y = -1 := by unfold cmpI; rw [if_pos h1]
    rw [e]
    clear e
    go_enter Tryz.func107, Tryz.ntmps107
    go_wp2_with (go_at_call 146; refine calls_same (nan_any _ _) ?_)
    go_ret
    exact ⟨rfl, rfl⟩
  · by_cases h2 : y < x
    · have e : cmpI x y = 1 := by unfold cmpI; rw [if_neg h1, if_pos h2]
      rw [e]
      clear e
      go_enter Tryz.func107, Tryz.ntmps107
      go_wp2_with (go_at_call 146; refine calls_same (nan_any _ _) ?_)
      go_ret
      exact ⟨rfl, rfl⟩
    · have e : cmpI x y = 0 := by unfold cmpI; rw [if_neg h1, if_neg h2]
      rw [e]
      clear e
      go_enter Tryz.func107, Tryz.ntmps107
      go_wp2_with (go_at_call 146; refine calls_same (nan_any _ _) ?_)
      go_ret
      exact ⟨rfl, rfl⟩
theorem held1_any (k s p : Int) (B : Nat) (h : Int) (w : World) (hB : B ≤ 1048577) :
    Calls Tryz.prog 106 #[.agg #[.int .i64 k, .int .i64 B, .int .i64 s, .int .i64 p], .int .u64 h] w fun e w' => e = .returned (.int .i64 (cmpI B h)) ∧ Fr New w w' := by
  have hw1 : IntKind.u64.wrap (B : Int) = B := by rw [IntKind.wrap_u64]; omega
  go_enter Tryz.func106, Tryz.ntmps106
  go_wp2_with (go_at_call 107; refine calls_same (compare_any _ _ _) ?_)
  go_ret
  exact ⟨rfl, (Fr.refl _ _).alloc _⟩
theorem cmpI_neg {x y : Int} : cmpI x y < 0 ↔ x < y := by
  unfold cmpI; split
  · simp; assumption
  · split <;> (simp; omega)
theorem cmpI_zero {x y : Int} : cmpI x y = 0 ↔ x = y := by
  unfold cmpI; split
  · simp; omega
  · split
    · simp; omega
    · simp; omega

/-- the handle of the i-th -/
def hnd (l : List Ob) (i : Nat) : Nat := (l.getD i ⟨0, 0, 0⟩).block + 1
theorem hnd_eq {l : List Ob} {i : Nat} (hi : i < l.length) : hnd l i = (l[i]).block + 1 := by unfold hnd; simp [List.getD, hi]
theorem idx_at {l : List Ob} {h : Int} {k : Nat} (ha : Asc l) (hk : k < l.length) (he : (hnd l k : Int) = h) : idx l h = some k := by
  rw [hnd_eq hk] at he
  refine idx_first hk he (fun i hi => ?_)
  have := ha i k (by omega) hk hi
  omega
theorem idx_not {l : List Ob} {h : Int} (hn : ∀ i, i < l.length → (hnd l i : Int) ≠ h) : idx l h = none := by
  refine idx_no (fun i hi => ?_)
  have := hn i hi
  rwa [hnd_eq hi] at this

/-- what the search tells -/
def SearchIs (l : List Ob) (h : Int) (v : Value) : Prop := (∃ k : Nat, idx l h = some k ∧ v = .tuple #[.int .i64 k, .bool true]) ∨ (idx l h = none ∧ ∃ k : Nat, v = .tuple #[.int .i64 k, .bool false])

set_option maxHeartbeats 2000000 in
set_option maxRecDepth 100000 in
theorem bsearch_any (v : Value) (l : List Ob) (h : Int) (w : World) (hv : LiesT w v l) (ha : Asc l) :
    Calls Tryz.prog 105 #[v, .int .u64 h, .func (.func 106) #[] #[]] w fun e w' => ∃ r, e = .returned r ∧ SearchIs l h r ∧ Fr New w w' := by
  obtain ⟨a, cap, rfl, hl, hb, hc⟩ := hv
  have HA : Hid (Asc l) := ha
  have HC : Hid (0 < l.length → ∃ g, a = some ⟨g, 0, none⟩ ∧ ∀ wr, Fr New w wr → ∀ i (hi : i < l.length), ∃ s p : Int, wr.cell? ⟨g, i * 4, none⟩ = some (.int .i64 1) ∧ wr.cell? ⟨g, i * 4 + 1, none⟩ = some (.int .i64 (hnd l i)) ∧ wr.cell? ⟨g, i * 4 + 2, none⟩ = some (.int .i64 s) ∧ wr.cell? ⟨g, i * 4 + 3, none⟩ = some (.int .i64 p)) := by
    intro hp
    obtain ⟨g, e, _, hcc⟩ := hc hp
    refine ⟨g, e, fun wr hf i hi => ⟨_, _, hf.cell (hcc i hi).1 id, ?_, hf.cell (hcc i hi).2.2.1 id, hf.cell (hcc i hi).2.2.2 id⟩⟩
    rw [hnd_eq hi]
    exact hf.cell (hcc i hi).2.1 id
  have HH : Hid (∀ i, i < l.length → hnd l i ≤ 1048577) := fun i hi => by
    rw [hnd_eq hi]
    have := (hb l[i] (List.getElem_mem _)).1
    omega
  have HM : Hid (∀ i j, i < j → j < l.length → hnd l i < hnd l j) := fun i j hij hj => by
    rw [hnd_eq (show i < l.length by omega), hnd_eq hj]
    have := ha i j (by omega) hj hij
    omega
  clear hc hb ha
  go_enter Tryz.func105, Tryz.ntmps105
  go_wp2
  go_loopg [9, 10] l.length (fun gh s9 s10 wr => ∃ lo hi : Nat, s9 = .int .i64 lo ∧ s10 = .int .i64 hi ∧ lo ≤ hi ∧ hi ≤ l.length ∧ gh = hi - lo ∧ Fr New w wr ∧ Hid ((∀ i, i < lo → (hnd l i : Int) < h) ∧ (∀ i, hi ≤ i → i < l.length → h ≤ (hnd l i : Int))))
  case atStart => exact ⟨0, l.length, rfl, rfl, Nat.zero_le _, Nat.le_refl _, by omega, Fr.refl _ _, (⟨fun i hi => by omega, fun i h1 h2 => by omega⟩ : (∀ i, i < 0 → (hnd l i : Int) < h) ∧ (∀ i, l.length ≤ i → i < l.length → h ≤ (hnd l i : Int)))⟩
  case round =>
    obtain ⟨lo, hi, rfl, rfl, hlh, hin, rfl, hf, HI⟩ := hrel
    by_cases hlt : lo < hi
    · obtain ⟨g, rfl, hcells⟩ := HC.out (by omega)
      obtain ⟨m, hm⟩ : ∃ m : Nat, m = (lo + hi) / 2 := ⟨_, rfl⟩
      have hm1 : m < l.length := by omega
      have hmI : ((lo : Int) + hi) / 2 = m := by omega
      have hlm : lo ≤ m := by omega
      have hmh : m < hi := by omega
      have HMM : Hid (m = (lo + hi) / 2) := hm
      clear hm
      obtain ⟨s, p, c0, c1, c2, c3⟩ := hcells wr hf m hm1
      have hB := HH.out m hm1
      obtain ⟨B, hBB⟩ : ∃ B, B = hnd l m := ⟨_, rfl⟩
      rw [← hBB] at c1 hB
      have HBB : Hid (B = hnd l m) := hBB
      clear hBB hcells
      have HK : Hid (Calls Tryz.prog 106 #[.agg #[.int .i64 1, .int .i64 B, .int .i64 s, .int .i64 p], .int .u64 h] wr fun e w' => e = .returned (.int .i64 (cmpI B h)) ∧ Fr New wr w') := held1_any 1 s p B h wr hB
      by_cases hBh : (B : Int) < h
      · have hcn := cmpI_neg.2 hBh
        obtain ⟨q, hq⟩ : ∃ q, q = cmpI B h := ⟨_, rfl⟩
        rw [← hq] at HK hcn
        clear hq
        go_wp2_with (go_at_call 106; refine HK.out.mono ?_; rintro e w' ⟨rfl, hf'⟩)
        go_roundg (hi - (m + 1))
        case measure => omega
        case rel =>
          exact ⟨m + 1, hi, by go_num, rfl, by omega, hin, rfl, hf.same hf', (⟨fun i hi' => by
            rcases Nat.lt_or_ge i m with h' | h'
            · have := HM.out i m h' hm1; rw [← HBB.out] at this; omega
            · obtain rfl : i = m := by omega
              rw [← HBB.out]; exact hBh, HI.out.2⟩ : (∀ i, i < m + 1 → (hnd l i : Int) < h) ∧ (∀ i, hi ≤ i → i < l.length → h ≤ (hnd l i : Int)))⟩
      · have hcn : ¬ cmpI B h < 0 := fun hh => hBh (cmpI_neg.1 hh)
        obtain ⟨q, hq⟩ : ∃ q, q = cmpI B h := ⟨_, rfl⟩
        rw [← hq] at HK hcn
        clear hq
        go_wp2_with (go_at_call 106; refine HK.out.mono ?_; rintro e w' ⟨rfl, hf'⟩)
        go_roundg (m - lo)
        case measure => omega
        case rel =>
          exact ⟨lo, m, rfl, rfl, by omega, by omega, rfl, hf.same hf', (⟨HI.out.1, fun i h1 h2 => by
            rcases Nat.lt_or_ge m i with h' | h'
            · have := HM.out m i h' h2; rw [← HBB.out] at this; omega
            · obtain rfl : i = m := by omega
              rw [← HBB.out]; omega⟩ : (∀ i, i < lo → (hnd l i : Int) < h) ∧ (∀ i, m ≤ i → i < l.length → h ≤ (hnd l i : Int)))⟩
    · obtain rfl : lo = hi := by omega
      by_cases hlast : lo < l.length
      · have hd : decide ((lo : Int) < (l.length : Int)) = true := by simp; omega
        obtain ⟨g, rfl, hcells⟩ := HC.out (by omega)
        obtain ⟨s, p, c0, c1, c2, c3⟩ := hcells wr hf lo hlast
        have hB := HH.out lo hlast
        obtain ⟨B, hBB⟩ : ∃ B, B = hnd l lo := ⟨_, rfl⟩
        rw [← hBB] at c1 hB
        have HBB : Hid (B = hnd l lo) := hBB
        clear hBB hcells
        have HK : Hid (Calls Tryz.prog 106 #[.agg #[.int .i64 1, .int .i64 B, .int .i64 s, .int .i64 p], .int .u64 h] wr fun e w' => e = .returned (.int .i64 (cmpI B h)) ∧ Fr New wr w') := held1_any 1 s p B h wr hB
        by_cases hBh : (B : Int) = h
        · have HT : Hid (SearchIs l h (.tuple #[.int .i64 lo, .bool true])) := .inl ⟨lo, idx_at HA.out hlast (by rw [← HBB.out]; exact hBh), rfl⟩
          have hcn := cmpI_zero.2 hBh
          rw [hcn] at HK
          clear hcn hBh
          go_wp2_with (go_at_call 106; refine HK.out.mono ?_; rintro e w' ⟨rfl, hf'⟩)
          go_ret2
          exact ⟨_, rfl, HT.out, hf.same hf'⟩
        · have HT : Hid (SearchIs l h (.tuple #[.int .i64 lo, .bool false])) := .inr ⟨idx_not (fun i hi he => by
            rcases Nat.lt_or_ge i lo with h' | h'
            · have := HI.out.1 i h'; omega
            · rcases Nat.lt_or_ge lo i with h'' | h''
              · have h1 := HM.out lo i h'' hi
                have h2 := HI.out.2 lo (Nat.le_refl _) hlast
                omega
              · obtain rfl : i = lo := by omega
                rw [← HBB.out] at he; exact hBh he), lo, rfl⟩
          have hcn : (cmpI B h == 0) = false := by simpa using fun hh => hBh (cmpI_zero.1 hh)
          obtain ⟨q, hq⟩ : ∃ q, q = cmpI B h := ⟨_, rfl⟩
          rw [← hq] at HK hcn
          clear hq hBh
          go_wp2_with (go_at_call 106; refine HK.out.mono ?_; rintro e w' ⟨rfl, hf'⟩)
          go_ret2
          exact ⟨_, rfl, HT.out, hf.same hf'⟩
      · have hd : decide ((lo : Int) < (l.length : Int)) = false := by simp; omega
        have HT : Hid (SearchIs l h (.tuple #[.int .i64 lo, .bool false])) := .inr ⟨idx_not (fun i hi he => by
            have := HI.out.1 i (by omega); omega), lo, rfl⟩
        go_wp2
        go_ret2
        exact ⟨_, rfl, HT.out, hf⟩

/-- what Held tells -/
def HeldIs (l : List Ob) (h : Int) (v : Value) : Prop := (∃ k, ∃ hk : k < l.length, idx l h = some k ∧ v = .tuple #[.agg #[.int .i64 1, .int .i64 (((l[k]).block + 1 : Nat) : Int), .int .i64 (l[k]).span, .int .i64 (l[k]).ptrs], .bool true]) ∨
  (idx l h = none ∧ v = .tuple #[.agg #[.int .i64 0, .int .i64 0, .int .i64 0, .int .i64 0], .bool false])
set_option maxRecDepth 100000 in
theorem held_any (v : Value) (l : List Ob) (h : Int) (w : World) (hv : LiesT w v l) (ha : Asc l) :
    Calls Tryz.prog 56 #[v, .int .u64 h] w fun e w' => ∃ r, e = .returned r ∧ HeldIs l h r ∧ Fr New w w' := by
  have HS : Hid (∀ o, Calls Tryz.prog 105 #[v, .int .u64 h, .func (.func 106) #[] #[]] (w.alloc o) fun e w' => ∃ r, e = .returned r ∧ SearchIs l h r ∧ Fr New (w.alloc o) w') := fun o => bsearch_any v l h _ (hv.fr ((Fr.refl New w).alloc o) (fun _ _ h => h)) ha
  have HV : Hid (∀ wr, Fr New w wr → LiesT wr v l) := fun wr hf => hv.fr hf (fun _ _ h => h)
  obtain ⟨a, cap, rfl, hl, hb, hc⟩ := hv
  clear hc hb ha
  have hmf : ∀ (fn : Fn) (first cap : Array Value) (w : World), (Instr.makeFunc fn first cap).run Tryz.prog w = .ok (.func fn first cap) w := fun _ _ _ _ => rfl
  rcases hx : idx l h with _ | k
  · go_enter Tryz.func56, Tryz.ntmps56
    go_wp2_with (go_at_call 105; refine (HS.out _).mono ?_; rintro e w1 ⟨r, rfl, hs, hf1⟩; obtain ⟨hcr, hzr⟩ := block_cells (hf1.heap (k := w.heap.size) (Go.Deep.blk_alloc_new w _) id); obtain ⟨k, rfl⟩ : ∃ k : Nat, r = .tuple #[.int .i64 k, .bool false] := (by rcases hs with ⟨k, hk, _⟩ | ⟨_, hk⟩; (rw [hx] at hk; cases hk); exact hk))
    refine bodyPost_ret (v := .tuple #[.agg #[.int .i64 0, .int .i64 0, .int .i64 0, .int .i64 0], .bool false]) (by simp [results, Tryz.results56, go_sem, hcr]) rfl ⟨_, rfl, .inr ⟨hx, rfl⟩, ?_⟩
    have hf : Fr New w w1 := ((Fr.refl _ _).alloc _).same hf1
    iterate 4 refine Fr.setCell ?_ (fun h => absurd h (by simp)) _
    exact hf
  · have hk := idx_lt hx
    go_enter Tryz.func56, Tryz.ntmps56
    go_wp2_with (go_at_call 105; refine (HS.out _).mono ?_; rintro e w1 ⟨r, rfl, hs, hf1⟩; obtain ⟨hcr, hzr⟩ := block_cells (hf1.heap (k := w.heap.size) (Go.Deep.blk_alloc_new w _) id); obtain rfl : r = .tuple #[.int .i64 k, .bool true] := (by rcases hs with ⟨k', hk', e⟩ | ⟨hk', _⟩; (rw [hx] at hk'; cases hk'; exact e); (rw [hx] at hk'; cases hk')); obtain ⟨a', cap', e', _, _, hcl⟩ := HV.out w1 (((Fr.refl _ _).alloc _).same hf1); cases e'; obtain ⟨g, rfl, hg, hcc⟩ := hcl (by omega); obtain ⟨c0, c1, c2, c3⟩ := hcc k hk; have hd : decide ((k : Int) < (l.length : Int)) = true := (by simp; omega))
    refine bodyPost_ret (v := .tuple #[.agg #[.int .i64 1, .int .i64 (((l[k]).block + 1 : Nat) : Int), .int .i64 (l[k]).span, .int .i64 (l[k]).ptrs], .bool true]) (by simp [results, Tryz.results56, go_sem, hcr]) rfl ⟨_, rfl, .inl ⟨k, hk, hx, rfl⟩, ?_⟩
    have hf : Fr New w w1 := ((Fr.refl _ _).alloc _).same hf1
    iterate 4 refine Fr.setCell ?_ (fun h => absurd h (by simp)) _
    exact hf
end Go.Proofs.YtbagcjlimdilpaaGreat
/- A search by a list of words that wait, as mathematics: what is marked at its end is what is reached. -/
namespace Go.Proofs.YtbagcjlimdilpaaGreat

/-- the i-th object is marked -/
def mkd (l : List Ob) (M : List Bool) (i : Nat) : Prop := M.getD (hnd l i) false = true
theorem hnd_inj {l : List Ob} (ha : Asc l) {i k : Nat} (hi : i < l.length) (hk : k < l.length) (h : hnd l i = hnd l k) : i = k := by
  rw [hnd_eq hi, hnd_eq hk] at h
  rcases Nat.lt_or_ge i k with h1 | h1
  · have := ha i k hi hk h1; omega
  · rcases Nat.lt_or_ge k i with h2 | h2
    · have := ha k i hk hi h2; omega
    · omega
theorem mk_set {l : List Ob} {M : List Bool} {h i : Nat} (hh : h < M.length) : mkd l (M.set h true) i ↔ hnd l i = h ∨ mkd l M i := by
  unfold mkd
  rw [List.getD_eq_getElem?_getD, List.getD_eq_getElem?_getD]
  by_cases he : hnd l i = h
  · rw [he]; simp [hh]
  · rw [List.getElem?_set_ne (by omega)]; simp [he]
/-- the marks of the objects alone -/
def marksOf (l : List Ob) (M : List Bool) : List Bool := (List.range l.length).map (fun i => M.getD (hnd l i) false)
theorem marksOf_len (l : List Ob) (M : List Bool) : (marksOf l M).length = l.length := by simp [marksOf]
theorem marksOf_get {l : List Ob} {M : List Bool} {i : Nat} (hi : i < l.length) : (marksOf l M)[i]? = some (M.getD (hnd l i) false) := by simp [marksOf, hi]
theorem marksOf_set {l : List Ob} (ha : Asc l) {M : List Bool} {k : Nat} (hk : k < l.length) (hh : hnd l k < M.length) : marksOf l (M.set (hnd l k) true) = (marksOf l M).set k true := by
  apply List.ext_getElem?
  intro i
  by_cases hi : i < l.length
  · rw [marksOf_get hi]
    by_cases he : i = k
    · subst he
      rw [List.getElem?_set_self (by rw [marksOf_len]; exact hi)]
      simp [hh]
    · rw [List.getElem?_set_ne (by omega), marksOf_get hi, List.getD_eq_getElem?_getD, List.getElem?_set_ne (fun hx => he (hnd_inj ha hk hi hx).symm), ← List.getD_eq_getElem?_getD]
  · rw [List.getElem?_eq_none (by rw [marksOf_len]; omega), List.getElem?_eq_none (by simp [marksOf_len]; omega)]
/-- so many objects are not marked -/
def unm (l : List Ob) (M : List Bool) : Nat := unmarked (marksOf l M)
theorem unm_set {l : List Ob} (ha : Asc l) {M : List Bool} {k : Nat} (hk : k < l.length) (hh : hnd l k < M.length) (hn : ¬ mkd l M k) : unm l (M.set (hnd l k) true) + 1 = unm l M := by
  unfold unm
  rw [marksOf_set ha hk hh]
  refine unmarked_set (by rw [marksOf_len]; exact hk) ?_
  have := marksOf_get (M := M) hk
  rw [List.getElem?_eq_getElem (by rw [marksOf_len]; exact hk), Option.some.injEq] at this
  rw [this]
  unfold mkd at hn
  simpa using hn
theorem unm_start (l : List Ob) (n : Nat) : unm l (List.replicate n false) ≤ l.length := by
  unfold unm unmarked
  have := List.countP_le_length (p := fun b => !b) (l := marksOf l (List.replicate n false))
  rw [marksOf_len] at this
  exact this

/-- what the search keeps: R roots have been seen; of object c q pointers alone -/
structure Dfs (ws : List Int) (l : List Ob) (W : List Int) (M : List Bool) (R c q : Nat) : Prop where
  sound : ∀ i, i < l.length → mkd l M i → Reach ws l i
  wsound : ∀ x ∈ W, ∀ k, idx l x = some k → Reach ws l k
  roots : ∀ r, r < R → ∀ k, idx l (wd ws (3 + r)) = some k → mkd l M k ∨ wd ws (3 + r) ∈ W
  ptrs : ∀ i (hi : i < l.length) p k, mkd l M i → p < (l[i]).ptrs → (i = c → p < q) → idx l (wd ws (pl l[i] p)) = some k → mkd l M k ∨ wd ws (pl l[i] p) ∈ W
  room : W.length + 40 * unm l M + (if c < l.length then 32 - q else 0) ≤ R + 40 * l.length
theorem dfs_start (ws : List Int) (l : List Ob) (n : Nat) : Dfs ws l [] (List.replicate n false) 0 l.length 0 := by
  have hno : ∀ i, ¬ mkd l (List.replicate n false) i := fun i h => by
    unfold mkd at h
    rw [List.getD_eq_getElem?_getD, List.getElem?_replicate] at h
    split at h <;> simp at h
  refine ⟨fun i _ h => absurd h (hno i), fun x hx => by simp at hx, fun r hr => by omega, fun i hi p k h => absurd h (hno i), ?_⟩
  have := unm_start l n
  rw [if_neg (by omega)]
  simp
  omega
theorem Dfs.root {ws : List Int} {l : List Ob} {W : List Int} {M : List Bool} {R q : Nat} (h : Dfs ws l W M R l.length q) (hR : R < 4) : Dfs ws l (W ++ [wd ws (3 + R)]) M (R + 1) l.length q := by
  refine ⟨h.sound, fun x hx k hk => ?_, fun r hr k hk => ?_, fun i hi p k h1 h2 h3 h4 => ?_, ?_⟩
  · rcases List.mem_append.1 hx with hx | hx
    · exact h.wsound x hx k hk
    · obtain rfl : x = wd ws (3 + R) := by simpa using hx
      exact reach_root hR hk
  · rcases Nat.lt_or_ge r R with h' | h'
    · rcases h.roots r h' k hk with h1 | h1
      · exact .inl h1
      · exact .inr (List.mem_append_left _ h1)
    · obtain rfl : r = R := by omega
      exact .inr (by simp)
  · rcases h.ptrs i hi p k h1 h2 h3 h4 with h1 | h1
    · exact .inl h1
    · exact .inr (List.mem_append_left _ h1)
  · have := h.room
    rw [if_neg (by omega)] at this ⊢
    simp
    omega
theorem Dfs.drop {ws : List Int} {l : List Ob} {W : List Int} {x : Int} {M : List Bool} {q : Nat} (h : Dfs ws l (W ++ [x]) M 4 l.length q) (hx : ∀ k, idx l x = some k → mkd l M k) : Dfs ws l W M 4 l.length q := by
  have key : ∀ y k, idx l y = some k → (mkd l M k ∨ y ∈ W ++ [x]) → mkd l M k ∨ y ∈ W := fun y k hy hm => by
    rcases hm with hm | hm
    · exact .inl hm
    · rcases List.mem_append.1 hm with hm | hm
      · exact .inr hm
      · obtain rfl : y = x := by simpa using hm
        exact .inl (hx k hy)
  refine ⟨h.sound, fun y hy => h.wsound y (List.mem_append_left _ hy), fun r hr k hk => key _ k hk (h.roots r hr k hk), fun i hi p k h1 h2 h3 h4 => key _ k h4 (h.ptrs i hi p k h1 h2 h3 h4), ?_⟩
  have := h.room
  simp at this ⊢
  omega
theorem Dfs.mark {ws : List Int} {l : List Ob} (ha : Asc l) {W : List Int} {x : Int} {M : List Bool} {q : Nat} (h : Dfs ws l (W ++ [x]) M 4 l.length q) {k : Nat} (hk : k < l.length) (hx : idx l x = some k) (hh : hnd l k < M.length) (hn : ¬ mkd l M k) :
    Dfs ws l W (M.set (hnd l k) true) 4 k 0 := by
  have hm : ∀ i, mkd l M i → mkd l (M.set (hnd l k) true) i := fun i hi => (mk_set hh).2 (.inr hi)
  have hmk : mkd l (M.set (hnd l k) true) k := (mk_set hh).2 (.inl rfl)
  have key : ∀ y j, idx l y = some j → (mkd l M j ∨ y ∈ W ++ [x]) → mkd l (M.set (hnd l k) true) j ∨ y ∈ W := fun y j hy hm' => by
    rcases hm' with hm' | hm'
    · exact .inl (hm j hm')
    · rcases List.mem_append.1 hm' with hm' | hm'
      · exact .inr hm'
      · obtain rfl : y = x := by simpa using hm'
        rw [hx] at hy
        cases hy
        exact .inl hmk
  refine ⟨fun i hi hmi => ?_, fun y hy => h.wsound y (List.mem_append_left _ hy), fun r hr j hj => key _ j hj (h.roots r hr j hj), fun i hi p j h1 h2 h3 h4 => ?_, ?_⟩
  · rcases (mk_set hh).1 hmi with he | he
    · obtain rfl := hnd_inj ha hi hk he
      exact h.wsound x (by simp) i hx
    · exact h.sound i hi he
  · rcases (mk_set hh).1 h1 with he | he
    · obtain rfl := hnd_inj ha hi hk he
      have := h3 rfl
      omega
    · exact key _ j h4 (h.ptrs i hi p j he h2 (fun he => by omega) h4)
  · have := h.room
    have hu := unm_set ha hk hh hn
    rw [if_neg (by omega)] at this
    rw [if_pos hk]
    simp at this ⊢
    omega
theorem Dfs.push {ws : List Int} {l : List Ob} {W : List Int} {M : List Bool} {k q : Nat} (h : Dfs ws l W M 4 k q) (hk : k < l.length) (hm : mkd l M k) (hq : q < (l[k]).ptrs) (hq32 : q < 32) : Dfs ws l (W ++ [wd ws (pl l[k] q)]) M 4 k (q + 1) := by
  refine ⟨h.sound, fun x hx j hj => ?_, fun r hr j hj => ?_, fun i hi p j h1 h2 h3 h4 => ?_, ?_⟩
  · rcases List.mem_append.1 hx with hx | hx
    · exact h.wsound x hx j hj
    · obtain rfl : x = wd ws (pl l[k] q) := by simpa using hx
      exact reach_step hk (h.sound k hk hm) hq hj
  · rcases h.roots r hr j hj with h1 | h1
    · exact .inl h1
    · exact .inr (List.mem_append_left _ h1)
  · by_cases he : i = k ∧ p = q
    · obtain ⟨rfl, rfl⟩ := he
      exact .inr (by simp)
    · rcases h.ptrs i hi p j h1 h2 (fun hik => by have := h3 hik; omega) h4 with h1 | h1
      · exact .inl h1
      · exact .inr (List.mem_append_left _ h1)
  · have := h.room
    rw [if_pos hk] at this ⊢
    simp
    omega
theorem Dfs.all {ws : List Int} {l : List Ob} {W : List Int} {M : List Bool} {k q : Nat} (h : Dfs ws l W M 4 k q) (hk : k < l.length) (hq : (l[k]).ptrs ≤ q) : Dfs ws l W M 4 l.length 0 := by
  refine ⟨h.sound, h.wsound, h.roots, fun i hi p j h1 h2 h3 h4 => h.ptrs i hi p j h1 h2 (fun hik => by subst hik; omega) h4, ?_⟩
  have := h.room
  rw [if_neg (by omega)]
  omega
theorem Dfs.done {ws : List Int} {l : List Ob} {M : List Bool} {q : Nat} (h : Dfs ws l [] M 4 l.length q) (hlt : ∀ r k, idx l r = some k → k < l.length) (i : Nat) (hi : i < l.length) : mkd l M i ↔ Reach ws l i :=
  ⟨h.sound i hi, fun hr => (hr (fun i => i < l.length ∧ mkd l M i) ⟨fun r hr k hk => ⟨hlt _ k hk, (h.roots r hr k hk).resolve_right (by simp)⟩, fun i hi' p k ho hp hk => ⟨hlt _ k hk, (h.ptrs i hi' p k ho.2 hp (fun he => by omega) hk).resolve_right (by simp)⟩⟩).2⟩
end Go.Proofs.YtbagcjlimdilpaaGreat
