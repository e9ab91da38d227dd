/- Texts that follow one another, joined. -/
import Derived.Test.YtbagcjlimdilpaaGreatHhJ3
import Derived.Maps.Own
import Derived.Maps.OwnOps
import Derived.Maps.OwnSet
import Derived.Lib.SlKeysI
import Derived.Test.YtbagcjlimdilpaaGreatHhJ4
/- The program's rows behind the interface: words that are told, and changes over them. -/
namespace Go.Proofs.YtbagcjlimdilpaaGreat
open Go.RowKit Go.Maps

theorem meth_tread (tb : Nat) (w : World) (v : Value) (hc : w.cell? ⟨tb, 0, none⟩ = some v) : (method 356 97 (.pointer (some ⟨tb, 0, none⟩)) "Read").run Tryz.prog w = .ok (197, v) w := by
  have h : (method 356 97 (.pointer (some ⟨tb, 0, none⟩)) "Read").run Tryz.prog w = ((load ⟨tb, 0, none⟩) >>= fun v => (pure (197, v) : Sem (FuncId × Value))).run Tryz.prog w := by kernel_rfl
  rw [h]
  simp [go_sem, hc]
theorem meth_tlen (tb : Nat) (w : World) (v : Value) (hc : w.cell? ⟨tb, 0, none⟩ = some v) : (method 356 97 (.pointer (some ⟨tb, 0, none⟩)) "Len").run Tryz.prog w = .ok (196, v) w := by
  have h : (method 356 97 (.pointer (some ⟨tb, 0, none⟩)) "Len").run Tryz.prog w = ((load ⟨tb, 0, none⟩) >>= fun v => (pure (196, v) : Sem (FuncId × Value))).run Tryz.prog w := by kernel_rfl
  rw [h]
  simp [go_sem, hc]
theorem ahead_tread (a : Addr) (w : World) : (nilAhead 356 97 (.pointer (some a)) "Read").run Tryz.prog w = .ok (some false) w := by kernel_rfl
theorem meth_tput (a : Addr) (w : World) : (method 356 97 (.pointer (some a)) "Put").run Tryz.prog w = .ok (139, .pointer (some a)) w := by kernel_rfl
theorem meth_clen (a : Addr) (w : World) : (method 356 101 (.pointer (some a)) "Len").run Tryz.prog w = .ok (198, .pointer (some a)) w := by kernel_rfl
theorem meth_cread (a : Addr) (w : World) : (method 356 101 (.pointer (some a)) "Read").run Tryz.prog w = .ok (70, .pointer (some a)) w := by kernel_rfl
theorem meth_cput (a : Addr) (w : World) : (method 356 101 (.pointer (some a)) "Put").run Tryz.prog w = .ok (59, .pointer (some a)) w := by kernel_rfl
theorem ahead_cread (a : Addr) (w : World) : (nilAhead 356 101 (.pointer (some a)) "Read").run Tryz.prog w = .ok (some false) w := by kernel_rfl
theorem ahead_cput (a : Addr) (w : World) : (nilAhead 356 101 (.pointer (some a)) "Put").run Tryz.prog w = .ok (some false) w := by kernel_rfl
theorem call_clen (a : Array Value) (w : World) : (callFunc 198 a).run Tryz.prog w = .ok (.enter 198 a) w := by kernel_rfl
theorem call_cread (a : Array Value) (w : World) : (callFunc 70 a).run Tryz.prog w = .ok (.enter 70 a) w := by kernel_rfl

/-- a row that is told: its struct, its words -/
structure ToldIs (w : World) (tb g : Nat) (ws : List Int) (vs : Value) : Prop where
  td : w.heap[tb]? = some (.cells #[.slice (some ⟨g, 0, none⟩) ws.length ws.length, vs] 108 (0, 0))
  wb : w.heap[g]? = some (.cells ((ws.map (Value.int .u64)).toArray) 50 (0, 0))
  len : ws.length ≤ 1048576
namespace ToldIs
variable {w : World} {tb g : Nat} {ws : List Int} {vs : Value}
theorem head (h : ToldIs w tb g ws vs) : w.cell? ⟨tb, 0, none⟩ = some (.slice (some ⟨g, 0, none⟩) ws.length ws.length) := ((block_cells h.td).1 0).trans rfl
theorem stores (h : ToldIs w tb g ws vs) : w.cell? ⟨tb, 1, none⟩ = some vs := ((block_cells h.td).1 1).trans rfl
theorem cells (h : ToldIs w tb g ws vs) (i : Nat) (hi : i < ws.length) : w.cell? ⟨g, 0 + i, none⟩ = some (.int .u64 (wd ws i)) := by
  rw [Nat.zero_add, (block_cells h.wb).1]
  simp [wd, hi]
theorem fr {T : Nat → Prop} {w' : World} (h : ToldIs w tb g ws vs) (hf : Fr T w w') (h1 : ¬ T tb) (h2 : ¬ T g) : ToldIs w' tb g ws vs := ⟨hf.heap h.td h1, hf.heap h.wb h2, h.len⟩
theorem row (h : ToldIs w tb g ws vs) : RowAt w 97 (.pointer (some ⟨tb, 0, none⟩)) 196 197 (.slice (some ⟨g, 0, none⟩) ws.length ws.length) ws :=
  ⟨fun w' hf => meth_tlen _ w' _ (hf.cell h.head id), fun w' hf => meth_tread _ w' _ (hf.cell h.head id), fun w' => ahead_tread _ w', call_klen, call_kread, fun w' _ => klen_any _ _ _ w',
    fun w' hf i hi => kread_any g 0 _ _ i _ w' hi (hf.cell (h.cells i hi) id)⟩
end ToldIs

theorem key_int : Keyed Tryz.prog 3 := int_keyed Tryz.underlying3
theorem zero_u64 (w : World) : (zeroValue 50).run Tryz.prog w = .ok (.int .u64 0) w := by kernel_rfl
theorem hkey_i (q : Nat) (hq : q ≤ 1048576) : keyOf Tryz.prog 3 (.int .i64 (q : Int)) = some (.int .i64 (q : Int)) := keyOf_int_mk Tryz.underlying3 (WalkArith.wf_i64 (by omega))
theorem lit_ne {a b : Int} (h : a ≠ b) : (Lit.int .i64 a) ≠ (Lit.int .i64 b) := by intro e; cases e; exact h rfl
/-- what a map of changes says: where now is another word than ws, and which -/
structure DiffIs (D : DataW Unit) (ws now : List Int) : Prop where
  key : ∀ p : Int, Maps.has D (.int .i64 p) = true ↔ ∃ q : Nat, q < ws.length ∧ p = (q : Int) ∧ wd now q ≠ wd ws q
  val : ∀ q : Nat, Maps.has D (.int .i64 (q : Int)) = true → D.atKey (.int .i64 (q : Int)) (.lit (.int .u64 0)) = .lit (.int .u64 (wd now q))
theorem diff_none (ws : List Int) : DiffIs (.map []) ws ws := ⟨fun p => by simp [Maps.has], fun q h => by simp [Maps.has] at h⟩
theorem diff_put {D : DataW Unit} {ws now : List Int} (h : DiffIs D ws now) (hD : IsMap D) (hl : now.length = ws.length) {q : Nat} (hq : q < ws.length) {v : Int} (hv : v ≠ wd ws q) : DiffIs (D.put (.int .i64 (q : Int)) (.lit (.int .u64 v))) ws (now.set q v) := by
  refine ⟨fun p => ?_, fun p hp => ?_⟩
  · by_cases he : p = (q : Int)
    · subst he
      rw [has_put_same (k := .int .i64 (q : Int)) hD trivial]
      simp only [true_iff]
      exact ⟨q, hq, rfl, by rw [wd_set (by omega), if_pos rfl]; exact hv⟩
    · rw [has_put_other (lit_ne he), h.key]
      refine exists_congr fun r => and_congr_right fun hr => and_congr_right fun hpr => ?_
      rw [wd_set (by omega), if_neg (by intro e; subst e; exact he hpr)]
  · by_cases he : p = q
    · subst he
      rw [atKey_put_same (k := .int .i64 (p : Int)) hD trivial, wd_set (by omega), if_pos rfl]
    · have hne : ((p : Int)) ≠ (q : Int) := by omega
      rw [has_put_other (lit_ne hne)] at hp
      rw [atKey_put_other (lit_ne hne), h.val p hp, wd_set (by omega), if_neg he]
theorem diff_del {D : DataW Unit} {ws now : List Int} (h : DiffIs D ws now) (hl : now.length = ws.length) {q : Nat} (hq : q < ws.length) : DiffIs (D.del (.int .i64 (q : Int))) ws (now.set q (wd ws q)) := by
  refine ⟨fun p => ?_, fun p hp => ?_⟩
  · by_cases he : p = (q : Int)
    · subst he
      rw [has_del_same]
      refine ⟨(fun h => by cases h), ?_⟩
      rintro ⟨r, hr, hqr, hne⟩
      obtain rfl : q = r := by omega
      rw [wd_set (by omega), if_pos rfl] at hne
      exact absurd rfl hne
    · rw [has_del_other (lit_ne he), h.key]
      refine exists_congr fun r => and_congr_right fun hr => and_congr_right fun hpr => ?_
      rw [wd_set (by omega), if_neg (by intro e; subst e; exact he hpr)]
  · by_cases he : p = q
    · subst he
      rw [has_del_same] at hp
      cases hp
    · have hne : ((p : Int)) ≠ (q : Int) := by omega
      rw [has_del_other (lit_ne hne)] at hp
      rw [atKey_del_other (lit_ne hne), h.val p hp, wd_set (by omega), if_neg he]
/-- the places at which now is another word than ws, in order -/
def difP (ws now : List Int) : List Nat := (List.range ws.length).filter (fun q => wd now q != wd ws q)
theorem mem_difP {ws now : List Int} {q : Nat} : q ∈ difP ws now ↔ q < ws.length ∧ wd now q ≠ wd ws q := by simp [difP]
theorem difP_nodup (ws now : List Int) : (difP ws now).Nodup := List.Pairwise.filter _ List.nodup_range
theorem difP_len (ws now : List Int) : (difP ws now).length ≤ ws.length := by
  have := List.length_filter_le (fun q => wd now q != wd ws q) (List.range ws.length)
  simpa [difP] using this
/-- the entries of a map of ints are such -/
theorem owns_kinds {w : World} {mb n : Nat} {D : DataW Unit} (h : w.ownsMap Tryz.prog 3 (plainElem Tryz.prog 50) mb n D) : ∃ es : List (Lit × DataW Unit), D = .map es ∧ es.Pairwise (fun p q => p.1 ≠ q.1) ∧ ∀ p ∈ es, ∃ x, p.1 = .int .i64 x := by
  obtain ⟨es, hD, hp⟩ := h.tidy key_int
  refine ⟨es, hD, hp, fun p hp' => ?_⟩
  obtain ⟨es0, clock, hb, F, hs, hD0⟩ := h
  rw [hD] at hD0
  cases hD0
  have : p ∈ es0.toList.map (WideElems.rg Tryz.prog 3 (plainElem Tryz.prog 50)) := by
    have hperm : ∀ l : List (Lit × DataW Unit), ∀ z, z ∈ l.foldr DataW.insert [] → z ∈ l := fun l => by
      induction l with
      | nil => intro z hz; exact hz
      | cons a l ih =>
        intro z hz
        have hin : ∀ (m : List (Lit × DataW Unit)), z ∈ DataW.insert a m → z = a ∨ z ∈ m := fun m => by
          induction m with
          | nil => intro hz; simpa [DataW.insert] using hz
          | cons b m ihm =>
            intro hz
            simp only [DataW.insert] at hz
            split at hz
            · simpa using hz
            · rcases List.mem_cons.1 hz with rfl | hz
              · exact .inr (by simp)
              · rcases ihm hz with e | e
                · exact .inl e
                · exact .inr (by simp [e])
        rcases hin _ hz with rfl | hz
        · simp
        · exact List.mem_cons_of_mem _ (ih z hz)
    exact hperm _ _ hp'
  obtain ⟨v, hv⟩ := fit_keys F p this
  obtain ⟨x, _, e, _⟩ := Maps.keyOf_i64 Tryz.underlying3 hv
  exact ⟨x, e⟩
theorem keys_perm' {w : World} {mb n : Nat} {D : DataW Unit} {ws now : List Int} (h : w.ownsMap Tryz.prog 3 (plainElem Tryz.prog 50) mb n D) (hd : DiffIs D ws now) : ((difP ws now).map (fun q : Nat => (q : Int))).Perm (intKeys D) := by
  obtain ⟨es, rfl, hp, hk⟩ := owns_kinds h
  refine perm_intKeys hp hk ?_ ?_
  · exact List.Pairwise.map _ (fun a b hne e => hne (by exact Int.ofNat.inj e)) (difP_nodup ws now)
  · intro x
    rw [hd.key]
    simp only [List.mem_map, mem_difP]
    constructor
    · rintro ⟨q, ⟨h1, h2⟩, rfl⟩; exact ⟨q, h1, rfl, h2⟩
    · rintro ⟨q, h1, rfl, h2⟩; exact ⟨q, ⟨h1, h2⟩, rfl⟩
theorem size_keys (D : DataW Unit) : Maps.size D = (intKeys D).length := by
  cases D <;> simp [Maps.size, intKeys]
theorem diff_size {w : World} {mb n : Nat} {D : DataW Unit} {ws now : List Int} (h : w.ownsMap Tryz.prog 3 (plainElem Tryz.prog 50) mb n D) (hd : DiffIs D ws now) : Maps.size D = (difP ws now).length := by
  rw [size_keys, ← (keys_perm' h hd).length_eq, List.length_map]
theorem owns_tight {w : World} {mb n : Nat} {D : DataW Unit} (h : w.ownsMap Tryz.prog 3 (plainElem Tryz.prog 50) mb n D) : w.ownsMap Tryz.prog 3 (plainElem Tryz.prog 50) mb (Maps.size D) D := by
  obtain ⟨es, clock, hb, F, hs, hD⟩ := h
  refine ⟨es, clock, hb, F, ?_, hD⟩
  rw [hD, size_eq, length_sorted]
  simp
end Go.Proofs.YtbagcjlimdilpaaGreat
/- Walks of the program's Changed: Len, Read, Put, Drop. -/
namespace Go.Proofs.YtbagcjlimdilpaaGreat
open Go.RowKit Go.Maps

/-- changes over a row that is told -/
structure ChgIs (w : World) (cb tb mb : Nat) (ws now : List Int) : Prop where
  cg : w.heap[cb]? = some (.cells #[.iface 97 (.pointer (some ⟨tb, 0, none⟩)), .map (some mb)] 168 (0, 0))
  mp : ∃ D : DataW Unit, w.ownsMap Tryz.prog 3 (plainElem Tryz.prog 50) mb (Maps.size D) D ∧ DiffIs D ws now
  len : now.length = ws.length
  un : ∀ z ∈ now, U z
namespace ChgIs
variable {w : World} {cb tb mb : Nat} {ws now : List Int}
theorem below (h : ChgIs w cb tb mb ws now) : w.cell? ⟨cb, 0, none⟩ = some (.iface 97 (.pointer (some ⟨tb, 0, none⟩))) := ((block_cells h.cg).1 0).trans rfl
theorem map (h : ChgIs w cb tb mb ws now) : w.cell? ⟨cb, 1, none⟩ = some (.map (some mb)) := ((block_cells h.cg).1 1).trans rfl
theorem fr {T : Nat → Prop} {w' : World} (h : ChgIs w cb tb mb ws now) (hf : Fr T w w') (h1 : ¬ T cb) (h2 : ¬ T mb) : ChgIs w' cb tb mb ws now := by
  refine ⟨hf.heap h.cg h1, ?_, h.len, h.un⟩
  obtain ⟨D, ⟨es, clock, hb, r⟩, hd⟩ := h.mp
  exact ⟨D, ⟨es, clock, hf.heap hb h2, r⟩, hd⟩
theorem lt (h : ChgIs w cb tb mb ws now) : mb < w.heap.size := by
  obtain ⟨D, ho, _⟩ := h.mp
  exact ho.lt
end ChgIs
theorem has_no {D : DataW Unit} {ws now : List Int} (h : DiffIs D ws now) {q : Nat} (he : wd now q = wd ws q) : Maps.has D (.int .i64 (q : Int)) = false := by
  rcases hh : Maps.has D (.int .i64 (q : Int)) with _ | _
  · rfl
  · obtain ⟨r, _, hqr, hne⟩ := (h.key _).1 hh
    obtain rfl : q = r := by omega
    exact absurd he hne
theorem has_yes {D : DataW Unit} {ws now : List Int} (h : DiffIs D ws now) {q : Nat} (hq : q < ws.length) (he : wd now q ≠ wd ws q) : Maps.has D (.int .i64 (q : Int)) = true := (h.key _).2 ⟨q, hq, rfl, he⟩

theorem clen_any (cb tb g mb : Nat) (ws now : List Int) (vs : Value) (w : World) (ht : ToldIs w tb g ws vs) (hc : ChgIs w cb tb mb ws now) :
    Calls Tryz.prog 198 #[.pointer (some ⟨cb, 0, none⟩)] w fun e w' => e = .returned (.int .i64 now.length) ∧ w' = w := by
  have hb := hc.below
  have hm := meth_tlen tb w _ ht.head
  rw [hc.len]
  clear ht hc
  go_enter Tryz.func198, Tryz.ntmps198
  go_wp2_with (go_at_call 196; refine calls_same (klen_any _ _ _ _) ?_)
  go_ret
  exact ⟨rfl, rfl⟩
set_option maxHeartbeats 400000 in
theorem cread_any (cb tb g mb : Nat) (ws now : List Int) (vs : Value) (w : World) (i : Nat) (hi : i < ws.length) (ht : ToldIs w tb g ws vs) (hc : ChgIs w cb tb mb ws now) :
    Calls Tryz.prog 70 #[.pointer (some ⟨cb, 0, none⟩), .int .i64 (i : Nat)] w fun e w' => e = .returned (.int .u64 (wd now i)) ∧ w' = w := by
  have hb := hc.below
  have hmp := hc.map
  have hm := meth_tread tb w _ ht.head
  have HR : Hid (Calls Tryz.prog 197 #[.slice (some ⟨g, 0, none⟩) ws.length ws.length, .int .i64 (i : Nat)] w fun e w'' => e = .returned (.int .u64 (wd ws i)) ∧ w'' = w) := kread_any g 0 _ _ i _ w hi (ht.cells i hi)
  have hl : i ≤ 1048576 := by have := ht.len; omega
  obtain ⟨D, hown, hd⟩ := hc.mp
  by_cases he : wd now i = wd ws i
  · have hh := has_no hd he
    rw [he]
    clear ht hc hd he
    go_enter Tryz.func70, Tryz.ntmps70
    go_wp2_with (first
      | (at_lookup; refine wpList_lookup_own_ok_int _ rfl _ _ 166 rfl 3 50 .u64 key_int Tryz.underlying166 Tryz.underlying50 (zero_u64 _) mb _ D rfl hown _ _ rfl (hkey_i i hl) ?_; intro c hat hwc)
      | (go_at_call 197; refine calls_same HR.out ?_))
    go_ret
    exact ⟨rfl, rfl⟩
  · have hh := has_yes hd hi he
    have hv := hd.val i hh
    have HV : Hid (D.atKey (.int .i64 (i : Int)) (.lit (.int .u64 0)) = .lit (.int .u64 (wd now i))) := hv
    clear ht hc hd he hv HR
    go_enter Tryz.func70, Tryz.ntmps70
    go_wp2_with (first
      | (at_lookup; refine wpList_lookup_own_ok_int _ rfl _ _ 166 rfl 3 50 .u64 key_int Tryz.underlying166 Tryz.underlying50 (zero_u64 _) mb _ D rfl hown _ _ rfl (hkey_i i hl) ?_; intro c hat hwc; obtain rfl : c = wd now i := (by have := hat.symm.trans HV.out; cases this; rfl); clear hat))
    go_ret
    exact ⟨rfl, rfl⟩
/-- changes, as a row -/
theorem chg_row {cb tb g mb : Nat} {ws now : List Int} {vs : Value} {w : World} (ht : ToldIs w tb g ws vs) (hc : ChgIs w cb tb mb ws now) :
    RowAt w 101 (.pointer (some ⟨cb, 0, none⟩)) 198 70 (.pointer (some ⟨cb, 0, none⟩)) now :=
  ⟨fun w' _ => meth_clen _ w', fun w' _ => meth_cread _ w', fun w' => ahead_cread _ w', call_clen, call_cread,
    fun w' hf => clen_any cb tb g mb ws now vs w' (ht.fr hf id id) (hc.fr hf id id), fun w' hf i hi => cread_any cb tb g mb ws now vs w' i (by rw [← hc.len]; exact hi) (ht.fr hf id id) (hc.fr hf id id)⟩
set_option maxHeartbeats 400000 in
/-- Put: the map alone is turned -/
theorem cput_any (cb tb g mb : Nat) (ws now : List Int) (vs : Value) (w : World) (i : Nat) (v : Int) (hi : i < ws.length) (hv : U v) (ht : ToldIs w tb g ws vs) (hc : ChgIs w cb tb mb ws now) :
    Calls Tryz.prog 59 #[.pointer (some ⟨cb, 0, none⟩), .int .i64 (i : Nat), .int .u64 v] w fun e w' => e = .returned (.tuple #[]) ∧ ChgIs w' cb tb mb ws (now.set i v) ∧ Fr (fun k => k = mb) w w' ∧ w'.heap.size = w.heap.size := by
  have hb := hc.below
  have hmp := hc.map
  have hm := meth_tread tb w _ ht.head
  have har := ahead_tread ⟨tb, 0, none⟩ w
  have HR : Hid (Calls Tryz.prog 197 #[.slice (some ⟨g, 0, none⟩) ws.length ws.length, .int .i64 (i : Nat)] w fun e w'' => e = .returned (.int .u64 (wd ws i)) ∧ w'' = w) := kread_any g 0 _ _ i _ w hi (ht.cells i hi)
  have hl : i ≤ 1048576 := by have := ht.len; omega
  obtain ⟨D, hown, hd⟩ := hc.mp
  have hsz : Maps.size D ≤ 1048576 := by rw [diff_size hown hd]; have := difP_len ws now; have := ht.len; omega
  have HU : Hid (∀ z ∈ now.set i v, U z) := fun z hz => by
    rcases List.mem_or_eq_of_mem_set hz with h | rfl
    · exact hc.un z h
    · exact hv
  have HT : Hid (∀ w', w.mapTurned w' mb → Fr (fun k => k = mb) w w' ∧ w'.heap.size = w.heap.size ∧ w'.heap[cb]? = w.heap[cb]?) := fun w' hw => by
    have hf : Fr (fun k => k = mb) w w' := (Fr.refl _ w).grown hw.grown (fun k _ hk => by cases hk; rfl)
    refine ⟨hf, ?_, hf.block cb (lt_of_block hc.cg) ?_⟩
    · obtain ⟨_, _, _, _, _, rfl⟩ := hw
      simp [Go.ChangeMaps.setBlock]
    · rintro rfl
      obtain ⟨_, _, hbm, _⟩ := hown
      rw [hc.cg] at hbm
      cases hbm
  have HC : Hid (w.heap[cb]? = some (.cells #[.iface 97 (.pointer (some ⟨tb, 0, none⟩)), .map (some mb)] 168 (0, 0)) ∧ now.length = ws.length ∧ DiffIs D ws now ∧ IsMap D) := ⟨hc.cg, hc.len, hd, hown.isMap⟩
  by_cases he : v = wd ws i
  · subst he
    obtain ⟨x, hx⟩ : ∃ x, x = wd ws i := ⟨_, rfl⟩
    have HX : Hid (x = wd ws i) := hx
    rw [← hx] at HR HU hv ⊢
    clear ht hc hd hx
    go_enter Tryz.func59, Tryz.ntmps59
    go_wp2_with (first
      | (go_at_call 197; refine calls_same HR.out ?_)
      | (at_delete; refine wpList_delete_own _ rfl _ _ 166 3 rfl 50 key_int Tryz.underlying166 _ mb _ D rfl hown _ _ rfl (hkey_i i hl) ?_; intro w1 hown1 hturn1))
    refine bodyPost_ret (v := .tuple #[]) (by simp [results, Tryz.results59, go_sem]) rfl ?_
    obtain ⟨t1, t2, t3⟩ := HT.out w1 hturn1
    obtain ⟨c1, c2, c3, c4⟩ := HC.out
    refine ⟨rfl, ⟨t3.trans c1, ⟨_, owns_tight hown1, ?_⟩, by simpa using c2, HU.out⟩, t1, t2⟩
    rw [HX.out]
    exact diff_del c3 c2 hi
  · have hne : (v == wd ws i) = false := by simpa using he
    obtain ⟨x, hx⟩ : ∃ x, x = wd ws i := ⟨_, rfl⟩
    have HX : Hid (x = wd ws i) := hx
    have HE : Hid (v ≠ wd ws i) := he
    rw [← hx] at HR hne
    have hval : plainElem (H := Unit) Tryz.prog 50 (.int .u64 v) = some (.lit (.int .u64 v), []) := plainElem_int Tryz.underlying50 (WalkArith.wf_u64 (by unfold U at hv; omega))
    clear ht hc hd hx he
    go_enter Tryz.func59, Tryz.ntmps59
    go_wp2_with (first
      | (go_at_call 197; refine calls_same HR.out ?_)
      | (at_mapUpdate; refine wpList_mapUpdate_in _ rfl _ _ _ 166 rfl 3 50 key_int Tryz.underlying166 _ mb _ D rfl hown (by unfold maxLen; omega) _ _ _ rfl rfl (hkey_i i hl) _ [] hval ?_; intro w1 hown1 hturn1))
    go_end0
    obtain ⟨t1, t2, t3⟩ := HT.out w1 hturn1
    obtain ⟨c1, c2, c3, c4⟩ := HC.out
    exact ⟨rfl, ⟨t3.trans c1, ⟨_, owns_tight hown1, diff_put c3 c4 c2 hi HE.out⟩, by simpa using c2, HU.out⟩, t1, t2⟩
end Go.Proofs.YtbagcjlimdilpaaGreat
