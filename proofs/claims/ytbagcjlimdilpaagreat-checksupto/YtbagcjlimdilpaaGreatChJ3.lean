/- Texts that follow one another, joined. -/
import Derived.Test.YtbagcjlimdilpaaGreatChJ0
import Derived.Test.YtbagcjlimdilpaaGreatChRefB
/- Walks of the document's find, place and reached. -/
namespace Go.Proofs.YtbagcjlimdilpaaGreat
open Go.RowKit

theorem obsCells_get (l : List Ob) (i j : Nat) (hi : i < l.length) (hj : j < 3) : (obsCells l)[i * 3 + j]? = (obCells l[i])[j]? := by
  induction l generalizing i with
  | nil => simp at hi
  | cons e r ih =>
    simp only [obsCells, List.flatMap_cons]
    cases i with
    | zero => rw [List.getElem?_append_left (by simp [obCells]; omega)]; simp
    | succ i =>
      rw [List.getElem?_append_right (by simp [obCells]; omega)]
      have := ih i (by simpa using hi)
      rw [show (i + 1) * 3 + j - (obCells e).length = i * 3 + j by simp [obCells]; omega]
      exact this

/-- a list of objects, as it lies -/
def LiesO (w : World) (v : Value) (l : List Ob) : Prop := ∃ a cap, v = .slice a l.length cap ∧ l.length ≤ 1048576 ∧ (∀ o ∈ l, o.block ≤ 1048576 ∧ o.span ≤ 4 ∧ o.ptrs < 32) ∧
  (0 < l.length → ∃ g, a = some ⟨g, 0, none⟩ ∧ g < w.heap.size ∧ ∀ i (hi : i < l.length), w.cell? ⟨g, i * 3, none⟩ = some (.int .i64 (l[i]).block) ∧ w.cell? ⟨g, i * 3 + 1, none⟩ = some (.int .i64 (l[i]).span) ∧ w.cell? ⟨g, i * 3 + 2, none⟩ = some (.int .i64 (l[i]).ptrs))
theorem lies_own {w : World} {B : Nat} {v : Value} {l : List Ob} (h : OwnO B w v l) (hl : l.length ≤ 1048576) (hb : ∀ o ∈ l, o.block ≤ 1048576 ∧ o.span ≤ 4 ∧ o.ptrs < 32) : LiesO w v l := by
  obtain ⟨a, c, rfl⟩ := own_slice h
  refine ⟨a, c, rfl, hl, hb, fun hp => ?_⟩
  obtain ⟨g, c', hv, _, hg⟩ := h.form hp
  cases hv
  have key : ∀ i (hi : i < l.length) j, j < 3 → w.cell? ⟨g, i * 3 + j, none⟩ = (obCells l[i])[j]? := fun i hi j hj => (h.cellAt (i * 3 + j) (by omega)).trans (obsCells_get l i j hi hj)
  exact ⟨g, rfl, hg, fun i hi => ⟨key i hi 0 (by omega), key i hi 1 (by omega), key i hi 2 (by omega)⟩⟩
theorem LiesO.fr {T : Nat → Prop} {w w' : World} {v : Value} {l : List Ob} (h : LiesO w v l) (hf : Fr T w w') (hn : ∀ g, v.ownBlock = some g → ¬ T g) : LiesO w' v l := by
  obtain ⟨a, c, rfl, hl, hb, hc⟩ := h
  refine ⟨a, c, rfl, hl, hb, fun hp => ?_⟩
  obtain ⟨g, rfl, hg, hcc⟩ := hc hp
  refine ⟨g, rfl, Nat.lt_of_lt_of_le hg hf.size, fun i hi => ?_⟩
  obtain ⟨h1, h2, h3⟩ := hcc i hi
  exact ⟨hf.cell h1 (hn g rfl), hf.cell h2 (hn g rfl), hf.cell h3 (hn g rfl)⟩

set_option maxRecDepth 100000 in
theorem find_any (v : Value) (l : List Ob) (h : Int) (w : World) (hv : LiesO w v l) :
    Calls Tryz.prog 130 #[v, .int .u64 h] w fun e w' => e = .returned (.int .i64 (findI l h)) ∧ w' = w := by
  obtain ⟨a, cap, rfl, hl, hb, hc⟩ := hv
  go_enter Tryz.func130, Tryz.ntmps130
  go_wp2
  go_loop [5] (fun t => ∃ k : Nat, k ≤ l.length ∧ t = .int .i64 k ∧ ∀ i (hi : i < l.length), i < k → (((l[i]).block + 1 : Nat) : Int) ≠ h) (fun t => l.length - (intOf t).toNat)
  case atStart => exact ⟨0, Nat.zero_le _, rfl, fun i hi h0 => by omega⟩
  case round =>
    obtain ⟨k, hk, rfl, hno⟩ := hrel
    have HN : Hid (∀ i (hi : i < l.length), i < k → (((l[i]).block + 1 : Nat) : Int) ≠ h) := hno
    clear hno
    by_cases hlt : k < l.length
    · obtain ⟨g, rfl, hg, hcc⟩ := hc (by omega)
      obtain ⟨h1, _, _⟩ := hcc k hlt
      obtain ⟨hb1, _, _⟩ := hb l[k] (List.getElem_mem _)
      obtain ⟨B, hB⟩ : ∃ B, B = (l[k]).block := ⟨_, rfl⟩
      rw [← hB] at h1 hb1
      have HB : Hid (B = (l[k]).block) := hB
      clear hB hcc hc
      have hw1 : IntKind.u64.wrap ((B : Int) + 1) = B + 1 := by rw [IntKind.wrap_u64]; omega
      by_cases he : (B : Int) + 1 = h
      · have HI : Hid (findI l h = k) := findI_some (idx_first hlt (by rw [← HB.out]; omega) (fun i hi => HN.out i (by omega) hi))
        subst he
        go_wp2
        go_ret
        exact ⟨ret_i HI.out.symm, rfl⟩
      · have hde : ((B : Int) + 1 == h) = false := by simpa using he
        have HX : Hid (¬ (B : Int) + 1 = h) := he
        clear he
        go_wp2
        go_round
        case rel => exact ⟨k + 1, by omega, by go_num, fun i hi hik => by
          rcases Nat.lt_or_ge i k with h' | h'
          · exact HN.out i hi h'
          · obtain rfl : i = k := by omega
            rw [← HB.out]
            have := HX.out
            omega⟩
        case measure => simp [intOf]; omega
    · have HI : Hid (findI l h = -1) := findI_none (idx_no (fun i hi => HN.out i hi (by omega)))
      go_wp2
      go_ret
      exact ⟨ret_i HI.out.symm, rfl⟩

theorem place_any (o : Ob) (p : Int) (w : World) (hb : o.block ≤ 1048576) (hp : -1 ≤ p) (hp2 : p ≤ 1048576) :
    Calls Tryz.prog 129 #[.agg #[.int .i64 o.block, .int .i64 o.span, .int .i64 o.ptrs], .int .i64 p] w fun e w' => e = .returned (.int .i64 (106 + 8 * (o.block : Int) + 1 + p)) ∧ Fr New w w' := by
  go_enter Tryz.func129, Tryz.ntmps129
  go_wp2
  go_ret
  exact ⟨rfl, (Fr.refl _ _).alloc _⟩
end Go.Proofs.YtbagcjlimdilpaaGreat
/- Walks of the program's small functions: words through the interface, shapes, places, heads. -/
namespace Go.Proofs.YtbagcjlimdilpaaGreat
open Go.RowKit

/-- words as the program hands them on -/
abbrev rowV (a : Option Addr) (n c : Nat) : Value := .iface 105 (.slice a n c)
theorem meth_len (a : Option Addr) (n c : Nat) (w : World) : (method 356 105 (.slice a n c) "Len").run Tryz.prog w = .ok (196, .slice a n c) w := by kernel_rfl
theorem meth_read (a : Option Addr) (n c : Nat) (w : World) : (method 356 105 (.slice a n c) "Read").run Tryz.prog w = .ok (197, .slice a n c) w := by kernel_rfl
theorem meth_put (a : Option Addr) (n c : Nat) (w : World) : (method 356 105 (.slice a n c) "Put").run Tryz.prog w = .ok (152, .slice a n c) w := by kernel_rfl
theorem ahead_read (a : Option Addr) (n c : Nat) (w : World) : (nilAhead 356 105 (.slice a n c) "Read").run Tryz.prog w = .ok (some false) w := by kernel_rfl
theorem ahead_put (a : Option Addr) (n c : Nat) (w : World) : (nilAhead 356 105 (.slice a n c) "Put").run Tryz.prog w = .ok (some false) w := by kernel_rfl

theorem klen_any (a : Option Addr) (n c : Nat) (w : World) :
    Calls Tryz.prog 196 #[.slice a n c] w fun e w' => e = .returned (.int .i64 n) ∧ w' = w := by
  go_enter Tryz.func196, Tryz.ntmps196
  go_wp2
  go_ret
  exact ⟨rfl, rfl⟩
theorem kread_any (sb so n c i : Nat) (x : Int) (w : World) (hi : i < n) (hc : w.cell? ⟨sb, so + i, none⟩ = some (.int .u64 x)) :
    Calls Tryz.prog 197 #[.slice (some ⟨sb, so, none⟩) n c, .int .i64 i] w fun e w' => e = .returned (.int .u64 x) ∧ w' = w := by
  go_enter Tryz.func197, Tryz.ntmps197
  go_wp2
  go_ret
  exact ⟨rfl, rfl⟩
theorem kput_any (g n c i : Nat) (x y : Int) (w : World) (hi : i < n) (hc : w.cell? ⟨g, i, none⟩ = some (.int .u64 x)) (hz : w.frozen? ⟨g, i, none⟩ = false) :
    Calls Tryz.prog 152 #[.slice (some ⟨g, 0, none⟩) n c, .int .i64 i, .int .u64 y] w fun e w' => e = .returned (.tuple #[]) ∧ w' = w.setCell ⟨g, i, none⟩ (.int .u64 y) := by
  go_enter Tryz.func152, Tryz.ntmps152
  go_wp2
  go_end0
  exact ⟨rfl, rfl⟩

/-- words behind the interface, while nothing but new blocks has come since w: how its methods are found, and what they answer -/
structure RowAt (w : World) (t : Nat) (x : Value) (fL fR : Nat) (y : Value) (ws : List Int) : Prop where
  mlen : ∀ w', Fr New w w' → (method 356 t x "Len").run Tryz.prog w' = .ok (fL, y) w'
  mread : ∀ w', Fr New w w' → (method 356 t x "Read").run Tryz.prog w' = .ok (fR, y) w'
  aread : ∀ w', (nilAhead 356 t x "Read").run Tryz.prog w' = .ok (some false) w'
  clen : ∀ a w', (callFunc fL a).run Tryz.prog w' = .ok (.enter fL a) w'
  cread : ∀ a w', (callFunc fR a).run Tryz.prog w' = .ok (.enter fR a) w'
  len : ∀ w', Fr New w w' → Calls Tryz.prog fL #[y] w' fun e w'' => e = .returned (.int .i64 ws.length) ∧ w'' = w'
  read : ∀ w', Fr New w w' → ∀ i, i < ws.length → Calls Tryz.prog fR #[y, .int .i64 (i : Nat)] w' fun e w'' => e = .returned (.int .u64 (wd ws i)) ∧ w'' = w'
theorem RowAt.grow {w w1 : World} {t : Nat} {x : Value} {fL fR : Nat} {y : Value} {ws : List Int} (h : RowAt w t x fL fR y ws) (hf : Fr New w w1) : RowAt w1 t x fL fR y ws :=
  ⟨fun w' h' => h.mlen w' (hf.same h'), fun w' h' => h.mread w' (hf.same h'), h.aread, h.clen, h.cread, fun w' h' => h.len w' (hf.same h'), fun w' h' => h.read w' (hf.same h')⟩
theorem call_klen (a : Array Value) (w : World) : (callFunc 196 a).run Tryz.prog w = .ok (.enter 196 a) w := by kernel_rfl
theorem call_kread (a : Array Value) (w : World) : (callFunc 197 a).run Tryz.prog w = .ok (.enter 197 a) w := by kernel_rfl
theorem kept_row {sb so L c : Nat} {ws : List Int} {w : World} (hL : ws.length = L) (hcw : ∀ i, i < L → w.cell? ⟨sb, so + i, none⟩ = some (.int .u64 (wd ws i))) :
    RowAt w 105 (.slice (some ⟨sb, so, none⟩) L c) 196 197 (.slice (some ⟨sb, so, none⟩) L c) ws :=
  ⟨fun w' _ => meth_len _ _ _ w', fun w' _ => meth_read _ _ _ w', fun w' => ahead_read _ _ _ w', call_klen, call_kread, fun w' _ => by rw [hL]; exact klen_any _ _ _ w', fun w' hf i hi => kread_any sb so L c i _ w' (by omega) (hf.cell (hcw i (by omega)) id)⟩

theorem place_of (b : Nat) (w : World) (hb : b ≤ 1048576) :
    Calls Tryz.prog 118 #[.int .i64 ((b + 1 : Nat) : Int)] w fun e w' => e = .returned (.int .i64 ((106 + 8 * b : Nat) : Int)) ∧ w' = w := by
  go_enter Tryz.func118, Tryz.ntmps118
  go_wp2
  go_ret
  exact ⟨ret_i (by omega), rfl⟩
theorem lblocks_any (L : Nat) (w : World) (h : 106 ≤ L) (hL : L ≤ 1048576) :
    Calls Tryz.prog 95 #[.int .i64 L] w fun e w' => e = .returned (.int .i64 (((L - 106) / 8 : Nat) : Int)) ∧ w' = w := by
  go_enter Tryz.func95, Tryz.ntmps95
  go_wp2
  go_ret
  exact ⟨ret_i (by first | omega | (rw [Int.tdiv_eq_ediv_of_nonneg (by omega)]; omega)), rfl⟩
end Go.Proofs.YtbagcjlimdilpaaGreat
