/- The walk of the law's 'step' for the kinds of Sums. -/
import Derived.Test.YtbagcjlimdilpaaGreatSuPlainW
namespace Go.Proofs.YtbagcjlimdilpaaGreat
open Go.RowKit

set_option maxHeartbeats 4000000 in
set_option maxRecDepth 1000000 in
theorem step_low (B b c : Nat) (k A D C : Int) (V : Int) (Wa : Option Addr) (Wc : Nat) (zs : List Int) (w : World) (hk : k ≤ 2) (hI : Inv B b c w) (hc : c ≤ 1073741823) (hz : zs.length ≤ 1048576) (hr : RowU w Wa zs) :
    Calls Tryz.prog 42 #[.pointer (some ⟨b, 0, none⟩), .agg #[.int .i64 k, .int .i64 A, .int .i64 D, .int .i64 C, .int .u64 V, .slice Wa zs.length Wc]] w fun e w' => e = .returned (.bool true) ∧ Below B w w' ∧ ∃ c', c' ≤ c + 1 ∧ Inv B b c' w' := by
  have hIa : ∀ o, Inv B b c (w.alloc o) := fun o => by obtain ⟨vws, nw, xs, vb, es, P⟩ := hI; exact ⟨_, _, _, _, _, P.fr ((Fr.refl New w).alloc o)⟩
  have hra := fun o => rowU_fr ((Fr.refl New w).alloc o) hr (fun _ _ h => h)
  have hBs : B ≤ w.heap.size := by obtain ⟨vws, nw, xs, vb, es, P⟩ := hI; exact P.size
  have hba : ∀ o, Below B w (w.alloc o) := fun o => ((Fr.refl New w).alloc o).below hBs (fun _ _ h => h)
  by_cases h1 : k < 1
  · go_enter Tryz.func42, Tryz.ntmps42
    go_wp2
    go_ret
    exact ⟨rfl, hba _, c, by omega, hIa _⟩
  · by_cases h2 : k = 1
    · subst h2
      by_cases hD : 1 ≤ D ∧ D ≤ 32
      · obtain ⟨n, rfl⟩ := Int.eq_ofNat_of_zero_le (show 0 ≤ D by omega)
        go_enter Tryz.func42, Tryz.ntmps42
        go_wp2_with (go_at_call 73; refine (plain_format_yes B b c A C n V Wa zs.length Wc _ (hIa _) hc (by omega) (by omega)).mono ?_; rintro e w1 ⟨rfl, hb1, hI1⟩)
        go_ret
        exact ⟨rfl, (hba _).trans hb1, c + 1, by omega, hI1⟩
      · go_enter Tryz.func42, Tryz.ntmps42
        go_wp2_with (go_at_call 73; refine (plain_format_no B b c A C D V Wa zs.length Wc _ (hIa _) hc (by omega)).mono ?_; rintro e w1 ⟨rfl, hb1, hI1⟩)
        go_ret
        exact ⟨rfl, (hba _).trans hb1, c + 1, by omega, hI1⟩
    · obtain rfl : k = 2 := by omega
      go_enter Tryz.func42, Tryz.ntmps42
      go_wp2_with (go_at_call 73; refine (plain_sum B b c A D C V Wa Wc zs _ (hIa _) hz (hra _)).mono ?_; rintro e w1 ⟨rfl, hb1, hI1⟩)
      go_ret
      exact ⟨rfl, (hba _).trans hb1, c, by omega, hI1⟩

theorem looks_inv (B b c : Nat) (w : World) (hI : Inv B b c w) (hc : c ≤ 1073741824) :
    Calls Tryz.prog 43 #[.pointer (some ⟨b, 2, none⟩)] w fun e w' => e = .returned (.bool true) ∧ Below B w w' ∧ Inv B b c w' := by
  obtain ⟨vws, nw, xs, vb, es, P⟩ := hI
  refine (looks_true b c vws _ vb es B w P.bk P.own (by have := P.les; omega) P.good).mono ?_
  rintro e w' ⟨rfl, hf⟩
  exact ⟨rfl, hf.below P.size (fun _ _ h => h), _, _, _, _, _, P.fr hf⟩

/-- a step of a script, as it lies in memory -/
structure OpD where
  k : Int
  A : Int
  D : Int
  C : Int
  V : Int
  Wa : Option Addr
  Wc : Nat
  zs : List Int

/-- the cells of a step -/
def OpD.cells (o : OpD) : List Value := [.int .i64 o.k, .int .i64 o.A, .int .i64 o.D, .int .i64 o.C, .int .u64 o.V, .slice o.Wa o.zs.length o.Wc]

/-- a script lies at ⟨sb, so⟩ -/
def Script (w : World) (sb so : Nat) (ops : List OpD) : Prop :=
  ∀ i (h : i < ops.length), (∀ j, j < 6 → w.cell? ⟨sb, so + i * 6 + j, none⟩ = (ops[i]).cells[j]?) ∧ (ops[i]).zs.length ≤ 1048576 ∧ RowU w (ops[i]).Wa (ops[i]).zs

theorem rowU_below {w w' : World} (h : Below w.heap.size w w') {a : Option Addr} {zs : List Int} (hr : RowU w a zs) : RowU w' a zs := by
  intro i hi
  obtain ⟨x, hx, hc⟩ := hr i hi
  exact ⟨x, hx, (h.cell (World.block_lt_of_cell? w _ hc)).trans hc⟩

end Go.Proofs.YtbagcjlimdilpaaGreat
