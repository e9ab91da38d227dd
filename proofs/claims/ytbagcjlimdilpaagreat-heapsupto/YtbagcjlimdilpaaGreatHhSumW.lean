/- The walks of Sum, RotateLeft64 and pick: Sum of a row of words returns 'sumL' of them and turns nothing. -/
import Derived.Test.YtbagcjlimdilpaaGreatRows
import Derived.Test.YtbagcjlimdilpaaGreatHhJ0
namespace Go.Proofs.YtbagcjlimdilpaaGreat
open Go.RowKit

theorem rot_any (s : Int) (w : World) :
    Calls Tryz.prog 113 #[.int .u64 s, .int .i64 9] w fun e w' => e = .returned (.int .u64 (rot s)) ∧ w' = w := by
  have h963 : bits .and .u64 9 63 = 9 := by decide
  go_enter Tryz.func113, Tryz.ntmps113
  go_wp2
  go_ret
  exact ⟨rfl, rfl⟩

/-- the words zs lie at a, one behind the other -/
def RowU (w : World) (a : Option Addr) (zs : List Int) : Prop := ∀ i, i < zs.length → ∃ x, a = some x ∧ w.cell? (x.add i) = some (.int .u64 (zs.getD i 0))

theorem ret_u {a b : Int} (h : a = b) : Ending.returned (.int .u64 a) = .returned (.int .u64 b) := by rw [h]

theorem lsum_any (a : Option Addr) (len cap : Nat) (zs : List Int) (w : World) (hl : zs.length = len) (hm : len ≤ maxLen) (hc : RowU w a zs) :
    Calls Tryz.prog 63 #[.slice a len cap] w fun e w' => e = .returned (.int .u64 (sumL zs)) ∧ w' = w := by
  unfold maxLen at hm
  subst hl
  go_enter Tryz.func63, Tryz.ntmps63
  go_wp2
  go_loop [3, 8] (fun t i => ∃ k : Nat, k ≤ zs.length ∧ i = .int .i64 k ∧ t = .int .u64 (sumL (zs.take k))) (fun _ i => zs.length - (intOf i).toNat)
  case atStart => exact ⟨0, Nat.zero_le _, rfl, rfl⟩
  case round =>
    obtain ⟨k, hk, rfl, rfl⟩ := hrel
    by_cases hlt : k < zs.length
    · obtain ⟨x, rfl, hcx⟩ := hc k hlt
      have HS : Hid (sumL (zs.take (k + 1)) = mix (sumL (zs.take k)) zs[k]) := sumL_take_succ zs k hlt
      go_wp2_with (go_at_call 113; refine (rot_any _ _).mono ?_; rintro e w' ⟨rfl, rfl⟩)
      go_round
      case rel => exact ⟨k + 1, by omega, by go_num, by rw [HS.out]; rfl⟩
      case measure => simp [intOf]; omega
    · go_wp2
      go_ret
      exact ⟨ret_u (by rw [List.take_of_length_le (by omega)]), rfl⟩

theorem sum_any (a : Option Addr) (len cap : Nat) (zs : List Int) (w : World) (hl : zs.length = len) (hm : len ≤ maxLen) (hc : RowU w a zs) :
    Calls Tryz.prog 36 #[.slice a len cap] w fun e w' => e = .returned (.int .u64 (sumL zs)) ∧ w' = w := by
  go_enter Tryz.func36, Tryz.ntmps36
  go_wp2_with (go_at_call 63; refine (lsum_any a len cap zs w hl hm hc).mono ?_; rintro e w' ⟨rfl, rfl⟩)
  go_ret
  exact ⟨rfl, rfl⟩

/-- which of n things the raw number c speaks of -/
def pickI (c n : Int) : Int := if c < 0 then (-(c + 1)) % n else c % n
theorem pickI_nonneg (c n : Int) (hn : 0 < n) : 0 ≤ pickI c n := by
  unfold pickI; split <;> exact Int.emod_nonneg _ (by omega)
theorem pickI_lt (c n : Int) (hn : 0 < n) : pickI c n < n := by
  unfold pickI; split <;> exact Int.emod_lt_of_pos _ hn

theorem ret_i {a b : Int} (h : a = b) : Ending.returned (.int .i64 a) = .returned (.int .i64 b) := by rw [h]
end Go.Proofs.YtbagcjlimdilpaaGreat
