/- Walks of the law's small functions over lists of words: the document's Sum, sameWords, fullWords. -/
import Derived.Test.YtbagcjlimdilpaaGreatHhLawF
import Derived.Deep.QuietTactic
import Derived.BigQuiet
namespace Go.Proofs.YtbagcjlimdilpaaGreat
open Go.RowKit

theorem rmix {s x : Int} (hs : U s) : IntKind.u64.wrap (bits .xor .u64 (IntKind.u64.wrap (IntKind.u64.wrap (s * 512) + s / 36028797018963968)) x * 11400714819323198485) = mix s x := by
  unfold mix
  rw [IntKind.wrap_u64 (s * 512), IntKind.wrap_u64 (_ + _), rot_eq hs]
  have : (s * 512 % 18446744073709551616 + s / 36028797018963968) % 18446744073709551616 = s * 512 % 18446744073709551616 + s / 36028797018963968 := by
    have := rot_U hs; rw [rot_eq hs] at this; obtain ⟨h0, h1⟩ := this; exact Int.emod_eq_of_lt h0 h1
  rw [this]

theorem rsum_any (a : Option Addr) (len cap : Nat) (zs : List Int) (w : World) (hl : zs.length = len) (hm : len ≤ maxLen) (hc : RowU w a zs) :
    Calls Tryz.prog 121 #[.slice a len cap] w fun e w' => e = .returned (.int .u64 (sumL zs)) ∧ w' = w := by
  unfold maxLen at hm
  subst hl
  go_enter Tryz.func121, Tryz.ntmps121
  go_wp2
  go_loop [3, 4] (fun t i => ∃ k : Nat, k ≤ zs.length ∧ i = .int .i64 k ∧ t = .int .u64 (sumL (zs.take k))) (fun _ i => zs.length - (intOf i).toNat)
  case atStart => exact ⟨0, Nat.zero_le _, rfl, rfl⟩
  case round =>
    obtain ⟨k, hk, rfl, rfl⟩ := hrel
    by_cases hlt : k < zs.length
    · obtain ⟨x, rfl, hcx⟩ := hc k hlt
      have HS : Hid (sumL (zs.take (k + 1)) = mix (sumL (zs.take k)) zs[k]) := sumL_take_succ zs k hlt
      obtain ⟨s, hs⟩ : ∃ s, s = sumL (zs.take k) := ⟨_, rfl⟩
      have hsU : U s := by rw [hs]; exact sumL_U _
      obtain ⟨hs0, hs1⟩ := hsU
      rw [← hs] at HS ⊢
      clear hs
      go_wp2
      go_round
      case rel => exact ⟨k + 1, by omega, by go_num, by rw [HS.out, ← rmix ⟨hs0, hs1⟩]⟩
      case measure => simp [intOf]; omega
    · go_wp2
      go_ret
      exact ⟨ret_u (by rw [List.take_of_length_le (by omega)]), rfl⟩

theorem same_true (a b : Option Addr) (cap cap' : Nat) (zs : List Int) (w : World) (hm : zs.length ≤ maxLen) (ha : RowU w a zs) (hb : RowU w b zs) :
    Calls Tryz.prog 87 #[.slice a zs.length cap, .slice b zs.length cap'] w fun e w' => e = .returned (.bool true) ∧ ∃ n, w' = w.drewN n := by
  unfold maxLen at hm
  go_enter Tryz.func87, Tryz.ntmps87
  go_wp2
  go_loopw [5] (fun i wr => ∃ k n : Nat, k ≤ zs.length ∧ i = .int .i64 k ∧ wr = w.drewN n) (fun i _ => zs.length - (intOf i).toNat)
  case atStart => exact ⟨0, 0, Nat.zero_le _, rfl, rfl⟩
  case round =>
    obtain ⟨k, n, hk, rfl, rfl⟩ := hrel
    by_cases hlt : k < zs.length
    · obtain ⟨x, rfl, hcx⟩ := ha k hlt
      obtain ⟨y, rfl, hcy⟩ := hb k hlt
      go_wp2
      go_quiet (fail)
      go_wp2
      go_roundw
      case rel => exact ⟨k + 1, n + nq, by omega, by go_num, rfl⟩
      case measure => simp [intOf]; omega
    · go_wp2
      go_ret
      exact ⟨rfl, n, rfl⟩

theorem full_true (a : Option Addr) (n cap : Nat) (m : Int) (w : World) (hm : n ≤ maxLen) (ha : RowU w a (List.replicate n m)) :
    Calls Tryz.prog 91 #[.slice a n cap, .int .u64 m] w fun e w' => e = .returned (.bool true) ∧ w' = w := by
  unfold maxLen at hm
  go_enter Tryz.func91, Tryz.ntmps91
  go_wp2
  go_loop [5] (fun i => ∃ k : Nat, k ≤ n ∧ i = .int .i64 k) (fun i => n - (intOf i).toNat)
  case atStart => exact ⟨0, Nat.zero_le _, rfl⟩
  case round =>
    obtain ⟨k, hk, rfl⟩ := hrel
    by_cases hlt : k < n
    · obtain ⟨x, rfl, hcx⟩ := ha k (by simpa using hlt)
      have hg : (List.replicate n m).getD k 0 = m := by simp [List.getD, hlt]
      rw [hg] at hcx
      go_wp2
      go_round
      case rel => exact ⟨k + 1, by omega, by go_num⟩
      case measure => simp [intOf]; omega
    · go_wp2
      go_ret
      exact ⟨rfl, rfl⟩

end Go.Proofs.YtbagcjlimdilpaaGreat
