/- Walks of the law's small functions over lists of words: the document's Sum, sameWords, fullWords. -/
import Derived.Test.YtbagcjlimdilpabGreatKtLawF
import Derived.Deep.QuietTactic
import Derived.BigQuiet
namespace Go.Proofs.YtbagcjlimdilpabGreat
open Go.RowKit

theorem rmix {s x : Int} (hs : U s) : IntKind.u64.wrap (bits .xor .u64 (IntKind.u64.wrap (IntKind.u64.wrap (s * 512) + s / 36028797018963968)) x * 11400714819323198485) = mix s x := by
  unfold mix
  rw [IntKind.wrap_u64 (s * 512), IntKind.wrap_u64 (_ + _), rot_eq hs]
  have : (s * 512 % 18446744073709551616 + s / 36028797018963968) % 18446744073709551616 = s * 512 % 18446744073709551616 + s / 36028797018963968 := by
    have := rot_U hs; rw [rot_eq hs] at this; obtain ⟨h0, h1⟩ := this; exact Int.emod_eq_of_lt h0 h1
  rw [this]

end Go.Proofs.YtbagcjlimdilpabGreat

