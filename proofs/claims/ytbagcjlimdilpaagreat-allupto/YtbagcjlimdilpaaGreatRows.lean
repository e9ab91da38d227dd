/-
  No cell of these rows narrows 'for every input' (looked for: loops, veiled, ifaces, maps, wideKeys, modest, calm, conditions, laid).
  DERIVED. THE GIVEN ROWS OF THIS SEAT. 11 by the template 'for every input the law returns true; each argument reads behind the call as it read before'; 0 by the template 'total and deterministic' (their statements: YtbagcjlimdilpaaGreatTotals.lean).
  GIVEN WITH THE SEED: the statements are not yours to turn. If you find one false, say at which input.
  Laid BY PROGRAM, IN A SANDBOX (cutbox-rows.mjs): the forced cells as the released guide's own fill.sh prints them over the translation 643f77d8cff5a9e6… (all of the seat's roots in one cut). By AI agents, Wed Nov 11 2026. No macro, syntax, notation, axiom, sorry.
-/
import Derived.Test.YtbagcjlimdilpaaGreatChecked
import GoSem.Claim
import GoSem.ClaimJoined
import GoSem.ClaimMapViews
import Derived.JoinedTies
import Derived.KernelRfl
namespace Go.Proofs.YtbagcjlimdilpaaGreat
/- THE CELL 'sum', in the pinned program and in every row, IS THE sha256 OF THE DUMP (.gsa) THAT YtbagcjlimdilpaaGreatProg.lean LOADS. Nothing in Lean hashes anything: it is a label: what it is worth is what the hold of that sum in a sandbox is worth. -/
noncomputable def Tryz.pinned : Pinned := { name := "ytbagcjlimdilpaagreat", sum := "643f77d8cff5a9e661c5ab0904a54868894959ef6bf0e5a000307e3abe1a4f27", checked := Tryz.checked }
namespace Rows
def none {H : Type} : Left H := { results := [], args := [] }

/-- 'cairnlaw.Sums': WHATEVER THE INPUT: true; the input reads as it did. -/
def sumsSpec : ChangeSpec := { name := "sums", fn := fun _ => fun
  | [d] => { results := [.lit (.bool true)], args := [d] }
  | _ => none }
def sumsRow : OpenClaim := { program := "ytbagcjlimdilpaagreat", sum := "643f77d8cff5a9e661c5ab0904a54868894959ef6bf0e5a000307e3abe1a4f27", func := "cairn/cairnlaw.Sums", spec := "sums", inPlace := ["maps.clone"], unfollowed := true, recurses := true, apart := false }
def SumsSaid : Prop := sumsRow.holds Tryz.pinned (OpenSpec.ofChange sumsSpec)

/-- ITS FALSE NEIGHBOUR: 'it returns false'. Refute it at one input. -/
def sumsWrong : ChangeSpec := { name := "sums", fn := fun _ => fun
  | [d] => { results := [.lit (.bool false)], args := [d] }
  | _ => none }
def SumsWrongFalsely : Prop := sumsRow.holds Tryz.pinned (OpenSpec.ofChange sumsWrong)

/-- 'cairnlaw.Checks': WHATEVER THE INPUT: true; the input reads as it did. -/
def checksSpec : ChangeSpec := { name := "checks", fn := fun _ => fun
  | [d] => { results := [.lit (.bool true)], args := [d] }
  | _ => none }
def checksRow : OpenClaim := { program := "ytbagcjlimdilpaagreat", sum := "643f77d8cff5a9e661c5ab0904a54868894959ef6bf0e5a000307e3abe1a4f27", func := "cairn/cairnlaw.Checks", spec := "checks", inPlace := ["maps.clone"], unfollowed := true, recurses := true, apart := false }
def ChecksSaid : Prop := checksRow.holds Tryz.pinned (OpenSpec.ofChange checksSpec)

/-- ITS FALSE NEIGHBOUR: 'it returns false'. Refute it at one input. -/
def checksWrong : ChangeSpec := { name := "checks", fn := fun _ => fun
  | [d] => { results := [.lit (.bool false)], args := [d] }
  | _ => none }
def ChecksWrongFalsely : Prop := checksRow.holds Tryz.pinned (OpenSpec.ofChange checksWrong)

/-- 'cairnlaw.Heaps': WHATEVER THE INPUT: true; the input reads as it did. -/
def heapsSpec : ChangeSpec := { name := "heaps", fn := fun _ => fun
  | [d] => { results := [.lit (.bool true)], args := [d] }
  | _ => none }
def heapsRow : OpenClaim := { program := "ytbagcjlimdilpaagreat", sum := "643f77d8cff5a9e661c5ab0904a54868894959ef6bf0e5a000307e3abe1a4f27", func := "cairn/cairnlaw.Heaps", spec := "heaps", inPlace := ["maps.clone"], unfollowed := true, recurses := true, apart := false }
def HeapsSaid : Prop := heapsRow.holds Tryz.pinned (OpenSpec.ofChange heapsSpec)

/-- ITS FALSE NEIGHBOUR: 'it returns false'. Refute it at one input. -/
def heapsWrong : ChangeSpec := { name := "heaps", fn := fun _ => fun
  | [d] => { results := [.lit (.bool false)], args := [d] }
  | _ => none }
def HeapsWrongFalsely : Prop := heapsRow.holds Tryz.pinned (OpenSpec.ofChange heapsWrong)

/-- 'cairnkeep.Kept': WHATEVER THE INPUT: true; the input reads as it did. -/
def keptSpec : ChangeSpec := { name := "kept", fn := fun _ => fun
  | [d1, d2] => { results := [.lit (.bool true)], args := [d1, d2] }
  | _ => none }
def keptRow : OpenClaim := { program := "ytbagcjlimdilpaagreat", sum := "643f77d8cff5a9e661c5ab0904a54868894959ef6bf0e5a000307e3abe1a4f27", func := "cairn/cairnkeep.Kept", spec := "kept", inPlace := ["maps.clone"], unfollowed := true, recurses := true, apart := false }
def KeptSaid : Prop := keptRow.holds Tryz.pinned (OpenSpec.ofChange keptSpec)

/-- ITS FALSE NEIGHBOUR: 'it returns false'. Refute it at one input. -/
def keptWrong : ChangeSpec := { name := "kept", fn := fun _ => fun
  | [d1, d2] => { results := [.lit (.bool false)], args := [d1, d2] }
  | _ => none }
def KeptWrongFalsely : Prop := keptRow.holds Tryz.pinned (OpenSpec.ofChange keptWrong)

/-- 'cairnkeep.Full': WHATEVER THE INPUT: true; the input reads as it did. -/
def fullSpec : ChangeSpec := { name := "full", fn := fun _ => fun
  | [d] => { results := [.lit (.bool true)], args := [d] }
  | _ => none }
def fullRow : OpenClaim := { program := "ytbagcjlimdilpaagreat", sum := "643f77d8cff5a9e661c5ab0904a54868894959ef6bf0e5a000307e3abe1a4f27", func := "cairn/cairnkeep.Full", spec := "full", inPlace := ["maps.clone"], unfollowed := true, recurses := true, apart := false }
def FullSaid : Prop := fullRow.holds Tryz.pinned (OpenSpec.ofChange fullSpec)

/-- ITS FALSE NEIGHBOUR: 'it returns false'. Refute it at one input. -/
def fullWrong : ChangeSpec := { name := "full", fn := fun _ => fun
  | [d] => { results := [.lit (.bool false)], args := [d] }
  | _ => none }
def FullWrongFalsely : Prop := fullRow.holds Tryz.pinned (OpenSpec.ofChange fullWrong)

/-- 'cairnlaw.All': WHATEVER THE INPUT: true; the input reads as it did. -/
def allSpec : ChangeSpec := { name := "all", fn := fun _ => fun
  | [d] => { results := [.lit (.bool true)], args := [d] }
  | _ => none }
def allRow : OpenClaim := { program := "ytbagcjlimdilpaagreat", sum := "643f77d8cff5a9e661c5ab0904a54868894959ef6bf0e5a000307e3abe1a4f27", func := "cairn/cairnlaw.All", spec := "all", inPlace := ["maps.clone"], unfollowed := true, recurses := true, apart := false }
def AllSaid : Prop := allRow.holds Tryz.pinned (OpenSpec.ofChange allSpec)

/-- ITS FALSE NEIGHBOUR: 'it returns false'. Refute it at one input. -/
def allWrong : ChangeSpec := { name := "all", fn := fun _ => fun
  | [d] => { results := [.lit (.bool false)], args := [d] }
  | _ => none }
def AllWrongFalsely : Prop := allRow.holds Tryz.pinned (OpenSpec.ofChange allWrong)

/-- 'cairnkeep.Crash': WHATEVER THE INPUT: true; the input reads as it did. -/
def crashSpec : ChangeSpec := { name := "crash", fn := fun _ => fun
  | [d1, d2, d3, d4, d5, d6] => { results := [.lit (.bool true)], args := [d1, d2, d3, d4, d5, d6] }
  | _ => none }
def crashRow : OpenClaim := { program := "ytbagcjlimdilpaagreat", sum := "643f77d8cff5a9e661c5ab0904a54868894959ef6bf0e5a000307e3abe1a4f27", func := "cairn/cairnkeep.Crash", spec := "crash", inPlace := ["maps.clone"], unfollowed := true, recurses := true, apart := false }
def CrashSaid : Prop := crashRow.holds Tryz.pinned (OpenSpec.ofChange crashSpec)

/-- ITS FALSE NEIGHBOUR: 'it returns false'. Refute it at one input. -/
def crashWrong : ChangeSpec := { name := "crash", fn := fun _ => fun
  | [d1, d2, d3, d4, d5, d6] => { results := [.lit (.bool false)], args := [d1, d2, d3, d4, d5, d6] }
  | _ => none }
def CrashWrongFalsely : Prop := crashRow.holds Tryz.pinned (OpenSpec.ofChange crashWrong)

/-- 'cairnkeep.Repaired': WHATEVER THE INPUT: true; the input reads as it did. -/
def repairedSpec : ChangeSpec := { name := "repaired", fn := fun _ => fun
  | [d1, d2, d3, d4] => { results := [.lit (.bool true)], args := [d1, d2, d3, d4] }
  | _ => none }
def repairedRow : OpenClaim := { program := "ytbagcjlimdilpaagreat", sum := "643f77d8cff5a9e661c5ab0904a54868894959ef6bf0e5a000307e3abe1a4f27", func := "cairn/cairnkeep.Repaired", spec := "repaired", inPlace := ["maps.clone"], unfollowed := true, recurses := true, apart := false }
def RepairedSaid : Prop := repairedRow.holds Tryz.pinned (OpenSpec.ofChange repairedSpec)

/-- ITS FALSE NEIGHBOUR: 'it returns false'. Refute it at one input. -/
def repairedWrong : ChangeSpec := { name := "repaired", fn := fun _ => fun
  | [d1, d2, d3, d4] => { results := [.lit (.bool false)], args := [d1, d2, d3, d4] }
  | _ => none }
def RepairedWrongFalsely : Prop := repairedRow.holds Tryz.pinned (OpenSpec.ofChange repairedWrong)

/-- 'cairnkeep.Any': WHATEVER THE INPUT: true; the input reads as it did. -/
def anySpec : ChangeSpec := { name := "any", fn := fun _ => fun
  | [d1, d2, d3, d4] => { results := [.lit (.bool true)], args := [d1, d2, d3, d4] }
  | _ => none }
def anyRow : OpenClaim := { program := "ytbagcjlimdilpaagreat", sum := "643f77d8cff5a9e661c5ab0904a54868894959ef6bf0e5a000307e3abe1a4f27", func := "cairn/cairnkeep.Any", spec := "any", inPlace := ["maps.clone"], unfollowed := true, recurses := true, apart := false }
def AnySaid : Prop := anyRow.holds Tryz.pinned (OpenSpec.ofChange anySpec)

/-- ITS FALSE NEIGHBOUR: 'it returns false'. Refute it at one input. -/
def anyWrong : ChangeSpec := { name := "any", fn := fun _ => fun
  | [d1, d2, d3, d4] => { results := [.lit (.bool false)], args := [d1, d2, d3, d4] }
  | _ => none }
def AnyWrongFalsely : Prop := anyRow.holds Tryz.pinned (OpenSpec.ofChange anyWrong)

/-- 'cairnkeep.Known': WHATEVER THE INPUT: true; the input reads as it did. -/
def knownSpec : ChangeSpec := { name := "known", fn := fun _ => fun
  | [d1, d2, d3] => { results := [.lit (.bool true)], args := [d1, d2, d3] }
  | _ => none }
def knownRow : OpenClaim := { program := "ytbagcjlimdilpaagreat", sum := "643f77d8cff5a9e661c5ab0904a54868894959ef6bf0e5a000307e3abe1a4f27", func := "cairn/cairnkeep.Known", spec := "known", inPlace := ["maps.clone"], unfollowed := true, recurses := true, apart := false }
def KnownSaid : Prop := knownRow.holds Tryz.pinned (OpenSpec.ofChange knownSpec)

/-- ITS FALSE NEIGHBOUR: 'it returns false'. Refute it at one input. -/
def knownWrong : ChangeSpec := { name := "known", fn := fun _ => fun
  | [d1, d2, d3] => { results := [.lit (.bool false)], args := [d1, d2, d3] }
  | _ => none }
def KnownWrongFalsely : Prop := knownRow.holds Tryz.pinned (OpenSpec.ofChange knownWrong)

/-- 'cairnkeep.Firm': WHATEVER THE INPUT: true; the input reads as it did. -/
def firmSpec : ChangeSpec := { name := "firm", fn := fun _ => fun
  | [d1, d2, d3] => { results := [.lit (.bool true)], args := [d1, d2, d3] }
  | _ => none }
def firmRow : OpenClaim := { program := "ytbagcjlimdilpaagreat", sum := "643f77d8cff5a9e661c5ab0904a54868894959ef6bf0e5a000307e3abe1a4f27", func := "cairn/cairnkeep.Firm", spec := "firm", inPlace := ["maps.clone"], unfollowed := true, recurses := true, apart := false }
def FirmSaid : Prop := firmRow.holds Tryz.pinned (OpenSpec.ofChange firmSpec)

/-- ITS FALSE NEIGHBOUR: 'it returns false'. Refute it at one input. -/
def firmWrong : ChangeSpec := { name := "firm", fn := fun _ => fun
  | [d1, d2, d3] => { results := [.lit (.bool false)], args := [d1, d2, d3] }
  | _ => none }
def FirmWrongFalsely : Prop := firmRow.holds Tryz.pinned (OpenSpec.ofChange firmWrong)

/- THE SECOND FORM. 'bulk': how many values and letters a reading holds, each counted each time it is reached (what is shared counts as often as it is met; a slice's spare places count too). A statement '..UptoSaid' is the law's where the arguments, and the package variables that the reading takes, are together of bulk at most 1048576: NARROWER than '..Said'. Prove '..Said' where nothing that the law and all that it calls make is longer than what came in: it says more and counts as full. Else prove '..UptoSaid'. A law counts once. -/
mutual
def uptoBulk {H : Type} : DataW H → Nat
  | .lit (.string bytes) => bytes.length + 1
  | .lit _ => 1
  | .nil => 1
  | .ptr d => uptoBulk d + 1
  | .slice elems spare => uptoBulkAll elems + uptoBulkAll spare + 1
  | .agg parts => uptoBulkAll parts + 1
  | .iface _ d => uptoBulk d + 1
  | .map entries => uptoBulkEntries entries + 1
  | .held _ => 1
def uptoBulkAll {H : Type} : List (DataW H) → Nat
  | [] => 0
  | d :: r => uptoBulk d + uptoBulkAll r
def uptoBulkEntries {H : Type} : List (Lit × DataW H) → Nat
  | [] => 0
  | x :: r => uptoBulkEntry x + uptoBulkEntries r
def uptoBulkEntry {H : Type} : Lit × DataW H → Nat
  | (.string bytes, d) => bytes.length + uptoBulk d + 1
  | (_, d) => uptoBulk d + 1
 end
def uptoSmall : (H : Type) → List (DataW H) → Bool := fun _ ds => decide (uptoBulkAll ds ≤ 1048576)
def OpenSpec.upto (s : _root_.Go.ChangeSpec) : _root_.Go.OpenSpec := { _root_.Go.OpenSpec.ofChange s with cond := some uptoSmall }

/-- 'cairnlaw.Sums', WHERE WHAT IT READS IS OF BULK AT MOST 1048576: true; the input reads as it did. -/
def sumsUptoRow : OpenClaim := { program := "ytbagcjlimdilpaagreat", sum := "643f77d8cff5a9e661c5ab0904a54868894959ef6bf0e5a000307e3abe1a4f27", func := "cairn/cairnlaw.Sums", spec := "sums", inPlace := ["maps.clone"], unfollowed := true, recurses := true, apart := false, narrowed := true }
def SumsUptoSaid : Prop := sumsUptoRow.holds Tryz.pinned (OpenSpec.upto sumsSpec)

/-- 'cairnlaw.Checks', WHERE WHAT IT READS IS OF BULK AT MOST 1048576: true; the input reads as it did. -/
def checksUptoRow : OpenClaim := { program := "ytbagcjlimdilpaagreat", sum := "643f77d8cff5a9e661c5ab0904a54868894959ef6bf0e5a000307e3abe1a4f27", func := "cairn/cairnlaw.Checks", spec := "checks", inPlace := ["maps.clone"], unfollowed := true, recurses := true, apart := false, narrowed := true }
def ChecksUptoSaid : Prop := checksUptoRow.holds Tryz.pinned (OpenSpec.upto checksSpec)

/-- 'cairnlaw.Heaps', WHERE WHAT IT READS IS OF BULK AT MOST 1048576: true; the input reads as it did. -/
def heapsUptoRow : OpenClaim := { program := "ytbagcjlimdilpaagreat", sum := "643f77d8cff5a9e661c5ab0904a54868894959ef6bf0e5a000307e3abe1a4f27", func := "cairn/cairnlaw.Heaps", spec := "heaps", inPlace := ["maps.clone"], unfollowed := true, recurses := true, apart := false, narrowed := true }
def HeapsUptoSaid : Prop := heapsUptoRow.holds Tryz.pinned (OpenSpec.upto heapsSpec)

/-- 'cairnkeep.Kept', WHERE WHAT IT READS IS OF BULK AT MOST 1048576: true; the input reads as it did. -/
def keptUptoRow : OpenClaim := { program := "ytbagcjlimdilpaagreat", sum := "643f77d8cff5a9e661c5ab0904a54868894959ef6bf0e5a000307e3abe1a4f27", func := "cairn/cairnkeep.Kept", spec := "kept", inPlace := ["maps.clone"], unfollowed := true, recurses := true, apart := false, narrowed := true }
def KeptUptoSaid : Prop := keptUptoRow.holds Tryz.pinned (OpenSpec.upto keptSpec)

/-- 'cairnkeep.Full', WHERE WHAT IT READS IS OF BULK AT MOST 1048576: true; the input reads as it did. -/
def fullUptoRow : OpenClaim := { program := "ytbagcjlimdilpaagreat", sum := "643f77d8cff5a9e661c5ab0904a54868894959ef6bf0e5a000307e3abe1a4f27", func := "cairn/cairnkeep.Full", spec := "full", inPlace := ["maps.clone"], unfollowed := true, recurses := true, apart := false, narrowed := true }
def FullUptoSaid : Prop := fullUptoRow.holds Tryz.pinned (OpenSpec.upto fullSpec)

/-- 'cairnlaw.All', WHERE WHAT IT READS IS OF BULK AT MOST 1048576: true; the input reads as it did. -/
def allUptoRow : OpenClaim := { program := "ytbagcjlimdilpaagreat", sum := "643f77d8cff5a9e661c5ab0904a54868894959ef6bf0e5a000307e3abe1a4f27", func := "cairn/cairnlaw.All", spec := "all", inPlace := ["maps.clone"], unfollowed := true, recurses := true, apart := false, narrowed := true }
def AllUptoSaid : Prop := allUptoRow.holds Tryz.pinned (OpenSpec.upto allSpec)

/-- 'cairnkeep.Crash', WHERE WHAT IT READS IS OF BULK AT MOST 1048576: true; the input reads as it did. -/
def crashUptoRow : OpenClaim := { program := "ytbagcjlimdilpaagreat", sum := "643f77d8cff5a9e661c5ab0904a54868894959ef6bf0e5a000307e3abe1a4f27", func := "cairn/cairnkeep.Crash", spec := "crash", inPlace := ["maps.clone"], unfollowed := true, recurses := true, apart := false, narrowed := true }
def CrashUptoSaid : Prop := crashUptoRow.holds Tryz.pinned (OpenSpec.upto crashSpec)

/-- 'cairnkeep.Repaired', WHERE WHAT IT READS IS OF BULK AT MOST 1048576: true; the input reads as it did. -/
def repairedUptoRow : OpenClaim := { program := "ytbagcjlimdilpaagreat", sum := "643f77d8cff5a9e661c5ab0904a54868894959ef6bf0e5a000307e3abe1a4f27", func := "cairn/cairnkeep.Repaired", spec := "repaired", inPlace := ["maps.clone"], unfollowed := true, recurses := true, apart := false, narrowed := true }
def RepairedUptoSaid : Prop := repairedUptoRow.holds Tryz.pinned (OpenSpec.upto repairedSpec)

/-- 'cairnkeep.Any', WHERE WHAT IT READS IS OF BULK AT MOST 1048576: true; the input reads as it did. -/
def anyUptoRow : OpenClaim := { program := "ytbagcjlimdilpaagreat", sum := "643f77d8cff5a9e661c5ab0904a54868894959ef6bf0e5a000307e3abe1a4f27", func := "cairn/cairnkeep.Any", spec := "any", inPlace := ["maps.clone"], unfollowed := true, recurses := true, apart := false, narrowed := true }
def AnyUptoSaid : Prop := anyUptoRow.holds Tryz.pinned (OpenSpec.upto anySpec)

/-- 'cairnkeep.Known', WHERE WHAT IT READS IS OF BULK AT MOST 1048576: true; the input reads as it did. -/
def knownUptoRow : OpenClaim := { program := "ytbagcjlimdilpaagreat", sum := "643f77d8cff5a9e661c5ab0904a54868894959ef6bf0e5a000307e3abe1a4f27", func := "cairn/cairnkeep.Known", spec := "known", inPlace := ["maps.clone"], unfollowed := true, recurses := true, apart := false, narrowed := true }
def KnownUptoSaid : Prop := knownUptoRow.holds Tryz.pinned (OpenSpec.upto knownSpec)

/-- 'cairnkeep.Firm', WHERE WHAT IT READS IS OF BULK AT MOST 1048576: true; the input reads as it did. -/
def firmUptoRow : OpenClaim := { program := "ytbagcjlimdilpaagreat", sum := "643f77d8cff5a9e661c5ab0904a54868894959ef6bf0e5a000307e3abe1a4f27", func := "cairn/cairnkeep.Firm", spec := "firm", inPlace := ["maps.clone"], unfollowed := true, recurses := true, apart := false, narrowed := true }
def FirmUptoSaid : Prop := firmUptoRow.holds Tryz.pinned (OpenSpec.upto firmSpec)

end Rows
end Go.Proofs.YtbagcjlimdilpaaGreat
