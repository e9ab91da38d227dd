/- Walks of the document's blocks, object, place, find: they answer as the mathematics says. -/
import Derived.Test.YtbagcjlimdilpabGreatKtJ0
import Derived.Test.YtbagcjlimdilpabGreatKtJ1
import Derived.Deep.LoopGhost
namespace Go.Proofs.YtbagcjlimdilpabGreat
open Go.RowKit

/-- an object as a value -/
abbrev obV (o : Ob) : Value := .agg #[.int .i64 o.block, .int .i64 o.span, .int .i64 o.ptrs]
/-- what the document's 'object' answers -/
def objectV (s : Option (Option Ob)) : Value :=
  match s with
  | none => .tuple #[.agg #[.int .i64 0, .int .i64 0, .int .i64 0], .int .i64 0]
  | some (some o) => .tuple #[obV o, .int .i64 1]
  | some none => .tuple #[.agg #[.int .i64 0, .int .i64 0, .int .i64 0], .int .i64 2]

/-- words that come in, by their plain address -/
theorem rowU_plain {w : World} {a : Option Addr} {ws : List Int} (h : RowU w a ws) (hp : 0 < ws.length) :
    ∃ sb so, a = some ⟨sb, so, none⟩ ∧ sb < w.heap.size ∧ ∀ i, i < ws.length → w.cell? ⟨sb, so + i, none⟩ = some (.int .u64 (wd ws i)) := by
  obtain ⟨x, rfl, h0⟩ := h 0 hp
  obtain ⟨sb, so, spot⟩ := x
  obtain rfl : spot = none := by simpa [Addr.add] using World.cell?_spot h0
  have hlt := World.block_lt_of_cell? w _ h0
  refine ⟨sb, so, rfl, by simpa [Addr.add] using hlt, fun i hi => ?_⟩
  obtain ⟨y, hy, hc⟩ := h i hi
  cases hy
  rw [Addr.add_lit] at hc
  exact hc

end Go.Proofs.YtbagcjlimdilpabGreat

