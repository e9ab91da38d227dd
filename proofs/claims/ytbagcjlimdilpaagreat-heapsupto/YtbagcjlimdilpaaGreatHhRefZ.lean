/- The document's Commit with up to 48 records: rows that its walk reads. -/
import Derived.Test.YtbagcjlimdilpaaGreatHhJ10
import Derived.Deep.RegionHeld3
namespace Go.Proofs.YtbagcjlimdilpaaGreat
open Go.RowKit

def sumW (nx : List Int) (ps : List Nat) (r : Nat) : List Int := (ps.length : Int) :: (List.range r).flatMap (fun j => [((ps.getD j 0 : Nat) : Int), wd nx (ps.getD j 0)])
theorem sumW_succ (nx : List Int) (ps : List Nat) (r : Nat) : sumW nx ps (r + 1) = sumW nx ps r ++ [((ps.getD r 0 : Nat) : Int), wd nx (ps.getD r 0)] := by simp [sumW, List.range_succ]
theorem sumW_len (nx : List Int) (ps : List Nat) (r : Nat) : (sumW nx ps r).length = 1 + 2 * r := by
  induction r with
  | zero => rfl
  | succ r ih => rw [sumW_succ, List.length_append, ih]; simp; omega
theorem Going.pcell {w : World} {hb gw cw L : Nat} {vn vs0 : Value} {gx cx : Nat} {nx : List Int} {va : Option Addr} {D vc : Nat} {ps : List Nat} {vs : Value} {cur : List Int} {st : List St} {wr : World} (h : Going w hb gw cw L vn vs0 gx cx nx (.slice va D vc) ps vs cur st wr) (r : Nat) (hr : r < ps.length) : ∃ gp, va = some ⟨gp, 0, none⟩ := by
  rcases h.p.2 with ⟨hv, hn⟩ | ⟨g', cap, cu, hv, _⟩
  · omega
  · cases hv; exact ⟨g', rfl⟩
theorem Going.pcellAt {w : World} {hb gw cw L : Nat} {vn vs0 : Value} {gx cx : Nat} {nx : List Int} {gp D vc : Nat} {ps : List Nat} {vs : Value} {cur : List Int} {st : List St} {wr : World} (h : Going w hb gw cw L vn vs0 gx cx nx (.slice (some ⟨gp, 0, none⟩) D vc) ps vs cur st wr) (r : Nat) (hr : r < ps.length) : wr.cell? ⟨gp, r, none⟩ = some (.int .i64 ((ps.getD r 0 : Nat) : Int)) := by
  have hp := h.p
  obtain ⟨_, _, hv⟩ := own_slice hp
  simp only [Value.slice.injEq] at hv
  obtain ⟨_, rfl, _⟩ := hv
  have h1 := World.ownsRow.cellAt hp r (by omega)
  rw [h1]
  simp [hr, List.getD]
end Go.Proofs.YtbagcjlimdilpaaGreat
