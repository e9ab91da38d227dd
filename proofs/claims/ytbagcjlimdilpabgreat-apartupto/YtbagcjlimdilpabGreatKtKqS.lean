/- How a list of raw numbers that comes in lies in memory, with its bound. -/
import Derived.Test.YtbagcjlimdilpabGreatKtJ20
import Derived.OpenShut
namespace Go.Proofs.YtbagcjlimdilpabGreat
open Go.RowKit Go.ChangeShapes Go.Deep

theorem Tryz.kcells3 : Tryz.prog.cellsOf 3 = 1 := by kernel_rfl
section
variable {H : Type} {enc : TypeId × Value → H} {w : World} {base : Nat} {held : Bool}
theorem raw_one_le (d : DataW H) : 1 ≤ Rows.uptoBulk d := by
  cases d with
  | lit l => cases l <;> simp [Rows.uptoBulk]
  | nil => simp [Rows.uptoBulk]
  | ptr d => simp [Rows.uptoBulk]
  | slice elems spare => simp [Rows.uptoBulk]
  | agg parts => simp [Rows.uptoBulk]
  | iface t d => simp [Rows.uptoBulk]
  | map entries => simp [Rows.uptoBulk]
  | held h => simp [Rows.uptoBulk]
theorem raw_length_le (l : List (DataW H)) : l.length ≤ Rows.uptoBulkAll l := by
  induction l with
  | nil => simp [Rows.uptoBulkAll]
  | cons x r ih => have := raw_one_le x; simp only [Rows.uptoBulkAll, List.length_cons]; omega
theorem i64_wf {n : Int} (h : (Lit.int .i64 n).wf = true) : I64 n := bounds_i64 h
theorem raw_I64 {z : List Int} (h : ∀ x ∈ z, I64 x) (i : Nat) : I64 (z.getD i 0) := by
  by_cases hi : i < z.length
  · rw [List.getD_eq_getElem?_getD, List.getElem?_eq_getElem hi]
    exact h _ (List.getElem_mem hi)
  · rw [List.getD_eq_getElem?_getD, List.getElem?_eq_none (by omega)]
    show I64 0
    unfold I64
    omega
theorem open_raw {n : Nat} {c : Value} {y : DataW H × List MemPlace} (h : DataW.trod enc Tryz.prog w base (fun _ => true) held n 22 [c] = some y) :
    ∃ a cap zs, c = .slice a zs.length cap ∧ RawAt w a zs ∧ zs.length ≤ Rows.uptoBulk y.1 ∧ ∀ i, I64 (zs.getD i 0) := by
  rcases open_ints Tryz.underlying22 Tryz.underlying3 Tryz.kcells3 h with ⟨hcs, hx⟩ | ⟨a, len, cap, zs, hcs, _, hl, hm, hz, hx, hcell, hwz⟩
  · refine ⟨none, 0, [], by simpa using hcs, (fun i hi => by simp at hi), by simp, fun i => raw_I64 (fun z hz => by cases hz) i⟩
  · simp only [if_true] at hz
    have hlen : (zs.take len).length = len := by simp; omega
    refine ⟨some a, cap, zs.take len, by rw [hlen]; simpa using hcs, ?_, ?_, fun i => raw_I64 (fun z hz' => i64_wf (hwz z (List.mem_of_mem_take hz'))) i⟩
    · intro i hi
      have hi1 : i < len := by rw [hlen] at hi; exact hi
      refine ⟨a, rfl, (hcell i (by omega)).trans ?_⟩
      rw [List.getD_eq_getElem?_getD, List.getD_eq_getElem?_getD, List.getElem?_take_of_lt hi1]
    · rw [hx]
      have := raw_length_le (lits (H := H) .i64 (zs.take len))
      simp only [Rows.uptoBulk]
      simp only [lits, List.length_map] at this
      simp only [lits]
      omega
end
end Go.Proofs.YtbagcjlimdilpabGreat

