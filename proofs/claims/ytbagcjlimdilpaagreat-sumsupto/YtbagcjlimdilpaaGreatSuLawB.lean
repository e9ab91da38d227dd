/- The walk of back: a lent list reads as it was, with what is behind it; then its owner writes over it. -/
import Derived.Test.YtbagcjlimdilpaaGreatSuLawL
namespace Go.Proofs.YtbagcjlimdilpaaGreat
open Go.RowKit

def over (zs : List Int) (k : Nat) : List Int := List.replicate k 550055 ++ (withEight zs).drop k
theorem withEight_len (zs : List Int) : (withEight zs).length = zs.length + 8 := by simp [withEight]
theorem over_len (zs : List Int) (k : Nat) (h : k ≤ zs.length + 8) : (over zs k).length = zs.length + 8 := by simp [over, withEight_len]; omega
theorem over_zero (zs : List Int) : over zs 0 = withEight zs := by simp [over]
theorem over_set (zs : List Int) (k : Nat) (h : k < zs.length + 8) : (over zs k).set k 550055 = over zs (k + 1) := by
  unfold over
  rw [List.set_append_right _ _ (by simp)]
  simp only [List.length_replicate, Nat.sub_self]
  rw [List.drop_eq_getElem_cons (by rw [withEight_len]; exact h), List.set_cons_zero, List.replicate_succ' (n := k)]
  simp
theorem over_get (zs : List Int) (k : Nat) (h : k < zs.length + 8) (h2 : zs.length ≤ k) (hb : k < (over zs k).length) : (over zs k)[k] = 770077 := by
  have e : (over zs k)[k]? = some 770077 := by
    unfold over withEight
    rw [List.getElem?_append_right (by simp), List.length_replicate, Nat.sub_self, List.getElem?_drop, Nat.add_zero, List.getElem?_append_right h2]
    exact List.getElem?_replicate_of_lt (by omega)
  rw [List.getElem?_eq_getElem hb] at e
  exact Option.some.inj e

set_option maxRecDepth 100000 in
theorem back_true (g : Nat) (a : Option Addr) (cap : Nat) (zs : List Int) (w : World) (hm : zs.length ≤ 1048576) (hr : Row w g (withEight zs)) (hc : RowU w a zs) :
    Calls Tryz.prog 122 #[.slice (some ⟨g, 0, none⟩) (zs.length + 8) (zs.length + 8), .slice a zs.length cap] w fun e w' => e = .returned (.bool true) ∧ Fr (fun k => k = g) w w' := by
  have hl : RowU w (some ⟨g, 0, none⟩) zs := by
    have := rowU_take hr.rowU zs.length
    rwa [show (withEight zs).take zs.length = zs by simp [withEight]] at this
  have HS : Hid (Calls Tryz.prog 87 #[.slice (some ⟨g, 0, none⟩) zs.length (zs.length + 8), .slice a zs.length cap] w fun e w' => e = .returned (.bool true) ∧ ∃ n, w' = w.drewN n) :=
    same_true _ _ _ _ zs w (by unfold maxLen; omega) hl hc
  clear hl hc
  go_enter Tryz.func122, Tryz.ntmps122
  go_wp2_with (go_at_call 87; refine HS.out.mono ?_; rintro e w1 ⟨rfl, n0, hw1⟩)
  subst hw1
  go_loopw [6, 7] (fun t i wr => ∃ k : Nat, k ≤ zs.length + 8 ∧ t = .bool true ∧ i = .int .i64 k ∧ Row wr g (over zs k) ∧ Fr (fun k => k = g) w wr) (fun _ i _ => zs.length + 8 - (intOf i).toNat)
  case atStart => exact ⟨0, by omega, rfl, rfl, by rw [over_zero]; exact hr, (Fr.refl _ _).drewN _⟩
  case round =>
    obtain ⟨k, hk, rfl, rfl, hrk, hf⟩ := hrel
    clear hr HS
    by_cases hlt : k < zs.length + 8
    · have hset := hrk.set k 550055
      rw [over_set zs k hlt] at hset
      have HR : Hid (Row _ _ _) := hset
      have hf' := hf.setCell (p := ⟨g, k, none⟩) (fun _ => rfl) (.int .u64 550055)
      have hfz := hrk.free k
      by_cases hn : k < zs.length
      · have hcl := hrk.cell k (by rw [over_len _ _ hk]; exact hlt)
        clear hset hrk
        go_wp2
        go_roundw
        case rel => exact ⟨k + 1, by omega, rfl, by go_num, HR.out, hf'⟩
        case measure => simp [intOf]; omega
      · have hcl := hrk.cell k (by rw [over_len _ _ hk]; exact hlt)
        rw [over_get zs k hlt (by omega)] at hcl
        clear hset hrk
        go_wp2
        go_roundw
        case rel => exact ⟨k + 1, by omega, rfl, by go_num, HR.out, hf'⟩
        case measure => simp [intOf]; omega
    · go_wp2
      go_ret
      exact ⟨rfl, hf⟩
end Go.Proofs.YtbagcjlimdilpaaGreat
