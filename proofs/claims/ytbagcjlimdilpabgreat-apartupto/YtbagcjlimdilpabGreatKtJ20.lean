/- Texts that follow one another, joined. -/
import Derived.Test.YtbagcjlimdilpabGreatKtKqL
import Derived.Test.YtbagcjlimdilpabGreatKtKqN
import Derived.Test.YtbagcjlimdilpabGreatKtJ18
import Derived.Deep.RegionHeld3
/- A story's play: every change of raw numbers. -/
namespace Go.Proofs.YtbagcjlimdilpabGreat
open Go.RowKit Go.Maps

/-- a play that writes, or reads a pointer -/
theorem play_write (F : Nat → Prop) (sb n : Nat) (ws now : List Int) (sts : List St) (what a b c : Int) (w : World) (hw : I64 what) (ha : I64 a) (hb : I64 b) (hc : I64 c) (h : Story F sb n ws now sts w) (hne : (things now).length ≠ 0) (hv : pickN what 8 = 3 ∨ pickN what 8 = 4) :
    Calls Tryz.prog 5 #[.pointer (some ⟨sb, 0, none⟩), .int .i64 what, .int .i64 a, .int .i64 b, .int .i64 c] w fun e w' => e = .returned (.bool true) ∧ PlayedW F sb n ws now sts w w' := by
  have hk := pickN_lt a hne
  by_cases hd : pickN b ((things now)[pickN a (things now).length]).2.length < ((things now)[pickN a (things now).length]).1.ptrs
  · by_cases h5 : pickN c 5 = 0
    · rcases hv with hv | hv
      · exact play_write_z3 F sb n ws now sts what a b c w hw ha hb hc (fun _ => hd) h5 h hne hv
      · exact play_write_z4 F sb n ws now sts what a b c w hw ha hb hc (fun _ => hd) h5 h hne hv
    · rcases hv with hv | hv
      · exact play_write_p3 F sb n ws now sts what a b c w hw ha hb hc (fun _ => hd) h5 h hne hv
      · exact play_write_p4 F sb n ws now sts what a b c w hw ha hb hc (fun _ => hd) h5 h hne hv
  · rcases hv with hv | hv
    · exact play_write_d3 F sb n ws now sts what a b c w hw ha hb (fun _ => hd) h hne hv
    · exact play_write_d4 F sb n ws now sts what a b c w hw ha hb (fun _ => hd) h hne hv
/-- EVERY PLAY: the answer is as it must be, and a story is left -/
theorem kplay_any (F : Nat → Prop) (sb n : Nat) (ws now : List Int) (sts : List St) (what a b c : Int) (w : World) (hw : I64 what) (ha : I64 a) (hb : I64 b) (hc : I64 c) (hlen : sts.length ≤ 1099511000000) (h : Story F sb n ws now sts w) :
    Calls Tryz.prog 5 #[.pointer (some ⟨sb, 0, none⟩), .int .i64 what, .int .i64 a, .int .i64 b, .int .i64 c] w fun e w' => e = .returned (.bool true) ∧ Played F sb n sts w w' := by
  by_cases hne : (things now).length = 0
  · exact play_none F sb n ws now sts what a b c w ha hb h hne
  · have h8 := pickN_lt what (n := 8) (by omega)
    have hk := pickN_lt a hne
    rcases (show pickN what 8 = 0 ∨ pickN what 8 = 1 ∨ pickN what 8 = 2 ∨ (pickN what 8 = 3 ∨ pickN what 8 = 4) ∨ pickN what 8 = 5 ∨ pickN what 8 = 6 ∨ pickN what 8 = 7 by omega) with hv | hv | hv | hv | hv | hv | hv
    · exact play_more F sb n ws now sts what a b c w hw ha hb h hne hv
    · exact play_more1 F sb n ws now sts what a b c w hw ha hb h hne hv
    · by_cases hH : HeldBy now (objs now) ((((things now)[pickN a (things now).length]).1.block + 1 : Nat) : Int)
      · exact play_free_held F sb n ws now sts what a b c w hw ha (fun _ => hH) h hne hv
      · exact play_free F sb n ws now sts what a b c w hw ha (fun _ => hH) h hne hv
    · refine (play_write F sb n ws now sts what a b c w hw ha hb hc h hne hv).mono ?_
      rintro e w' ⟨rfl, hp⟩
      exact ⟨rfl, hp.played⟩
    · by_cases hz : pickN c 4 = 0
      · exact play_root0 F sb n ws now sts what a b c w hw ha hb hc hz h hne hv
      · exact play_root F sb n ws now sts what a b c w hw ha hb hc hz h hne hv
    · by_cases hz : pickN b 3 = 0
      · exact play_back F sb n ws now sts what a b c w hw ha hb hz h hne hv
      · exact play_stay F sb n ws now sts what a b c w hw ha hb hz h hne hv
    · exact play_commit F sb n ws now sts what a b c w hw ha hlen h hne hv
end Go.Proofs.YtbagcjlimdilpabGreat

/- The walk of the law Kept. -/
namespace Go.Proofs.YtbagcjlimdilpabGreat
open Go.RowKit Go.Maps

theorem add_succ (ad : Addr) (j : Nat) : ad.add (j + 1) = ⟨ad.block, ad.off + (j + 1), none⟩ := by
  unfold Addr.add
  rw [if_neg (by omega)]
/-- raw numbers that lie in memory -/
def RawAt (w : World) (a : Option Addr) (z : List Int) : Prop := ∀ i, i < z.length → ∃ x, a = some x ∧ w.cell? (x.add i) = some (.int .i64 (z.getD i 0))
theorem RawAt.fr {w w' : World} {a : Option Addr} {z : List Int} (h : RawAt w a z) (hf : Fr New w w') : RawAt w' a z := fun i hi => by
  obtain ⟨x, e, hc⟩ := h i hi
  exact ⟨x, e, hf.cell hc id⟩
theorem is_self {now : List Int} (g : Good now) : IsIt now (things now) (wd now 3) (wd now 4) (wd now 5) (wd now 6) := by
  refine ⟨rfl, fun k hk => ?_⟩
  rw [wrap_small (root_small g hk)]
  match k, hk with
  | 0, _ => rfl
  | 1, _ => rfl
  | 2, _ => rfl
  | 3, _ => rfl
/-- a heap that has the shape of its words -/
theorem kis_self (hb tb cb mb g : Nat) (vs : Value) (ws now a : List Int) (st : List St) (vt : Value) (us : List Value) (w : World) (h : PH hb tb cb mb g vs ws now st w) (ha : Like now a) (hg : Good a) (ht : ThAt w vt (things a) us) :
    Calls Tryz.prog 11 #[.pointer (some ⟨hb, 0, none⟩), .agg #[vt, .int .i64 (wd a 3), .int .i64 (wd a 4), .int .i64 (wd a 5), .int .i64 (wd a 6)]] w fun e w' => e = .returned (.bool true) ∧ Fr New w w' := by
  refine (kis_any hb tb cb mb g vs ws now st vt (things a) us _ _ _ _ w h ht).mono ?_
  rintro e w' ⟨b, rfl, hb', hf⟩
  obtain ⟨q1, q2⟩ := is_self hg
  rw [hb'.2 ⟨(things_like ha).symm, fun k hk => by rw [ha.roots k hk]; exact q2 k hk⟩]
  exact ⟨rfl, hf⟩

end Go.Proofs.YtbagcjlimdilpabGreat

