/- The walk of the law Summed: it returns true, and nothing that was there is written. -/
import Derived.Test.YtbagcjlimdilpaaSumW
import Derived.Laws.AppendOwnNone
import Derived.Deep.QuietTactic
import Derived.BigQuiet
import Derived.Deep.RegionWith
import Derived.Deep.DrawnRows
namespace Go.Proofs.Ytbagcjlimdilpaa
open Go.RowKit Go.ChangeShapes
attribute [local go_sem ↓] Go.wp_at_zero Go.wp_at_succ

theorem Try.info24 : (Try.prog.info? 24).map (fun i => (i.zero, i.size, i.bytes)) = some (some (.int .u64 0), 1, 8) := by kernel_rfl

def us (l : List Int) : List Int := l.map IntKind.u64.wrap
theorem us_U (l : List Int) : ∀ x ∈ us l, U x := by
  intro x hx; simp only [us, List.mem_map] at hx; obtain ⟨y, _, rfl⟩ := hx; exact wrapU y
theorem us_succ (l : List Int) (k : Nat) (h : k < l.length) : us (l.take (k + 1)) = us (l.take k) ++ [IntKind.u64.wrap l[k]] := by
  rw [List.take_succ_eq_append_getElem h]; simp only [us, List.map_append, List.map_cons, List.map_nil]
theorem us_len (l : List Int) (k : Nat) (h : k ≤ l.length) : (us (l.take k)).length = k := by simp [us]; omega

/-- the value v owns the words zs -/
abbrev Owns (w : World) (B : Nat) (v : Value) (zs : List Int) : Prop := w.ownsRow B 24 1 v zs.length (zs.map (Value.int .u64))

theorem rel_push {B k : Nat} {z0 : List Int} {w wr w1 : World} {v v' : Value} {o : Obj} (hk : k < z0.length) (hB : B ≤ wr.heap.size)
    (hown : Owns wr B v (us (z0.take k))) (hnx : Below B w wr)
    (hown' : w1.ownsRow B 24 1 v' ((us (z0.take k)).length + 1) ((us (z0.take k)).map (Value.int .u64) ++ [.int .u64 (IntKind.u64.wrap z0[k])])) (hgrow : (wr.alloc o).grownBy w1 v.ownBlock) :
    Owns w1 B v' (us (z0.take (k + 1))) ∧ Below B w w1 := by
  refine ⟨?_, (hnx.alloc hB o).grown hgrow (by simp; omega) (fun j hj => (hown.lt j hj).1)⟩
  unfold Owns
  rw [us_succ z0 k hk]
  simpa using hown'

theorem calls_same {P : Program} {f : FuncId} {args : Array Value} {w : World} {v : Value} {Q : Ending → World → Prop} (h : Calls P f args w fun e w' => e = .returned v ∧ w' = w) (hQ : Q (.returned v) w) : Calls P f args w Q :=
  h.mono (by rintro e w' ⟨rfl, rfl⟩; exact hQ)
theorem rowU_of_own {w : World} {B g n cap : Nat} {zs : List Int} (h : w.ownsRow B 24 1 (.slice (some ⟨g, 0, none⟩) n cap) n (zs.map (Value.int .u64))) : RowU w (some ⟨g, 0, none⟩) zs := by
  intro i hi
  refine ⟨_, rfl, h.cells rfl i _ ?_⟩
  simp [hi]
theorem sum_own (v : Value) (w : World) (B : Nat) (zs : List Int) (h : Owns w B v zs) :
    Calls Try.prog 4 #[v] w fun e w' => e = .returned (.int .u64 (sumL zs)) ∧ w' = w := by
  rcases h.2 with ⟨rfl, hn⟩ | ⟨g, cap, cur, rfl, hb, hh, hnc, hcm, hcs, htk⟩
  · have : zs = [] := by simpa using hn
    subst this
    exact sum_any none 0 0 [] w rfl (by decide) (fun i hi => absurd hi (by simp))
  · exact sum_any _ _ cap zs w rfl (by omega) (rowU_of_own h)
theorem sum_nil (w : World) : Calls Try.prog 4 #[.slice none 0 0] w fun e w' => e = .returned (.int .u64 0) ∧ w' = w := sum_own _ w 0 [] (World.ownsRow_nil ..)
theorem sum_one (w : World) (b : Nat) (h : w.cell? ⟨b, 0, none⟩ = some (.int .u64 1)) : Calls Try.prog 4 #[.slice (some ⟨b, 0, none⟩) 1 1] w fun e w' => e = .returned (.int .u64 11400714819323198485) ∧ w' = w :=
  (sum_any _ 1 1 [1] w rfl (by decide) (fun i hi => ⟨_, rfl, by
    have : i = 0 := by simpa using hi
    subst this; exact h⟩)).mono (by rintro e w' ⟨rfl, rfl⟩; exact ⟨ret_u (by decide), rfl⟩)

theorem pick_nat (c : Int) (n : Nat) (h : -9223372036854775808 ≤ c ∧ c ≤ 9223372036854775807) (hn : n ≠ 0) (hn1 : n ≤ 9223372036854775807) :
    ∃ k : Nat, k < n ∧ ∀ w, Calls Try.prog 5 #[.int .i64 c, .int .i64 n] w fun e w' => e = .returned (.int .i64 k) ∧ w' = w := by
  have h0 := pickI_nonneg c n (by omega)
  have h1 := pickI_lt c n (by omega)
  refine ⟨(pickI c n).toNat, by omega, fun w => (pick_any c n w h.1 h.2 (by omega) (by omega)).mono ?_⟩
  rintro e w' ⟨rfl, rfl⟩
  exact ⟨ret_i (by omega), rfl⟩
theorem odd_xor {x q : Int} (hx : U x) (hq0 : 0 ≤ q) (hq : q < 4611686018427387904) (h : bits .xor .u64 x (q * 2 + 1) = x) : False := by
  have hy : U (q * 2 + 1) := ⟨by omega, by omega⟩
  rw [xor_eq hx hy] at h
  have h0 := hx.1
  have h' : x.toNat ^^^ (q * 2 + 1).toNat = x.toNat := by omega
  have h2 := congrArg (fun z => x.toNat ^^^ z) h'
  simp only [← Nat.xor_assoc, Nat.xor_self, Nat.zero_xor] at h2
  omega
theorem set_own {w : World} {B g cap k : Nat} {L : List Int} (y : Int) (h : Owns w B (.slice (some ⟨g, 0, none⟩) L.length cap) L) : Owns (w.setCell ⟨g, k, none⟩ (.int .u64 y)).drew B (.slice (some ⟨g, 0, none⟩) L.length cap) (L.set k y) := by
  have := (h.stored k (.int .u64 y)).1.drew
  unfold Owns
  rw [List.length_set, List.map_set]
  exact this
theorem ints_one (L : List Int) : ∀ u ∈ L.map (Value.int .u64), u.oneCell' = true := by
  intro u hu; simp only [List.mem_map] at hu; obtain ⟨x, _, rfl⟩ := hu; rfl
theorem third_cell (w : World) (o1 o2 : Obj) : ∀ j u, [Value.int .u64 5][j]? = some u → (((w.alloc o1).alloc o2).alloc (.cells #[.int .u64 5] 24)).cell? ((⟨w.heap.size + 1 + 1, 0, none⟩ : Addr).add j) = some u := by
  intro j u hj
  match j, hj with
  | 0, hj =>
    simp at hj; subst hj
    exact World.cell?_alloc_at (w := (w.alloc o1).alloc o2) #[.int .u64 5] 24 (w.heap.size + 1 + 1) 0 (by simp)
theorem below_empty {w wr w2 : World} {B : Nat} {o1 o2 o3 : Obj} (hB : B ≤ wr.heap.size) (hnx : Below B w wr)
    (hg : (((wr.alloc o1).alloc o2).alloc o3).grownBy w2 (Value.slice (some ⟨wr.heap.size + 1, 0, none⟩) 0 0).ownBlock) : Below B w w2 :=
  (((hnx.alloc hB o1).alloc (by simp; omega) o2).alloc (by simp; omega) o3).grown hg (by simp; omega) (by intro k hk; simp [Value.ownBlock] at hk; omega)
theorem empty_own (wr : World) (o : Obj) : ((wr.alloc o).alloc (.cells #[] 24)).ownsRow (wr.heap.size + 1) 24 1 (.slice (some ⟨wr.heap.size + 1, 0, none⟩) 0 0) 0 [] := by
  have := World.ownsRow_made (base := wr.heap.size + 1) (e := 24) (size := 1) (wr.alloc o) #[] 0 (by simp) (by decide) (by simp)
  simpa using this
theorem news_own {w : World} {B g n cap : Nat} {xs : List Value} (h : w.ownsRow B 24 1 (.slice (some ⟨g, 0, none⟩) n cap) n xs) : ∀ j u, xs[j]? = some u → w.cell? ((⟨g, 0, none⟩ : Addr).add j) = some u := h.cells rfl
theorem after1 {w wr w1 : World} {B g cap : Nat} {L : List Int} {v1 : Value} {o1 o2 : Obj} (hBr : B ≤ wr.heap.size) (hnx : Below B w wr) (hown : Owns wr B (.slice (some ⟨g, 0, none⟩) L.length cap) L)
    (hown1 : w1.ownsRow (wr.heap.size + 1) 24 1 v1 (0 + L.length) ([] ++ L.map (Value.int .u64)))
    (hg : ((wr.alloc o1).alloc o2).grownBy w1 (Value.slice (some ⟨wr.heap.size + 1, 0, none⟩) 0 0).ownBlock) :
    Owns w1 (wr.heap.size + 1) v1 L ∧ Owns w1 B (.slice (some ⟨g, 0, none⟩) L.length cap) L ∧ Below B w w1 ∧ wr.heap.size + 2 ≤ w1.heap.size := by
  have hlt := (hown.lt g rfl).2
  refine ⟨by simpa using hown1, ((hown.alloc o1).alloc o2).kept hg (.inr ?_), ((hnx.alloc hBr o1).alloc (by simp; omega) o2).grown hg (by simp; omega) ?_, by have := hg.size; simpa using this⟩
  · simp [Value.ownBlock]; omega
  · intro k hk; simp [Value.ownBlock] at hk; omega
theorem after2 {w w1 w2 : World} {B N g cap : Nat} {L : List Int} {v1 v2 : Value} {o : Obj} (hBN : B ≤ N) (hgN : g < N) (hN : N ≤ w1.heap.size) (hown1 : Owns w1 N v1 L) (hnx : Below B w w1) (hown : Owns w1 B (.slice (some ⟨g, 0, none⟩) L.length cap) L)
    (hown2 : w2.ownsRow N 24 1 v2 (L.length + 1) (L.map (Value.int .u64) ++ [.int .u64 5]))
    (hg : (w1.alloc o).grownBy w2 v1.ownBlock) :
    Owns w2 N v2 (L ++ [5]) ∧ Owns w2 B (.slice (some ⟨g, 0, none⟩) L.length cap) L ∧ Below B w w2 := by
  refine ⟨by unfold Owns; simpa using hown2, (hown.alloc o).kept hg (.inr ?_), (hnx.alloc (by omega) o).grown hg (by simp; omega) ?_⟩
  · intro h
    have := (hown1.lt g (by rw [← h]; rfl)).1
    omega
  · intro k hk; have := (hown1.lt k hk).1; omega

set_option maxHeartbeats 1600000 in
set_option maxRecDepth 1000000 in
theorem summed_walk (a0 : Option Addr) (len0 cap0 : Nat) (z0 : List Int) (a1 : Int) (a2 : Int) (w : World)
    (hl : z0.length = len0) (hm : len0 * 8 ≤ 140737488351232) (hc : ∀ i, i < z0.length → ∃ x, a0 = some x ∧ w.cell? (x.add i) = some (.int .i64 (z0.getD i 0)))
    (hlo : -9223372036854775808 ≤ a1 ∧ a1 ≤ 9223372036854775807) (hlo2 : -9223372036854775808 ≤ a2 ∧ a2 ≤ 9223372036854775807) :
    Calls Try.prog 3 #[.slice a0 len0 cap0, .int .i64 a1, .int .i64 a2] w fun e w' => e = .returned (.bool true) ∧ Below w.heap.size w w' := by
  subst hl
  obtain ⟨i0, hi, hz0, hz1, hz2⟩ := info_parts Try.info24
  obtain ⟨B, hBe⟩ : ∃ B, B = w.heap.size := ⟨_, rfl⟩
  have hlt0 : ∀ i, i < z0.length → ∀ x, a0 = some x → x.block < B := by
    intro i hi x hx
    obtain ⟨y, hy, hcy⟩ := hc i hi
    rw [hx] at hy; cases hy
    have h := World.block_lt_of_cell? w _ hcy
    rw [block_add] at h
    omega
  rw [← hBe]
  have HB : Hid (B = w.heap.size) := hBe
  have hBw : B ≤ w.heap.size := by omega
  clear hBe
  go_enter Try.func3, Try.ntmps3
  go_wp2
  go_loopw [7, 8] (fun v i wr => ∃ k : Nat, k ≤ z0.length ∧ i = .int .i64 k ∧ Owns wr B v (us (z0.take k)) ∧ Below B w wr ∧ (k = 0 → v = .slice none 0 0)) (fun _ i _ => z0.length - (intOf i).toNat)
  case atStart => exact ⟨0, Nat.zero_le _, rfl, World.ownsRow_nil _ _ _ _, Below.refl _ _, fun _ => rfl⟩
  case round =>
    obtain ⟨k, hk, rfl, hown, hnx, hnil⟩ := hrel
    have HN : Hid (k = 0 → _) := hnil
    clear hnil
    by_cases hlt : k < z0.length
    · obtain ⟨x, rfl, hcx0⟩ := hc k hlt
      have hcx : wr.cell? (x.add k) = some (.int .i64 (z0.getD k 0)) := (hnx.cell (by rw [block_add]; exact hlt0 k hlt x rfl)).trans hcx0
      clear hcx0 hc hlt0
      have hln := us_len z0 k hk
      have hsz := hnx.size
      go_wp2_with (at_builtin; refine wpList_append_own _ rfl _ _ 23 rfl B 24 i0 (.int .u64 0) 1 8 Try.underlying23 hi hz0 hz1 hz2 rfl (by decide) _ _ _ rfl (hown.alloc _) ⟨wr.heap.size, 0, none⟩ 1 1 [.int .u64 (IntKind.u64.wrap z0[k])] rfl rfl ?c1 ?c2 ?c3 ?c4 ?c5 ?_)
      case c1 =>
        intro j u hj
        match j, hj with
        | 0, hj => simp at hj; subst hj; simp [Addr.add]
      case c2 => intro u hu; simp at hu; subst hu; rfl
      case c3 => unfold maxLen; omega
      case c4 => omega
      case c5 => simp; omega
      intro v' w1 hown' hgrow _
      have R := rel_push hlt (by omega) hown hnx (by rw [hln]; exact hown') hgrow
      clear hown' hgrow hown hcx
      go_wp2
      go_roundw
      case rel => exact ⟨k + 1, by omega, by go_num, R.1, R.2, fun h => absurd h (by omega)⟩
      case measure => simp [intOf]; omega
    · have hkl : k = z0.length := by omega
      subst hkl
      rw [List.take_length] at hown
      have hsz := hnx.size
      obtain ⟨L, hL⟩ : ∃ L, L = us z0 := ⟨_, rfl⟩
      have hLm : L.length * 8 ≤ 140737488351232 := by rw [hL]; simpa [us] using hm
      have HLz : Hid (L.length = z0.length) := by rw [hL]; exact List.length_map _
      have hLU : ∀ x ∈ L, U x := by rw [hL]; exact us_U z0
      rw [← hL] at hown
      clear hc hlt0 hL hm
      by_cases hz : L.length = 0
      · have hL0 : L = [] := List.length_eq_zero_iff.mp hz
        subst hL0
        obtain rfl := HN.out HLz.out.symm
        · clear hz hLm hLU HN
          have hmore : sumL [5] = 1663341875487337577 := by decide
          go_wp2_with (first
            | (go_at_call 4; refine calls_same (sum_nil wr) ?_)
            | (go_at_call 4; refine calls_same (sum_one (wr.alloc (.cells #[.int .u64 1] 24)) wr.heap.size (by simp)) ?_)
            | (go_at_call 4; refine calls_same (sum_nil (wr.alloc (.cells #[.int .u64 1] 24))) ?_)
            | (at_builtin; refine wpList_append_own_none rfl (.tmp 34) (.tmp 35) 23 rfl (wr.heap.size + 1) 24 i0 1 Try.underlying23 hi _ _ _ rfl (empty_own wr _) rfl ?_)
            | (at_builtin; refine wpList_append_own _ rfl (.tmp 36) (.tmp 37) 23 rfl (wr.heap.size + 1) 24 i0 (.int .u64 0) 1 8 Try.underlying23 hi hz0 hz1 hz2 rfl (by decide) _ _ _ rfl ((empty_own wr _).alloc _) ⟨wr.heap.size + 1 + 1, 0, none⟩ 1 1 [.int .u64 5] rfl rfl (third_cell wr _ _) (ints_one [5]) (by unfold maxLen; omega) (by omega) (by simp <;> omega) ?_; intro v2 w2 hown2 hgrow2 _; have hb2 := below_empty (by omega) hnx hgrow2)
            | (go_at_call 4; refine calls_same (sum_own v2 w2 (wr.heap.size + 1) [5] hown2) ?_)
            | fail)
          go_ret
          exact ⟨rfl, hb2⟩
      · rcases hown.2 with ⟨rfl, hn⟩ | ⟨g, cap, cur, rfl, hb, hh, hnc, hcm, hcs, htk⟩
        · omega
        · clear hh hcs htk cur
          have hgN := (hown.lt g rfl).2
          have hmore : sumL (L ++ [5]) = IntKind.u64.wrap (bits .xor .u64 (bits .or .u64 (IntKind.u64.wrap (sumL L * 512)) (sumL L / 36028797018963968)) 5 * 11400714819323198485) := sumL_snoc L 5
          obtain ⟨kk, hkk, hpick⟩ := pick_nat a1 L.length hlo hz (by omega)
          obtain ⟨q, hq, hpick2⟩ := pick_nat a2 4611686018427387904 hlo2 (by decide) (by decide)
          have hki : (0 : Int) ≤ (kk : Int) := by omega
          have hki2 : (kk : Int) < (L.length : Int) := by omega
          go_wp2_with (first
            | (go_at_call 4; refine calls_same (sum_nil wr) ?_)
            | (go_at_call 4; refine calls_same (sum_one (wr.alloc (.cells #[.int .u64 1] 24)) wr.heap.size (by simp)) ?_)
            | (go_at_call 4; refine calls_same (sum_own (.slice (some ⟨g, 0, none⟩) L.length cap) (wr.alloc (.cells #[.int .u64 1] 24)) B L (hown.alloc _)) ?_)
            | (at_builtin; refine wpList_append_own _ rfl (.tmp 34) (.tmp 35) 23 rfl (wr.heap.size + 1) 24 i0 (.int .u64 0) 1 8 Try.underlying23 hi hz0 hz1 hz2 rfl (by decide) _ _ _ rfl (empty_own wr _) ⟨g, 0, none⟩ L.length cap (L.map (Value.int .u64)) rfl (by simp) (news_own ((hown.alloc _).alloc _)) (ints_one L) (by unfold maxLen; omega) (by omega) (by simp) ?_; intro v1 w1 hown1 hgrow1 _; obtain ⟨ho1, ho, hb1, hs1⟩ := after1 (by omega) hnx hown hown1 hgrow1; clear hown1 hgrow1)
            | (at_builtin; refine wpList_append_own _ rfl (.tmp 36) (.tmp 37) 23 rfl (wr.heap.size + 1) 24 i0 (.int .u64 0) 1 8 Try.underlying23 hi hz0 hz1 hz2 rfl (by decide) _ _ _ rfl (ho1.alloc _) ⟨w1.heap.size, 0, none⟩ 1 1 [.int .u64 5] rfl rfl (by intro j u hj; match j, hj with | 0, hj => simp at hj; subst hj; simp [Addr.add]) (by intro u hu; simp at hu; subst hu; rfl) (by unfold maxLen; omega) (by omega) (by simp; omega) ?_; intro v2 w2 hown2 hgrow2 _; obtain ⟨ho2, ho', hb2⟩ := after2 (by omega) (by omega) (by omega) ho1 hb1 ho hown2 hgrow2; clear hown2 hgrow2)
            | (go_at_call 4; refine calls_same (sum_own v2 w2 (wr.heap.size + 1) (L ++ [5]) ho2) ?_)
            | (go_at_call 5; refine calls_same (hpick w2) ?_; clear hmore)
            | fail)
          have hcl : w2.cell? ⟨g, kk, none⟩ = some (.int .u64 L[kk]) := (ho'.cellAt kk (by omega)).trans (by simp [hkk])
          have hfr : w2.frozen? ⟨g, kk, none⟩ = false := ho'.frozenAt kk
          clear hpick ho1 ho hb1 hs1 hnx hown hz
          have hw1 : IntKind.u64.wrap (q : Int) = q := by rw [IntKind.wrap_u64]; omega
          have hw2 : IntKind.u64.wrap ((q : Int) * 2) = q * 2 := by rw [IntKind.wrap_u64]; omega
          have hw3 : IntKind.u64.wrap ((q : Int) * 2 + 1) = q * 2 + 1 := by rw [IntKind.wrap_u64]; omega
          have hfin := set_own (k := kk) (bits .xor .u64 L[kk] ((q : Int) * 2 + 1)) ho'
          have hU : U L[kk] := hLU _ (List.getElem_mem _)
          have hne : (sumL (L.set kk (bits .xor .u64 L[kk] ((q : Int) * 2 + 1))) != sumL L) = true := by
            rw [bne_iff_ne]
            intro h
            exact odd_xor hU (by omega) (by omega) (sumL_set L hLU kk hkk _ (xor_U hU ⟨by omega, by omega⟩) h)
          have hbel : Below B w (w2.setCell ⟨g, kk, none⟩ (.int .u64 (bits .xor .u64 L[kk] ((q : Int) * 2 + 1)))).drew := (hb2.setCell (by exact hb) _).drew
          have HF : Hid (Owns (w2.setCell ⟨g, kk, none⟩ (.int .u64 (bits .xor .u64 L[kk] ((q : Int) * 2 + 1)))).drew B (.slice (some ⟨g, 0, none⟩) L.length cap) (L.set kk (bits .xor .u64 L[kk] ((q : Int) * 2 + 1)))) := hfin
          clear hfin
          go_region_with (go_at_call 5; refine calls_same (hpick2 _) ?_)
          all_goals
            go_wp2_with (go_at_call 4; refine calls_same (sum_own _ _ B _ HF.out) ?_)
            go_ret
            exact ⟨rfl, hbel⟩
end Go.Proofs.Ytbagcjlimdilpaa
