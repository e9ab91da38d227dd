/- The walk of the book's call 'words'. -/
import Derived.Test.YtbagcjlimdilpaaGreatKtJ1
import Derived.Deep.RegionLaw
import Derived.Deep.DrawnRows
namespace Go.Proofs.YtbagcjlimdilpaaGreat
open Go.RowKit
attribute [local go_sem ↓] Go.wp_at_zero Go.wp_at_succ

theorem Tryz.info146 : (Tryz.prog.info? 146).map (fun i => (i.zero, i.size, i.bytes)) = some (some (.agg #[.slice none 0 0, .slice none 0 0, .slice none 0 0, .slice none 0 0, .int .u64 0]), 5, 104) := by kernel_rfl

def part (zs : List Int) (m : Int) (k : Nat) : List Int := List.replicate k m ++ zs.drop k
theorem part_zero (zs : List Int) (m : Int) : part zs m 0 = zs := by simp [part]
theorem part_len (zs : List Int) (m : Int) (k : Nat) (h : k ≤ zs.length) : (part zs m k).length = zs.length := by simp [part]; omega
theorem part_all (zs : List Int) (m : Int) : part zs m zs.length = List.replicate zs.length m := by simp [part]
theorem part_set (zs : List Int) (m : Int) (k : Nat) (h : k < zs.length) : (part zs m k).set k m = part zs m (k + 1) := by
  unfold part
  rw [List.set_append_right _ _ (by simp)]
  simp only [List.length_replicate, Nat.sub_self]
  rw [List.drop_eq_getElem_cons h, List.set_cons_zero, List.replicate_succ' (n := k)]
  simp

/-- what 'words' keeps while it writes the list full -/
structure Writing (w : World) (b n : Nat) (vws vhs vb vss vos : Value) (ao : Option Addr) (zs : List Int) (B nb : Nat) (cells : List Value) (wr : World) : Prop where
  bk : Wb wr b vws vhs n vb vss vos
  l : LR wr ao zs
  own : wr.ownsRow B 146 5 vb nb cells
  fr : Fr (Turned b ao vb) w wr

theorem Writing.count {w : World} {b n : Nat} {vws vhs vb vss vos : Value} {ao : Option Addr} {zs : List Int} {B nb : Nat} {cells : List Value} {wr : World} (h : Writing w b n vws vhs vb vss vos ao zs B nb cells wr) (k : Nat) :
    Writing w b k vws vhs vb vss vos ao zs B nb cells (wr.setCell ⟨b, 2, none⟩ (.int .i64 k)) := by
  have hf : Fr (fun k => k = b) wr (wr.setCell ⟨b, 2, none⟩ (.int .i64 k)) := (Fr.refl (fun k => k = b) wr).setCell (p := ⟨b, 2, none⟩) (fun _ => rfl) _
  have hX : ∀ g cur t, t ≠ 88 → wr.heap[g]? = some (.cells cur t (0, 0)) → ¬ g = b := by
    rintro g cur t ht hg rfl
    rw [h.bk] at hg
    simp only [Option.some.injEq, Obj.cells.injEq] at hg
    exact ht hg.2.1.symm
  refine ⟨(heap_setCell_same wr b 2 _ _ _ h.bk).trans (by simp), h.l.fr hf ?_, hf.owns h.own ?_, h.fr.setCell (fun _ => .inl rfl) _⟩
  · rintro g rfl
    rcases h.l with ⟨h', _⟩ | ⟨g', hg', hr⟩
    · cases h'
    · cases hg'; exact hX _ _ _ (by decide) hr
  · intro g hg
    rcases h.own.2 with ⟨rfl, _⟩ | ⟨g', cap, cur, rfl, _, hh, _⟩
    · cases hg
    · simp [Value.ownBlock] at hg; subst hg; exact hX _ _ _ (by decide) hh
theorem Writing.put {w : World} {b n : Nat} {vws vhs vb vss vos : Value} {g : Nat} {zs : List Int} {B nb : Nat} {cells : List Value} {wr : World} (h : Writing w b n vws vhs vb vss vos (some ⟨g, 0, none⟩) zs B nb cells wr) (k : Nat) (m : Int) :
    Writing w b n vws vhs vb vss vos (some ⟨g, 0, none⟩) (zs.set k m) B nb cells (wr.setCell ⟨g, k, none⟩ (.int .u64 m)) := by
  have hf : Fr (fun k => k = g) wr (wr.setCell ⟨g, k, none⟩ (.int .u64 m)) := (Fr.refl (fun k => k = g) wr).setCell (p := ⟨g, k, none⟩) (fun _ => rfl) _
  have hr : Row wr g zs := by
    rcases h.l with ⟨h', _⟩ | ⟨g', hg', hr⟩
    · cases h'
    · cases hg'; exact hr
  have hX : ∀ g' cur t, t ≠ 50 → wr.heap[g']? = some (.cells cur t (0, 0)) → ¬ g' = g := by
    rintro g' cur t ht hg rfl
    rw [show wr.heap[g']? = _ from hr] at hg
    simp only [Option.some.injEq, Obj.cells.injEq] at hg
    exact ht hg.2.1.symm
  refine ⟨hf.heap h.bk (hX _ _ _ (by decide) h.bk), .inr ⟨g, rfl, hr.set k m⟩, hf.owns h.own ?_, h.fr.setCell (fun _ => .inr (.inl rfl)) _⟩
  intro g' hg
  rcases h.own.2 with ⟨rfl, _⟩ | ⟨g'', cap, cur, rfl, _, hh, _⟩
  · cases hg
  · simp [Value.ownBlock] at hg; subst hg; exact hX _ _ _ (by decide) hh
/-- the new entry is laid behind -/
theorem Writing.mid {w : World} {b n : Nat} {vws vhs vb vss vos : Value} {ao : Option Addr} {len : Nat} {m : Int} {B nb : Nat} {cells : List Value} {wr : World} (h : Writing w b n vws vhs vb vss vos ao (List.replicate len m) B nb cells wr)
    (hb : b < w.heap.size) (hv : ∀ g, vb.ownBlock = some g → g < w.heap.size) (hm : len ≤ maxLen) (xs : Array Value) :
    Mid w b wr.heap.size n vws vhs vb vss vos ao len m B nb cells xs [.slice ao len len] (wr.alloc (.cells xs 146)) := by
  have hf : Fr New wr (wr.alloc (.cells xs 146)) := (Fr.refl _ _).alloc _
  refine ⟨Go.Deep.blk_alloc_new wr _, hf.heap h.bk id, h.l.fr hf (fun _ _ h => h), hf.owns h.own (fun _ _ h => h), h.fr.same hf, h.fr.size, hb, hv, ?_⟩
  intro v hv
  obtain rfl : v = .slice ao len len := by simpa using hv
  refine ⟨len, ?_⟩
  have := (h.l.fr hf (fun _ _ h => h)).own (by simpa using hm)
  simpa using this

/-- behind the last append -/
structure Late (w : World) (b n : Nat) (vws vhs vb vss vos : Value) (ao : Option Addr) (m : Int) (fs : List Value) (w4 : World) : Prop where
  bk : Wb w4 b vws vhs n vb vss vos
  full : ∀ v ∈ fs, Full w4 v m
  fr : Fr (Turned b ao vb) w w4
theorem Mid.app {w : World} {b X n : Nat} {vws vhs vb vss vos : Value} {ao : Option Addr} {len : Nat} {m : Int} {B nb : Nat} {cells : List Value} {xs : Array Value} {fs : List Value} {wX : World}
    (h : Mid w b X n vws vhs vb vss vos ao len m B nb cells xs fs wX) {w3 w4 : World} (hf : Fr New wX w3) (hg : w3.grownBy w4 vb.ownBlock) : Late w b n vws vhs vb vss vos ao m fs w4 := by
  have h3 := h.grow hf
  have hf4 : Fr (fun k => vb.ownBlock = some k) w3 w4 := (Fr.refl _ _).grown hg (fun k _ hk => hk)
  have hX : ∀ g cur t, t ≠ 146 → w3.heap[g]? = some (.cells cur t (0, 0)) → ¬ vb.ownBlock = some g := by
    intro g cur t ht hg hv
    rcases h3.own.2 with ⟨rfl, _⟩ | ⟨g', cap, cur', rfl, _, hh, _⟩
    · cases hv
    · simp [Value.ownBlock] at hv; subst hv
      rw [hh] at hg
      simp only [Option.some.injEq, Obj.cells.injEq] at hg
      exact ht hg.2.1.symm
  exact ⟨hf4.heap h3.bk (hX _ _ _ (by decide) h3.bk), fun v hv => (h3.full v hv).fr hf4 (fun g cur hg => hX g cur _ (by decide) hg), h3.fr.trans hf4 (fun j _ hj => .inr (.inr hj))⟩
theorem Late.last {w : World} {b n : Nat} {vws vhs vb vss vos : Value} {ao : Option Addr} {m : Int} {fs : List Value} {w4 : World} (h : Late w b n vws vhs vb vss vos ao m fs w4) {B nb : Nat} {vb' : Value} {cells : List Value}
    (ho : w4.ownsRow B 146 5 vb' nb cells) :
    Wb (w4.setCell ⟨b, 3, none⟩ vb') b vws vhs n vb' vss vos ∧ (w4.setCell ⟨b, 3, none⟩ vb').ownsRow B 146 5 vb' nb cells ∧ (∀ v ∈ fs, Full (w4.setCell ⟨b, 3, none⟩ vb') v m) ∧ Fr (Turned b ao vb) w (w4.setCell ⟨b, 3, none⟩ vb') := by
  have hf : Fr (fun k => k = b) w4 (w4.setCell ⟨b, 3, none⟩ vb') := (Fr.refl (fun k => k = b) w4).setCell (p := ⟨b, 3, none⟩) (fun _ => rfl) _
  have hX : ∀ g cur t, t ≠ 88 → w4.heap[g]? = some (.cells cur t (0, 0)) → ¬ g = b := by
    rintro g cur t ht hg rfl
    rw [h.bk] at hg
    simp only [Option.some.injEq, Obj.cells.injEq] at hg
    exact ht hg.2.1.symm
  refine ⟨(heap_setCell_same w4 b 3 _ _ _ h.bk).trans (by simp), hf.owns ho ?_, fun v hv => (h.full v hv).fr hf (fun g cur hg => hX g cur _ (by decide) hg), h.fr.setCell (fun _ => .inl rfl) _⟩
  intro g hg
  rcases ho.2 with ⟨rfl, _⟩ | ⟨g', cap, cur, rfl, _, hh, _⟩
  · cases hg
  · simp [Value.ownBlock] at hg; subst hg; exact hX _ _ _ (by decide) hh

theorem news_new (W : World) (xs : List Int) (N : Nat) (hN : N = W.heap.size) : ∀ j u, (xs.map (Value.int .u64))[j]? = some u → (W.alloc (.cells (xs.map (Value.int .u64)).toArray 50)).cell? ((⟨N, 0, none⟩ : Addr).add j) = some u := by
  intro j u hu
  rw [Addr.add_lit, Nat.zero_add, World.cell?_alloc_at _ _ _ _ hN]
  simpa using hu

/-- the entry is appended, at a step of a region that draws its order -/
theorem step_words {w : World} {b X n : Nat} {vws vhs vb vss vos : Value} {ao : Option Addr} {len : Nat} {m : Int} {B nb : Nat} {cells : List Value} {xs : Array Value} {fs : List Value} {W : World}
    (M : Mid w b X n vws vhs vb vss vos ao len m B nb cells xs fs W) (hB : B ≤ w.heap.size) (hnb : nb ≤ 1073741824) (h5 : xs.size = 5) (h1c : ∀ u ∈ xs.toList, u.oneCell' = true)
    {ops : Array Oper} {o : Oper} {a : Act} {w3 : World} {K : Act → World → Prop} {Q : Exit → Act → World → Prop} {E : Prop} (s x : Operand) (hgd : o.guard = none)
    (ho : o.op = .call { callee := .builtin .append, args := #[s, x], argTypes := #[82, 82] }) (hs : a.eval s = vb) (hx : a.eval x = .slice (some ⟨W.heap.size, 0, none⟩) 1 1)
    (hf : Fr New W w3) (hb : w3.heap[W.heap.size]? = some (.cells xs 146 (0, 0)))
    (h : ∀ g cap w', w'.ownsRow B 146 5 (.slice (some ⟨g, 0, none⟩) (nb + 1) cap) (nb + 1) (cells ++ xs.toList) → Late w b n vws vhs vb vss vos ao m fs w' → K (a.put o.dst (.slice (some ⟨g, 0, none⟩) (nb + 1) cap)) w') :
    if Region.wanted o (yielded ops a.tmps) = true then Oper.wp Tryz.prog o a w3 K Q else E := by
  obtain ⟨j0, hj, hy0, hy1, hy2⟩ := info_parts Tryz.info146
  refine step_append_lies w3 hgd s x 82 ho B 146 j0 _ 5 104 Tryz.underlying82 hj hy0 hy1 hy2 rfl (by decide) vb nb cells hs (hf.owns M.own (fun _ _ h => h)) ⟨W.heap.size, 0, none⟩ 1 1 xs.toList hx (by simpa using h5) (World.news_of_block hb) h1c (by decide) (by unfold maxLen; omega) (by omega) (by have := M.fr.size; have := hf.size; omega) _ rfl ?_
  intro g cap w4 ho4 hg4 _ _
  exact h g cap w4 ho4 (M.app hf hg4)

set_option maxHeartbeats 2000000 in
set_option maxRecDepth 1000000 in
theorem words_any (b n : Nat) (vws vhs vb vss vos : Value) (ao : Option Addr) (zs : List Int) (B nb : Nat) (cells : List Value) (w : World)
    (hbk : Wb w b vws vhs n vb vss vos) (hl : LR w ao zs) (hown : w.ownsRow B 146 5 vb nb cells) (hB : B ≤ w.heap.size) (hn : n ≤ 1073741824) (hnb : nb ≤ 1073741824) (hz : zs.length ≤ 1048576) :
    Calls Tryz.prog 88 #[.pointer (some ⟨b, 2, none⟩), .slice ao zs.length zs.length] w fun e w' => e = .returned (.tuple #[]) ∧ ∃ vb' l1 l2 l3,
      Wb w' b vws vhs (n + 1) vb' vss vos ∧ w'.ownsRow B 146 5 vb' (nb + 1) (cells ++ [.slice ao zs.length zs.length, l1, l2, l3, .int .u64 (1152921504606846976 + ((n + 1 : Nat) : Int))]) ∧
      (∀ v ∈ [.slice ao zs.length zs.length, l1, l2, l3], Full w' v (1152921504606846976 + ((n + 1 : Nat) : Int))) ∧ Fr (Turned b ao vb) w w' := by
  obtain ⟨i0, hi, hz0, hz1, hz2⟩ := info_parts Tryz.info50
  obtain ⟨m, hm⟩ : ∃ m : Int, m = 1152921504606846976 + ((n + 1 : Nat) : Int) := ⟨_, rfl⟩
  have hlb := lt_of_block hbk
  have hlv : ∀ g, vb.ownBlock = some g → g < w.heap.size := fun g hg => (hown.lt g hg).2
  have hW : Writing w b (n + 1) vws vhs vb vss vos ao zs B nb cells (w.setCell ⟨b, 2, none⟩ (.int .i64 ((n + 1 : Nat) : Int))) := Writing.count ⟨hbk, hl, hown, Fr.refl _ _⟩ (n + 1)
  have hw1 : IntKind.u64.wrap (1152921504606846976 + ((n : Int) + 1)) = m := by rw [IntKind.wrap_u64, hm]; omega
  obtain ⟨hcc, hzz⟩ := block_cells hbk
  rw [← hm]
  clear hl hown
  have hm' : (1152921504606846976 : Int) + ((n : Int) + 1) = m := by rw [hm]; omega
  have HM : Hid (_ = m) := hm'
  clear hm hm' hw1
  go_enter Tryz.func88, Tryz.ntmps88
  go_wp2
  rw [HM.out]
  go_loopw [5] (fun i wr => ∃ k : Nat, k ≤ zs.length ∧ i = .int .i64 k ∧ Writing w b (n + 1) vws vhs vb vss vos ao (part zs m k) B nb cells wr) (fun i _ => zs.length - (intOf i).toNat)
  case atStart => exact ⟨0, Nat.zero_le _, rfl, by rw [part_zero]; exact hW⟩
  case round =>
    obtain ⟨k, hk, rfl, hw⟩ := hrel
    clear hW hcc hzz hbk
    by_cases hlt : k < zs.length
    · obtain ⟨g, hao, hr⟩ : ∃ g, ao = some ⟨g, 0, none⟩ ∧ Row wr g (part zs m k) := by
        rcases hw.l with ⟨_, h⟩ | h
        · have := part_len zs m k hk; rw [h] at this; simp at this; omega
        · exact h
      subst hao
      have hcl := hr.cell k (by rw [part_len zs m k hk]; exact hlt)
      have hfz := hr.free k
      have hset := hw.put k m
      rw [part_set zs m k hlt] at hset
      have HR : Hid (Writing _ _ _ _ _ _ _ _ _ _ _ _ _ _) := hset
      clear hset hr hw
      go_wp2
      go_roundw
      case rel => exact ⟨k + 1, by omega, by go_num, HR.out⟩
      case measure => simp [intOf]; omega
    · obtain rfl : k = zs.length := by omega
      rw [part_all] at hw
      obtain ⟨len, hlen⟩ : ∃ len, len = zs.length := ⟨_, rfl⟩
      rw [← hlen] at hw hz hk hlt ⊢
      have HLen : Hid (len = zs.length) := hlen
      clear hlen
      have hM0 := fun xs => hw.mid hlb hlv (by unfold maxLen; omega) xs
      have HM0 : Hid (∀ xs, Mid _ _ _ _ _ _ _ _ _ _ _ _ _ _ _ _ _ _) := hM0
      have hnone : ao = none → len = 0 ∧ len = 0 := fun h => by have := hw.l.isNil h; simpa using this
      clear hM0
      go_wp2_with (first
        | (at_builtin; refine wpList_append_grows _ rfl (.tmp 33) (.tmp 35) 43 rfl 50 i0 (.int .u64 0) 1 8 Tryz.underlying43 hi hz0 hz1 hz2 rfl (by decide) ao len len ((List.replicate len m).map (Value.int .u64)) (by rfl) hnone (by simp) (((HM0.out _).grow ((Fr.refl New _).alloc _)).l.olds) ⟨wr.heap.size + 1, 0, none⟩ 1 1 ((List.replicate 1 m).map (Value.int .u64)) (by rfl) rfl (news_new _ (List.replicate 1 m) _ (by simp)) (ints_oneU _) (by omega) (by unfold maxLen; omega) (by omega) ?_; intro v1 w1 ho1 hg1; obtain ⟨g1, c1, rfl, _, _⟩ := ho1.form (by omega); have M1 := (((HM0.out _).grow ((Fr.refl New _).alloc _)).grow ((Fr.refl New _).grownNew hg1)).add (full_app ho1); clear ho1 hg1; obtain ⟨hc1, hf1⟩ := block_cells M1.x; have M2 := M1.put 1 (.slice (some ⟨g1, 0, none⟩) (len + 1) c1); clear M1)
        | (at_builtin; refine wpList_append_grows _ rfl (.tmp 38) (.tmp 41) 43 rfl 50 i0 (.int .u64 0) 1 8 Tryz.underlying43 hi hz0 hz1 hz2 rfl (by decide) ao len len ((List.replicate len m).map (Value.int .u64)) (by rfl) hnone (by simp) ((M2.grow ((Fr.refl New _).alloc _)).l.olds) ⟨w1.heap.size, 0, none⟩ 2 2 ((List.replicate 2 m).map (Value.int .u64)) (by rfl) rfl (news_new _ (List.replicate 2 m) _ (by simp)) (ints_oneU _) (by omega) (by unfold maxLen; omega) (by omega) ?_; intro v2 w2 ho2 hg2; obtain ⟨g2, c2, rfl, _, _⟩ := ho2.form (by omega); have M3 := ((M2.grow ((Fr.refl New _).alloc _)).grow ((Fr.refl New _).grownNew hg2)).add (full_app ho2); clear ho2 hg2; obtain ⟨hc2, hf2⟩ := block_cells M3.x; have M4 := M3.put 2 (.slice (some ⟨g2, 0, none⟩) (len + 2) c2); clear M3)
        | (at_builtin; refine wpList_append_grows _ rfl (.tmp 44) (.tmp 48) 43 rfl 50 i0 (.int .u64 0) 1 8 Tryz.underlying43 hi hz0 hz1 hz2 rfl (by decide) ao len len ((List.replicate len m).map (Value.int .u64)) (by rfl) hnone (by simp) ((M4.grow ((Fr.refl New _).alloc _)).l.olds) ⟨w2.heap.size, 0, none⟩ 3 3 ((List.replicate 3 m).map (Value.int .u64)) (by rfl) rfl (news_new _ (List.replicate 3 m) _ (by simp)) (ints_oneU _) (by omega) (by unfold maxLen; omega) (by omega) ?_; intro v3 w3 ho3 hg3; obtain ⟨g3, c3, rfl, _, _⟩ := ho3.form (by omega); have M5 := ((M4.grow ((Fr.refl New _).alloc _)).grow ((Fr.refl New _).grownNew hg3)).add (full_app ho3); clear ho3 hg3; obtain ⟨hc3, hf3⟩ := block_cells M5.x; have M6 := M5.put 3 (.slice (some ⟨g3, 0, none⟩) (len + 3) c3); clear M5)
        | fail)
      clear hw HM0 hc1 hf1 hc2 hf2 hc3 hf3 M2 M4 hnone hlt hk hi hz0 hz1 hz2
      obtain ⟨X, hX⟩ : ∃ X, X = wr.heap.size := ⟨_, rfl⟩
      obtain ⟨W, hW⟩ : ∃ W, W = w3.setCell ⟨wr.heap.size, 3, none⟩ (.slice (some ⟨g3, 0, none⟩) (len + 3) c3) := ⟨_, rfl⟩
      rw [← hW] at M6 ⊢
      rw [← hX] at M6 ⊢
      clear hW hX
      have M : Mid w b X (n + 1) vws vhs vb vss vos ao len m B nb cells #[.slice ao len len, .slice (some ⟨g1, 0, none⟩) (len + 1) c1, .slice (some ⟨g2, 0, none⟩) (len + 2) c2, .slice (some ⟨g3, 0, none⟩) (len + 3) c3, .int .u64 m] _ W := M6
      clear M6
      obtain ⟨hcx, hzx⟩ := block_cells M.x
      obtain ⟨hcb, hzb⟩ := block_cells M.bk
      have hbW : b < W.heap.size := lt_of_block M.bk
      go_region_law (refine step_words M hB hnb rfl (by simp [Value.oneCell']) (.tmp 55) (.tmp 57) rfl rfl (by simp [Act.eval]) (by simp [Act.eval]) (by first | exact (Fr.refl New W).alloc _ | exact (Fr.refl New W).drew.alloc _ | exact ((Fr.refl New W).alloc _).drew) (by first | exact Go.Deep.blk_alloc_new W _ | exact Go.Deep.blk_alloc_new W.drew _) ?_; intro g cap w4 ho4 HL; obtain ⟨hc4, hf4⟩ := block_cells HL.bk)
      all_goals
        obtain ⟨b1, b2, b3, b4⟩ := HL.last ho4
        go_end0
        rw [← HLen.out]
        refine ⟨rfl, _, _, _, _, b1, b2, ?_, b4⟩
        intro v hv
        simp only [List.mem_cons, List.not_mem_nil, or_false] at hv
        rcases hv with rfl | rfl | rfl | rfl <;> exact b3 _ (by simp)
end Go.Proofs.YtbagcjlimdilpaaGreat
