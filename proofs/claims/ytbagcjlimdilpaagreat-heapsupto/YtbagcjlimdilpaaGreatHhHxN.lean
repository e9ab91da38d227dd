/- The walk of the book's call 'objects': each one's words go into the book, then the list is written full, made longer, and entered. -/
import Derived.Test.YtbagcjlimdilpaaGreatHhHxJ
import Derived.Test.YtbagcjlimdilpaaGreatHhJ18
namespace Go.Proofs.YtbagcjlimdilpaaGreat
open Go.RowKit
attribute [local go_sem ↓] Go.wp_at_zero Go.wp_at_succ

theorem partE_set4 (a b c d : Value) (ys : List Value) (n k : Nat) (h : ys.length = n * 4) (hk : k < n) : ((((partE [a, b, c, d] ys k).set (k * 4) a).set (k * 4 + 1) b).set (k * 4 + 2) c).set (k * 4 + 3) d = partE [a, b, c, d] ys (k + 1) := by
  unfold partE
  obtain ⟨x0, x1, x2, x3, r, hr⟩ : ∃ x0 x1 x2 x3 r, ys.drop (k * 4) = x0 :: x1 :: x2 :: x3 :: r := by
    have hl : (ys.drop (k * 4)).length = n * 4 - k * 4 := by simp [h]
    match hd : ys.drop (k * 4), hl with
    | [], hl => simp at hl; omega
    | [_], hl => simp at hl; omega
    | [_, _], hl => simp at hl; omega
    | [_, _, _], hl => simp at hl; omega
    | x0 :: x1 :: x2 :: x3 :: r, _ => exact ⟨x0, x1, x2, x3, r, rfl⟩
  have hr' : ys.drop ((k + 1) * 4) = r := by
    rw [show (k + 1) * 4 = k * 4 + 4 by omega, ← List.drop_drop, hr]
    rfl
  have hl : (reps [a, b, c, d] k).length = k * 4 := by rw [reps_len]; rfl
  show ((((reps [a, b, c, d] k ++ ys.drop (k * 4)).set (k * 4) a).set (k * 4 + 1) b).set (k * 4 + 2) c).set (k * 4 + 3) d = reps [a, b, c, d] (k + 1) ++ ys.drop ((k + 1) * 4)
  rw [hr, hr', reps, List.set_append_right _ _ (by omega), List.set_append_right _ _ (by omega), List.set_append_right _ _ (by omega), List.set_append_right _ _ (by omega), hl]
  simp
theorem Tryz.info152 : (Tryz.prog.info? 152).map (fun i => (i.zero, i.size, i.bytes)) = some (some (.agg #[.slice none 0 0, .slice none 0 0, .slice none 0 0, .slice none 0 0, .int .i64 0]), 5, 104) := by kernel_rfl
theorem three_O : Three 96 152 := ⟨by decide, by decide, by decide⟩

section
variable {K K' : Nat → Prop} {X : Rest} {B b c : Nat} {vws : Value} {nw : Nat} {xs : List Value} {vb : Value} {es : List Entry} {w : World}
/-- other blocks stay: what lies in memory keeps its place -/
theorem PartsX.frK (P : PartsX K X B b c vws nw xs vb es w) {w' : World} (hf : Fr New w w') (h : ∀ k, k < w.heap.size → K k → K' k) (hn : ∀ k, w'.heap.size ≤ k → K' k) : PartsX K' X B b c vws nw xs vb es w' := by
  have P' := P.fr hf
  refine ⟨P'.bk, P'.ws, P'.own, P'.good, fun e he v hv g hg => h g ?_ (P.kept e he v hv g hg), P.few, P.les, P.base, hn⟩
  obtain ⟨⟨k0, q0⟩, ⟨k1, q1⟩, ⟨k2, q2⟩, ⟨k3, q3⟩⟩ := P.good e he
  simp only [List.mem_cons, List.not_mem_nil, or_false] at hv
  rcases hv with rfl | rfl | rfl | rfl
  · obtain ⟨_, cur, hh⟩ := own_block q0 hg; exact lt_of_block hh
  · obtain ⟨_, cur, hh⟩ := own_block q1 hg; exact lt_of_block hh
  · obtain ⟨_, cur, hh⟩ := own_block q2 hg; exact lt_of_block hh
  · obtain ⟨_, cur, hh⟩ := own_block q3 hg; exact lt_of_block hh
theorem ImgsX.frK (I : ImgsX K w xs) {w' : World} (hf : Fr New w w') (h : ∀ k, k < w.heap.size → K k → K' k) : ImgsX K' w' xs := fun v hv => by
  obtain ⟨zs, ho, h1, h2, h3⟩ := I v hv
  refine ⟨zs, hf.owns ho (fun _ _ h => h), h1, h2, fun g hg => h g ?_ (h3 g hg)⟩
  obtain ⟨_, cur, hh⟩ := own_block ho hg
  exact lt_of_block hh
/-- the book's 'words', of a list that is there already -/
theorem words_old (P : PartsX K X B b c vws nw xs vb es w) (I : ImgsX K w xs) (hc : c ≤ 1073741823) (ao : Option Addr) (hao : ∀ g, ao = some ⟨g, 0, none⟩ → ¬ K g ∧ K' g) (hK : ∀ k, K k → K' k) (zs : List Int) (len : Nat) (hlen : zs.length = len) (hz : len ≤ 1048576) (hl : LR w ao zs) :
    Calls Tryz.prog 88 #[.pointer (some ⟨b, 2, none⟩), .slice ao len len] w fun e w' => e = .returned (.tuple #[]) ∧ ∃ vb' es', PartsX K' X B b (c + 1) vws nw xs vb' es' w' ∧ ImgsX K' w' xs ∧ Fr (Turned b ao vb) w w' := by
  subst hlen
  refine (words_new b c vws _ vb _ _ ao zs B es.length (cellsOf es) w P.bk hl P.own P.size (by omega) (by have := P.les; omega) hz).mono ?_
  rintro e w5 ⟨rfl, vb', l1, l2, l3, b1, b2, b3, b4, b5⟩
  have hTU : ∀ g cur, w.heap[g]? = some (.cells cur 50 (0, 0)) → K g → ¬ Turned b ao vb g := by
    rintro g cur hg hk (rfl | h | h)
    · exact type_ne hg P.bk (by decide) rfl
    · exact (hao g h).1 hk
    · obtain ⟨_, cur', hh'⟩ := own_block P.own h; exact type_ne hg hh' (by decide) rfl
  refine ⟨rfl, vb', es ++ [⟨.slice ao zs.length zs.length, l1, l2, l3, _⟩], ⟨b1, b4.owns P.ws ?_, by simpa [cellsOf_snoc, Entry.cells] using b2, ?_, ?_, P.few, by have := P.les; simp; omega, P.base, fun k hk => hK k (P.fresh k (Nat.le_trans b4.size hk))⟩, ?_, b4⟩
  · rintro g hg (rfl | h | h)
    · obtain ⟨_, cur, hh⟩ := own_block P.ws hg; exact type_ne hh P.bk (by decide) rfl
    · obtain ⟨_, cur, hh⟩ := own_block P.ws hg
      rcases hl with ⟨h', _⟩ | ⟨g', hg', hr⟩
      · rw [h'] at h; cases h
      · rw [hg'] at h; cases h; exact type_ne hh hr (by decide) rfl
    · obtain ⟨_, cur, hh⟩ := own_block P.ws hg; obtain ⟨_, cur', hh'⟩ := own_block P.own h; exact type_ne hh hh' (by decide) rfl
  · intro e he
    rcases List.mem_append.1 he with he | he
    · have hk := P.kept e he
      obtain ⟨⟨k0, q0⟩, ⟨k1, q1⟩, ⟨k2, q2⟩, ⟨k3, q3⟩⟩ := P.good e he
      have key : ∀ v ∈ [e.l, e.a, e.b, e.c], ∀ {k : Nat}, Own 0 w v (List.replicate k e.m) → Own 0 w5 v (List.replicate k e.m) := fun v hv k ho => b4.owns ho (fun g hg => by
        obtain ⟨_, cur, hh⟩ := own_block ho hg
        exact hTU g cur hh (hk v hv g hg))
      exact ⟨⟨k0, key _ (by simp) q0⟩, ⟨k1, key _ (by simp) q1⟩, ⟨k2, key _ (by simp) q2⟩, ⟨k3, key _ (by simp) q3⟩⟩
    · obtain rfl : e = ⟨_, l1, l2, l3, _⟩ := by simpa using he
      exact ⟨b3 _ (by simp), b3 _ (by simp), b3 _ (by simp), b3 _ (by simp)⟩
  · intro e he v hv g hg
    rcases List.mem_append.1 he with he | he
    · exact hK g (P.kept e he v hv g hg)
    · obtain rfl : e = ⟨_, l1, l2, l3, _⟩ := by simpa using he
      rcases b5 v hv g hg with h | h
      · exact hK g (P.fresh g h)
      · exact (hao g h).2
  · intro v hv
    obtain ⟨zs', ho, h1, h2, h3⟩ := I v hv
    exact ⟨zs', b4.owns ho (fun g hg => by obtain ⟨_, cur, hh⟩ := own_block ho hg; exact hTU g cur hh (h3 g hg)), h1, h2, fun g hg => hK g (h3 g hg)⟩
/-- behind the rest of 'stores' and 'objects' -/
theorem PartsX.rest {X' : Rest} {c' : Nat} {e te : TypeId} {v vt : Value} {n nb : Nat} {ys cells : List Value} {size : Nat} (P : PartsX K X B b c vws nw xs vb es w) (I : ImgsX K w xs) {w' : World} (hv : w.ownsRow 0 e size v n ys) (hvt : w.ownsRow B te 5 vt nb cells) (he : e ≠ 43 ∧ e ≠ 146 ∧ e ≠ 50) (hte : te ≠ 43 ∧ te ≠ 146 ∧ te ≠ 50)
    (hf : Fr (TurnE b v vt) w w') (hbk : Wb w' b vws X'.h c' vb X'.s X'.o) (hc : c ≤ c') : PartsX K X' B b c' vws nw xs vb es w' ∧ ImgsX K w' xs := by
  have hT : ∀ g cur t, t ≠ 88 → t ≠ e → t ≠ te → w.heap[g]? = some (.cells cur t (0, 0)) → ¬ TurnE b v vt g := by
    rintro g cur t h1 h2 h3 hg (rfl | h | h)
    · exact type_ne hg P.bk h1 rfl
    · obtain ⟨_, cur', hh'⟩ := own_block hv h; exact type_ne hg hh' h2 rfl
    · obtain ⟨_, cur', hh'⟩ := own_block hvt h; exact type_ne hg hh' h3 rfl
  have hU : ∀ g cur, w.heap[g]? = some (.cells cur 50 (0, 0)) → ¬ TurnE b v vt g := fun g cur hg => hT g cur _ (by decide) he.2.2.symm hte.2.2.symm hg
  refine ⟨⟨hbk, hf.owns P.ws (fun g hg => ?_), hf.owns P.own (fun g hg => ?_), fun e he => Entry.good_fr (P.good e he) hf hU, P.kept, P.few, Nat.le_trans P.les hc, P.base, fun k hk => P.fresh k (Nat.le_trans hf.size hk)⟩, I.fr hf (fun g cur hg _ => hU g cur hg)⟩
  · obtain ⟨_, cur, hh⟩ := own_block P.ws hg; exact hT g cur _ (by decide) he.1.symm hte.1.symm hh
  · obtain ⟨_, cur, hh⟩ := own_block P.own hg; exact hT g cur _ (by decide) he.2.1.symm hte.2.1.symm hh
end
/-- the words that went into the book already stay -/
def KG (K : Nat → Prop) (gs : List Nat) (i : Nat) (k : Nat) : Prop := K k ∧ k ∉ gs.drop i
/-- which old blocks are turned -/
def TO (B : Nat) (w : World) (gs : List Nat) (k : Nat) : Prop := (L3 w k ∧ B ≤ k) ∨ k ∈ gs
/-- while the words go into the book -/
structure Booking (K : Nat → Prop) (X : Rest) (B b c : Nat) (vws : Value) (nw : Nat) (xs : List Value) (v : Value) (now : List Int) (l : List Ob) (gs : List Nat) (nb : Nat) (cells : List Value) (w : World) (i : Nat) (wr : World) : Prop where
  p : ∃ vb es, PartsX (KG K gs i) X B b (c + i) vws nw xs vb es wr
  im : ImgsX (KG K gs i) wr xs
  own : wr.ownsRow 0 96 4 v l.length (aoCells l gs)
  os : wr.ownsRow B 152 5 X.o nb cells
  rows : ∀ j, i ≤ j → ∀ (hj : j < l.length) (hg : j < gs.length), Row wr (gs[j]) (objW now l[j])
  fr : Fr (TO B w gs) w wr
theorem Booking.next {K : Nat → Prop} {X : Rest} {B b c : Nat} {vws : Value} {nw : Nat} {xs : List Value} {v : Value} {now : List Int} {l : List Ob} {gs : List Nat} {nb : Nat} {cells : List Value} {w : World} {i : Nat} {wr : World} (h : Booking K X B b c vws nw xs v now l gs nb cells w i wr)
    (hnd : gs.Nodup) (hK : ∀ g ∈ gs, K g) (hc : c + i ≤ 1073741823) (hi : i < l.length) (hg : i < gs.length) (M : Nat) (hM : (objW now l[i]).length = M) (hM2 : M ≤ 1048576) :
    Calls Tryz.prog 88 #[.pointer (some ⟨b, 2, none⟩), .slice (some ⟨gs[i], 0, none⟩) M M] wr fun e w' => e = .returned (.tuple #[]) ∧ Booking K X B b c vws nw xs v now l gs nb cells w (i + 1) w' := by
  obtain ⟨vb, es, P⟩ := h.p
  have hdr : gs.drop i = gs[i] :: gs.drop (i + 1) := List.drop_eq_getElem_cons hg
  have hr := h.rows i (Nat.le_refl _) hi hg
  have hnd' : (gs.drop i).Nodup := hnd.sublist (List.drop_sublist _ _)
  rw [hdr] at hnd'
  refine (words_old (K' := KG K gs (i + 1)) P h.im hc (some ⟨gs[i], 0, none⟩) (fun g hg' => ?_) (fun k hk => ⟨hk.1, fun hm => hk.2 (by rw [hdr]; exact List.mem_cons_of_mem _ hm)⟩) (objW now l[i]) M hM hM2 (.inr ⟨_, rfl, hr⟩)).mono ?_
  · simp only [Option.some.injEq, Addr.mk.injEq, and_true] at hg'
    subst hg'
    exact ⟨fun hk => hk.2 (by rw [hdr]; exact List.mem_cons_self), hK _ (List.getElem_mem hg), fun hm => (List.nodup_cons.1 hnd').1 hm⟩
  rintro e w' ⟨rfl, vb', es', P', I', hf⟩
  have hT : ∀ g cur t, t ≠ 88 → t ≠ 50 → t ≠ 146 → wr.heap[g]? = some (.cells cur t (0, 0)) → ¬ Turned b (some ⟨gs[i], 0, none⟩) vb g := by
    rintro g cur t h1 h2 h3 hg' (rfl | h' | h')
    · exact type_ne hg' P.bk h1 rfl
    · cases h'; exact type_ne hg' hr h2 rfl
    · obtain ⟨_, cur', hh'⟩ := own_block P.own h'; exact type_ne hg' hh' h3 rfl
  refine ⟨rfl, ⟨vb', es', P'⟩, I', hf.owns h.own (fun g hg' => ?_), hf.owns h.os (fun g hg' => ?_), fun j hj hjl hjg => ?_, h.fr.trans hf (fun j hj ht => ?_)⟩
  · obtain ⟨_, cur, hh⟩ := own_block h.own hg'; exact hT g cur _ (by decide) (by decide) (by decide) hh
  · obtain ⟨_, cur, hh⟩ := own_block h.os hg'; exact hT g cur _ (by decide) (by decide) (by decide) hh
  · have hrj := h.rows j (by omega) hjl hjg
    refine hrj.fr hf ?_
    rintro (h' | h' | h')
    · exact type_ne hrj P.bk (by decide) h'
    · simp only [Option.some.injEq, Addr.mk.injEq, and_true] at h'
      exact (List.pairwise_iff_getElem.1 hnd i j hg hjg (by omega)) h'
    · obtain ⟨_, cur', hh'⟩ := own_block P.own h'; exact type_ne hrj hh' (by decide) rfl
  · by_cases hn : TO B w gs j
    · exact hn
    · have hb : wr.heap[j]? = w.heap[j]? := h.fr.block j hj hn
      rcases ht with h' | h' | h'
      · subst h'; exact .inl ⟨⟨_, _, hb.symm.trans P.bk, .inl rfl⟩, P.base⟩
      · simp only [Option.some.injEq, Addr.mk.injEq, and_true] at h'
        exact .inr (h' ▸ List.getElem_mem hg)
      · obtain ⟨hB', cur', hh'⟩ := own_block P.own h'
        exact .inl ⟨⟨_, _, hb.symm.trans hh', .inr (.inr rfl)⟩, hB'⟩
/-- what the rest of 'objects' turns -/
def TOE (B : Nat) (w : World) (gs : List Nat) (v vo : Value) (k : Nat) : Prop := TO B w gs k ∨ v.ownBlock = some k ∨ vo.ownBlock = some k

set_option maxHeartbeats 8000000 in
set_option maxRecDepth 1000000 in
theorem objects_any {K : Nat → Prop} {Xh Xs Xo : Value} (B b c : Nat) {vws : Value} {nw : Nat} {xs : List Value} {vb : Value} {es : List Entry} (v : Value) (now : List Int) (l : List Ob) (gs : List Nat) (nb : Nat) (cells : List Value) (w : World)
    (P : PartsX (KG K gs 0) ⟨Xh, Xs, Xo⟩ B b c vws nw xs vb es w) (I : ImgsX (KG K gs 0) w xs) (hT : ToldO 0 w v now l gs) (hos : w.ownsRow B 152 5 Xo nb cells) (hc : c ≤ 1073740000) (hl32 : l.length ≤ 32) (hnb : nb ≤ 1073741824) (hK : ∀ g ∈ gs, K g) (hsp : ∀ o ∈ l, o.span ≤ 4) :
    Calls Tryz.prog 83 #[.pointer (some ⟨b, 2, none⟩), v] w fun e w' => e = .returned (.tuple #[]) ∧ ∃ vb' es' vo' l1 l2 l3,
      PartsX K ⟨Xh, Xs, vo'⟩ B b (c + l.length + 1) vws nw xs vb' es' w' ∧ ImgsX K w' xs ∧ w'.ownsRow B 152 5 vo' (nb + 1) (cells ++ [v, l1, l2, l3, .int .i64 (1000 + ((c + l.length + 1 : Nat) : Int))]) ∧
      (∀ u ∈ [v, l1, l2, l3], ∃ k, k ≤ l.length + 3 ∧ FullE 96 4 (mkO (1000 + ((c + l.length + 1 : Nat) : Int))) w' u k) ∧ (∀ u ∈ [v, l1, l2, l3], ∀ k, u.ownBlock = some k → w.heap.size ≤ k ∨ v.ownBlock = some k) ∧ Fr (TOE B w gs v Xo) w w' := by
  obtain ⟨i0, hi, hz0, hz1, hz2⟩ := info_parts Tryz.info96
  obtain ⟨j0, hj, hy0, hy1, hy2⟩ := info_parts Tryz.info152
  have hlg : l.length = gs.length := hT.len
  have HB0 : Hid (Booking K ⟨Xh, Xs, Xo⟩ B b c vws nw xs v now l gs nb cells w 0 w) := ⟨⟨vb, es, P⟩, I, hT.own, hos, fun j _ hj hg => hT.rows j hj hg, Fr.refl _ _⟩
  have HNX : Hid (∀ i wr, Booking K ⟨Xh, Xs, Xo⟩ B b c vws nw xs v now l gs nb cells w i wr → ∀ (hi : i < l.length) (hg : i < gs.length) (M : Nat), (objW now l[i]).length = M → M ≤ 1048576 → Calls Tryz.prog 88 #[.pointer (some ⟨b, 2, none⟩), .slice (some ⟨gs[i], 0, none⟩) M M] wr fun e w' => e = .returned (.tuple #[]) ∧ Booking K ⟨Xh, Xs, Xo⟩ B b c vws nw xs v now l gs nb cells w (i + 1) w') :=
    fun i wr h hi hg M hM hM2 => h.next hT.nodup hK (by omega) hi hg M hM hM2
  have HLG : Hid (l.length = gs.length) := hlg
  have HKK : Hid (∀ g ∈ gs, K g) := hK
  have HSP : Hid (∀ o ∈ l, o.span ≤ 4) := hsp
  have hBw : B ≤ w.heap.size := P.size
  have HLB : Hid (∀ g, v.ownBlock = some g → g < w.heap.size) := fun g hg => (hT.own.lt g hg).2
  obtain ⟨va, vc, hv0⟩ := own_slice hT.own
  obtain ⟨n, hn⟩ : ∃ n, n = c + l.length := ⟨_, rfl⟩
  rw [← hn]
  have HN : Hid (n = c + l.length) := hn
  have hn1 : n ≤ 1073741824 := by omega
  obtain ⟨m, hm⟩ : ∃ m : Int, m = 1000 + ((n + 1 : Nat) : Int) := ⟨_, rfl⟩
  rw [← hm]
  have HMM : Hid (m = 1000 + ((n + 1 : Nat) : Int)) := hm
  clear hm
  obtain ⟨len, hlen⟩ : ∃ len, len = l.length := ⟨_, rfl⟩
  rw [← hlen] at hl32 hv0 ⊢
  subst hv0
  have HLEN : Hid (len = l.length) := hlen
  clear P I hT hlg hK hos hsp hn hlen
  go_enter Tryz.func83, Tryz.ntmps83
  go_wp2
  go_loopg [4] len (fun gh t wr => ∃ i : Nat, i ≤ len ∧ gh = len - i ∧ t = .int .i64 i ∧ Booking K ⟨Xh, Xs, Xo⟩ B b c vws nw xs (.slice va len vc) now l gs nb cells w i wr)
  case atStart => exact ⟨0, Nat.zero_le _, rfl, rfl, HB0.out⟩
  case round =>
    obtain ⟨i, hil, rfl, rfl, hbo⟩ := hrel
    by_cases hlt : i < len
    · have hlt2 : i < l.length := by rw [← HLEN.out]; exact hlt
      have hg2 : i < gs.length := by rw [← HLG.out]; exact hlt2
      have HW1 := fun M hM hM2 => HNX.out i wr hbo hlt2 hg2 M hM hM2
      have ho : wr.ownsRow 0 96 4 (.slice va len vc) len (aoCells l gs) := by have := hbo.own; rwa [← HLEN.out] at this
      obtain ⟨g, c', hv, _, hgl⟩ := ho.form (by omega)
      cases hv
      have hE : wr.cell? ⟨g, i * 4 + 3, none⟩ = some (.slice (some ⟨gs[i], 0, none⟩) (8 * (l[i]).span - 1) (8 * (l[i]).span - 1)) := by
        have h1 := ho.cellAt (i * 4 + 3) (by omega)
        rw [aoCells_get l gs i hlt2 hg2 3 (by omega)] at h1
        exact h1
      obtain ⟨M, hM⟩ : ∃ M, M = 8 * (l[i]).span - 1 := ⟨_, rfl⟩
      rw [← hM] at hE
      have HC := HW1 M (by rw [hM]; simp [objW]) (by have := HSP.out _ (List.getElem_mem hlt2); omega)
      obtain ⟨gi, hgi⟩ : ∃ gi, gi = gs[i] := ⟨_, rfl⟩
      rw [← hgi] at hE HC
      have HCW : Hid (Calls _ _ _ _ _) := HC
      clear ho hM hgi HW1 HC hbo hlt2 hg2 HB0 HNX
      go_wp2_with (go_at_call 88; refine HCW.out.mono ?_; rintro e w2 ⟨rfl, hb2⟩)
      go_roundg (len - (i + 1))
      case measure => omega
      case rel => exact ⟨i + 1, by omega, rfl, by go_num, hb2⟩
    · obtain rfl : i = len := by omega
      obtain ⟨wA, rfl⟩ : ∃ wA, wA = wr := ⟨_, rfl⟩
      obtain ⟨vb1, es1, P0⟩ := hbo.p
      have hnil : gs.drop i = [] := List.drop_eq_nil_of_le (by rw [← HLG.out, ← HLEN.out]; exact Nat.le_refl _)
      have hKG : ∀ k, KG K gs i k → K k := fun k hk => hk.1
      have P1 : PartsX K ⟨Xh, Xs, Xo⟩ B b n vws nw xs vb1 es1 wA := by
        have := P0.frK (K' := K) (Fr.refl New _) (fun k _ hk => hKG k hk) (fun k hk => hKG k (P0.fresh k hk))
        rwa [HLEN.out, ← HN.out] at this
      have I1 : ImgsX K wA xs := hbo.im.frK (Fr.refl New _) (fun k _ hk => hKG k hk)
      have HFA : Hid (Fr (TO B w gs) w wA) := hbo.fr
      have HSA : Hid (w.heap.size ≤ wA.heap.size) := hbo.fr.size
      have hl : wA.ownsRow 0 96 4 (.slice va i vc) i (aoCells l gs) := by have := hbo.own; rwa [← HLEN.out] at this
      have hown : wA.ownsRow B 152 5 Xo nb cells := hbo.os
      obtain ⟨CS, hCS⟩ : ∃ CS, CS = aoCells l gs := ⟨_, rfl⟩
      rw [← hCS] at hl
      have HPF : Hid (∀ w' vo', Wb w' b vws Xh (n + 1) vb1 Xs vo' → Fr (TurnE b (.slice va i vc) Xo) wA w' → PartsX K ⟨Xh, Xs, vo'⟩ B b (n + 1) vws nw xs vb1 es1 w' ∧ ImgsX K w' xs) := fun w' vo' hbk hf => P1.rest (X' := ⟨Xh, Xs, vo'⟩) I1 hl hown ⟨by decide, by decide, by decide⟩ ⟨by decide, by decide, by decide⟩ hf hbk (Nat.le_succ _)
      have HFR : Hid (∀ w', Fr (TurnE b (.slice va i vc) Xo) wA w' → Fr (TOE B w gs (.slice va i vc) Xo) w w') := fun w' hf => (HFA.out.mono (fun k _ h => .inl h)).trans hf (fun k hk ht => by
        rcases ht with h | h | h
        · by_cases hn : TO B w gs k
          · exact .inl hn
          · subst h
            exact .inl (.inl ⟨⟨_, _, (HFA.out.block _ hk hn).symm.trans P1.bk, .inl rfl⟩, P1.base⟩)
        · exact .inr (.inl h)
        · exact .inr (.inr h))
      have hbk : Wb wA b vws Xh n vb1 Xs Xo := P1.bk
      obtain ⟨v, hv⟩ : ∃ v, v = Value.slice va i vc := ⟨_, rfl⟩
      obtain ⟨len, hlen⟩ : ∃ len, len = i := ⟨_, rfl⟩
      have hBw1 : B ≤ wA.heap.size := P1.size
      have hz : len ≤ 1099511000000 := by omega
      subst hlen
      rw [← hv] at hl HPF HFR ⊢
      clear P0 P1 I1 hbo hCS hnil hKG HB0 HNX hlt hil HLB
      have hm := HMM.out
      have HSL : Hid (CS.length = len * 4) := hl.1
      have hlb := lt_of_block hbk
      have hlv : ∀ g, Xo.ownBlock = some g → g < wA.heap.size := fun g hg => (hown.lt g hg).2
      have hlw : ∀ g, v.ownBlock = some g → g < wA.heap.size := fun g hg => (hl.lt g hg).2
      obtain ⟨sa, sc, hvs⟩ := own_slice hown
      obtain ⟨hcb, hzb⟩ := block_cells hbk
      have hW0 : WritE 96 152 4 wA b _ v Xo len CS B nb cells (wA.setCell ⟨b, 2, none⟩ (.int .i64 ((n + 1 : Nat) : Int))) := WritE.count three_O ⟨hbk, hl, hown, Fr.refl _ _⟩ 2 _
      obtain ⟨WS, hWS⟩ : ∃ WS, WS = (wA.setCell ⟨b, 2, none⟩ (.int .i64 ((n + 1 : Nat) : Int))).alloc (.cells #[.int .i64 m, .int .i64 0, .int .i64 0, .slice none 0 0] 96) := ⟨_, rfl⟩
      have hsz : WS.heap.size = wA.heap.size + 1 := by rw [hWS]; simp
      have hW1 : WritE 96 152 4 wA b #[vws, Xh, .int .i64 ((n + 1 : Nat) : Int), vb1, Xs, Xo] v Xo len CS B nb cells WS := by
        have := hW0.new ((Fr.refl New _).alloc (.cells #[.int .i64 m, .int .i64 0, .int .i64 0, .slice none 0 0] 96))
        rw [← hWS] at this
        simpa using this
      have hS0 : WS.heap[wA.heap.size]? = some (.cells #[.int .i64 m, .int .i64 0, .int .i64 0, .slice none 0 0] 96 (0, 0)) := by
        rw [hWS]
        have := Go.Deep.blk_alloc_new (wA.setCell ⟨b, 2, none⟩ (.int .i64 ((n + 1 : Nat) : Int))) (.cells #[.int .i64 m, .int .i64 0, .int .i64 0, .slice none 0 0] 96)
        simpa using this
      have HF1 : Hid (Fr (TurnE b v Xo) wA WS) := hW1.fr
      have HW2 : Hid (WritE 96 152 4 WS b #[vws, Xh, .int .i64 ((n + 1 : Nat) : Int), vb1, Xs, Xo] v Xo len (partE (mkO m) CS 0) B nb cells WS) := ⟨hW1.bk, by rw [partE_zero]; exact hW1.l, hW1.own, Fr.refl _ _⟩
      have HSW : Hid (∀ w', Fr (TurnE b v Xo) WS w' → w'.heap[wA.heap.size]? = some (.cells #[.int .i64 m, .int .i64 0, .int .i64 0, .slice none 0 0] 96 (0, 0))) := fun w' hf => hf.heap hS0 (fun ht => by
        rcases ht with h | h | h
        · omega
        · have := hlw _ h; omega
        · have := hlv _ h; omega)
      have hm' : (1000 : Int) + ((n : Int) + 1) = m := by rw [hm]; omega
      have HM : Hid (_ = m) := hm'
      have HWS : Hid (_ = _) := hWS
      have hlbS : b < WS.heap.size := by omega
      have hlvS : ∀ g, Xo.ownBlock = some g → g < WS.heap.size := fun g hg => by have := hlv g hg; omega
      have HLV : Hid (∀ g, Xo.ownBlock = some g → g < WS.heap.size) := hlvS
      have HLW : Hid (∀ g, v.ownBlock = some g → g < wA.heap.size) := hlw
      have HSZ : Hid (WS.heap.size = wA.heap.size + 1) := hsz
      have HBS : Hid (B ≤ WS.heap.size) := by show _ ≤ _; omega
      subst hv
      subst hvs
      clear hm hm' hWS hW0 hW1 hl hown hS0 hlvS hlv hlw hbk hsz
      go_wp2
      rw [HM.out]
      go_loopg [6] len (fun gh i wr => ∃ k : Nat, k ≤ len ∧ gh = len - k ∧ i = .int .i64 k ∧ WritE 96 152 4 WS b #[vws, Xh, .int .i64 ((n + 1 : Nat) : Int), vb1, Xs, .slice sa nb sc] (.slice va len vc) (.slice sa nb sc) len (partE (mkO m) CS k) B nb cells wr)
      case atStart =>
        have e : ∀ W, W = WS → WritE 96 152 4 WS b #[vws, Xh, .int .i64 ((n + 1 : Nat) : Int), vb1, Xs, .slice sa nb sc] (.slice va len vc) (.slice sa nb sc) len (partE (mkO m) CS 0) B nb cells W := by
          rintro _ rfl
          exact HW2.out
        exact ⟨0, Nat.zero_le _, rfl, rfl, e _ (by rw [HWS.out]; simp)⟩
      case round =>
        obtain ⟨k, hk, rfl, rfl, hw⟩ := hrel
        obtain ⟨hcS, hzS⟩ := block_cells (HSW.out wr hw.fr)
        have hSr : wA.heap.size < wr.heap.size := lt_of_block (HSW.out wr hw.fr)
        clear hcb hzb HW2 HWS
        by_cases hlt : k < len
        · obtain ⟨g, c', hv, _, hgl⟩ := hw.l.form (by omega)
          cases hv
          have hpl : (partE (mkO m) CS k).length = len * 4 := partE_len (mkO m) CS len k HSL.out (by omega)
          have hEx : ∀ j, j < 4 → ∃ u, wr.cell? ⟨g, k * 4 + j, none⟩ = some u := fun j hj => by
            have hj' : k * 4 + j < len * 4 := by omega
            exact ⟨_, (hw.l.cellAt (k * 4 + j) hj').trans (List.getElem?_eq_getElem (by omega))⟩
          obtain ⟨u0, hu0⟩ := hEx 0 (by omega)
          obtain ⟨u1, hu1⟩ := hEx 1 (by omega)
          obtain ⟨u2, hu2⟩ := hEx 2 (by omega)
          obtain ⟨u3, hu3⟩ := hEx 3 (by omega)
          rw [Nat.add_zero] at hu0
          have hfz := fun j => hw.l.frozenAt j
          have hset := ((hw.put three_O (k * 4) (.int .i64 m)).put three_O (k * 4 + 1) (.int .i64 0)).put three_O (k * 4 + 2) (.int .i64 0) |>.put three_O (k * 4 + 3) (.slice none 0 0)
          have hps : ((((partE (mkO m) CS k).set (k * 4) (.int .i64 m)).set (k * 4 + 1) (.int .i64 0)).set (k * 4 + 2) (.int .i64 0)).set (k * 4 + 3) (.slice none 0 0) = partE (mkO m) CS (k + 1) := partE_set4 _ _ _ _ _ len k HSL.out hlt
          rw [hps] at hset
          have HR : Hid (WritE _ _ _ _ _ _ _ _ _ _ _ _ _ _) := hset
          have hgS : g < wA.heap.size := HLW.out g rfl
          clear hset hw hpl hEx hps
          go_wp2
          go_roundg (len - (k + 1))
          case measure => omega
          case rel => exact ⟨k + 1, by omega, rfl, by go_num, HR.out⟩
        · obtain rfl : k = len := by omega
          rw [partE_all (mkO m) CS k HSL.out] at hw
          have HM0 : Hid (∀ xs, MidE _ _ _ _ _ _ _ _ _ _ _ _ _ _ _ _ _ _) := fun xs => hw.mid hlbS HLV.out xs
          have HSX : Hid (∀ w', Fr (TurnE b (.slice va k vc) (.slice sa nb sc)) WS w' → w'.heap[wA.heap.size]? = some (.cells #[.int .i64 m, .int .i64 0, .int .i64 0, .slice none 0 0] 96 (0, 0))) := HSW.out
          clear HSW hlt hk hw
          go_wp2_with (first
            | (at_builtin; refine wpList_append_fam _ rfl (.tmp 48) (.tmp 50) 93 rfl 96 i0 _ 4 48 Tryz.underlying93 hi hz0 hz1 hz2 rfl (by decide) (mkO m) rfl (by simp [mkO, Value.oneCell']) (.slice va k vc) k (by rfl) ((HM0.out _).grow ((Fr.refl New _).alloc _)).l ⟨wr.heap.size + 1, 0, none⟩ 1 1 (by rfl) (by decide) (World.news_of_block (new_at2 wr _ _)) (by unfold maxLen; omega) (by omega) ?_; intro g1 c1 w1 ho1 hg1 hb1 hk1; have M1a := (HM0.out _).more three_O ((Fr.refl New _).alloc _) (m := 1) (by omega) ho1 hg1 hb1 hk1; clear ho1 hg1 hb1 hk1; obtain ⟨hc1, hf1⟩ := block_cells M1a.x; obtain ⟨hs1, hsz1⟩ := block_cells (HSX.out w1 M1a.fr); have hl1 : wA.heap.size < w1.heap.size := lt_of_block (HSX.out w1 M1a.fr); have M1 := M1a.put three_O 1 (.slice (some ⟨g1, 0, none⟩) (k + 1) c1); clear M1a; obtain ⟨hr1, hrz1⟩ := block_cells (HSX.out _ M1.fr))
            | (at_builtin; refine wpList_append_fam _ rfl (.tmp 53) (.tmp 56) 93 rfl 96 i0 _ 4 48 Tryz.underlying93 hi hz0 hz1 hz2 rfl (by decide) (mkO m) rfl (by simp [mkO, Value.oneCell']) (.slice va k vc) k (by rfl) (M1.grow ((Fr.refl New _).alloc _)).l ⟨w1.heap.size, 0, none⟩ 2 2 (by rfl) (by decide) (World.news_of_block (blkS w1 _ _ _)) (by unfold maxLen; omega) (by omega) ?_; intro g2 c2 w2 ho2 hg2 hb2 hk2; have M2a := M1.more three_O ((Fr.refl New _).alloc _) (m := 2) (by omega) ho2 hg2 hb2 hk2; clear ho2 hg2 hb2 hk2; obtain ⟨hc2, hf2⟩ := block_cells M2a.x; obtain ⟨hs2, hsz2⟩ := block_cells (HSX.out w2 M2a.fr); have hl2 : wA.heap.size < w2.heap.size := lt_of_block (HSX.out w2 M2a.fr); have M2 := M2a.put three_O 2 (.slice (some ⟨g2, 0, none⟩) (k + 2) c2); clear M2a; obtain ⟨hr2, hrz2⟩ := block_cells (HSX.out _ M2.fr))
            | (at_builtin; refine wpList_append_fam _ rfl (.tmp 59) (.tmp 63) 93 rfl 96 i0 _ 4 48 Tryz.underlying93 hi hz0 hz1 hz2 rfl (by decide) (mkO m) rfl (by simp [mkO, Value.oneCell']) (.slice va k vc) k (by rfl) (M2.grow ((Fr.refl New _).alloc _)).l ⟨w2.heap.size, 0, none⟩ 3 3 (by rfl) (by decide) (World.news_of_block (blkS w2 _ _ _)) (by unfold maxLen; omega) (by omega) ?_; intro g3 c3 w3 ho3 hg3 hb3 hk3; have M3a := M2.more three_O ((Fr.refl New _).alloc _) (m := 3) (by omega) ho3 hg3 hb3 hk3; clear ho3 hg3 hb3 hk3; obtain ⟨hc3, hf3⟩ := block_cells M3a.x; obtain ⟨hs3, hsz3⟩ := block_cells (HSX.out w3 M3a.fr); have hl3 : wA.heap.size < w3.heap.size := lt_of_block (HSX.out w3 M3a.fr); have M3 := M3a.put three_O 3 (.slice (some ⟨g3, 0, none⟩) (k + 3) c3); clear M3a; obtain ⟨hr3, hrz3⟩ := block_cells (HSX.out _ M3.fr))
            | fail)
          clear HM0 hc1 hf1 hc2 hf2 hc3 hf3 M1 M2 hs1 hs2 hs3 hsz1 hsz2 hsz3 hr1 hr2 hr3 hrz1 hrz2 hrz3 hl1 hl2 hl3 hi hz0 hz1 hz2 hcS hzS hSr
          obtain ⟨X, hX⟩ : ∃ X, X = wr.heap.size := ⟨_, rfl⟩
          obtain ⟨W, hW⟩ : ∃ W, W = w3.setCell ⟨wr.heap.size, 3, none⟩ (.slice (some ⟨g3, 0, none⟩) (k + 3) c3) := ⟨_, rfl⟩
          rw [← hW] at M3 ⊢
          rw [← hX] at M3 ⊢
          clear hW hX
          have M : MidE 96 152 4 (mkO m) WS b X #[vws, Xh, .int .i64 ((n + 1 : Nat) : Int), vb1, Xs, .slice sa nb sc] (.slice va k vc) (.slice sa nb sc) k B nb cells #[.slice va k vc, .slice (some ⟨g1, 0, none⟩) (k + 1) c1, .slice (some ⟨g2, 0, none⟩) (k + 2) c2, .slice (some ⟨g3, 0, none⟩) (k + 3) c3, .int .i64 m] _ 3 W := M3
          clear M3
          obtain ⟨hcx, hzx⟩ := block_cells M.x
          obtain ⟨hcb, hzb⟩ := block_cells M.bk
          have hbW : b < W.heap.size := lt_of_block M.bk
          have HB2 : Hid (B ≤ WS.heap.size) := HBS.out
          go_region_law (refine step_entE M three_O 84 j0 _ Tryz.underlying84 hj hy0 hy1 hy2 rfl HB2.out hnb rfl (by simp [Value.oneCell']) (.tmp 70) (.tmp 72) rfl rfl (by simp [Act.eval]) (by simp [Act.eval]) (by first | exact (Fr.refl New W).alloc _ | exact (Fr.refl New W).drew.alloc _ | exact ((Fr.refl New W).alloc _).drew) (by first | exact Go.Deep.blk_alloc_new W _ | exact Go.Deep.blk_alloc_new W.drew _) ?_; intro g cap w4 ho4 hbk4 hfu4 hfr4; obtain ⟨hc4, hf4⟩ := block_cells hbk4)
          all_goals
            obtain ⟨b1, b2, b3, b4⟩ := lastE three_O hbk4 hfu4 hfr4 ho4 5
            go_end0
            have hFw := HF1.out.trans b4 (fun _ _ h => h)
            obtain ⟨q1, q2⟩ := HPF.out _ _ b1 hFw
            refine ⟨rfl, _, _, _, _, _, _, q1, q2, b2, fun u hu => b3 u ?_, fun u hu k' hk' => ?_, HFR.out _ hFw⟩
            · simp only [List.mem_cons, List.not_mem_nil, or_false] at hu ⊢
              rcases hu with h | h | h | h <;> simp [h]
            · have := M.nw u (by simp only [List.mem_cons, List.not_mem_nil, or_false] at hu ⊢; rcases hu with h | h | h | h <;> simp [h]) k' hk'
              rcases this with h | h
              · have := HSZ.out; have := HSA.out; exact .inl (by omega)
              · exact .inr h
end Go.Proofs.YtbagcjlimdilpaaGreat
