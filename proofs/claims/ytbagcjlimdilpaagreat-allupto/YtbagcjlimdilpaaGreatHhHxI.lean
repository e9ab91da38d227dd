/- Lists that are full of one mark, and made longer with it: what an append leaves of them; the frame of the book's calls 'stores' and 'objects'. -/
import Derived.Test.YtbagcjlimdilpaaGreatHhJ2
import Derived.Maps.AppendAt
namespace Go.Proofs.YtbagcjlimdilpaaGreat
open Go.RowKit

/-- the marks -/
def mkS (m : Int) : List Value := [.int .i64 m, .int .i64 0, .int .u64 0]
def mkO (m : Int) : List Value := [.int .i64 m, .int .i64 0, .int .i64 0, .slice none 0 0]
/-- the cells of n marks -/
def reps (mk : List Value) : Nat → List Value
  | 0 => []
  | n + 1 => reps mk n ++ mk
theorem reps_add (mk : List Value) (n : Nat) : ∀ k, reps mk n ++ reps mk k = reps mk (n + k)
  | 0 => by simp [reps]
  | k + 1 => by rw [reps, ← List.append_assoc, reps_add mk n k]; rfl
theorem reps_len (mk : List Value) : ∀ n, (reps mk n).length = n * mk.length
  | 0 => by simp [reps]
  | n + 1 => by rw [reps, List.length_append, reps_len mk n, Nat.add_mul, Nat.one_mul]
theorem reps_take (mk : List Value) (n k : Nat) (h : k ≤ n) : (reps mk n).take (k * mk.length) = reps mk k := by
  obtain ⟨j, rfl⟩ : ∃ j, n = k + j := ⟨n - k, by omega⟩
  rw [← reps_add, ← reps_len mk k, List.take_left']
  rfl
theorem reps_get (mk : List Value) : ∀ n i j, i < n → j < mk.length → (reps mk n)[i * mk.length + j]? = mk[j]?
  | n + 1, i, j, hi, hj => by
    rw [reps]
    by_cases h : i < n
    · rw [List.getElem?_append_left (by
        rw [reps_len]
        have : (i + 1) * mk.length ≤ n * mk.length := Nat.mul_le_mul_right _ h
        rw [Nat.add_mul, Nat.one_mul] at this
        omega)]
      exact reps_get mk n i j h hj
    · obtain rfl : i = n := by omega
      rw [List.getElem?_append_right (by rw [reps_len]; omega), reps_len]
      congr 1
      omega
theorem reps_one (mk : List Value) (h : ∀ u ∈ mk, u.oneCell' = true) : ∀ n, ∀ u ∈ reps mk n, u.oneCell' = true
  | 0, u, hu => by cases hu
  | n + 1, u, hu => by
    rcases List.mem_append.1 hu with hu | hu
    · exact reps_one mk h n u hu
    · exact h u hu
/-- a list full of marks -/
abbrev FullE (e : TypeId) (size : Nat) (mk : List Value) (w : World) (v : Value) (n : Nat) : Prop := w.ownsRow 0 e size v n (reps mk n)

theorem grown_new {w w' : World} (h : w.grownBy w' none) : Fr New w w' := (Fr.refl New w).grownNew h
theorem own_of {w : World} {e : TypeId} {size : Nat} {v : Value} {n B : Nat} {xs : List Value} (h : w.ownsRow B e size v n xs) : w.ownsRow 0 e size v n xs :=
  ⟨h.1, h.2.imp id (fun ⟨g, cap, cur, e, _, r⟩ => ⟨g, cap, cur, e, Nat.zero_le _, r⟩)⟩

theorem run_append_fam {P : Program} (w : World) (t ty e : TypeId) (i : TypeInfo) (z : Value) (size bytes : Nat) (ht : P.underlying t = some (.slice e)) (hi : P.info? e = some i) (hz : i.zero = some z)
    (hsize : i.size = size) (hby : i.bytes = bytes) (hzs : z.cells.size = size) (hsz : 0 < size) (mk : List Value) (hmk : mk.length = size) (h1 : ∀ u ∈ mk, u.oneCell' = true)
    (v : Value) (n : Nat) (hown : FullE e size mk w v n) (a : Addr) (m c : Nat) (hm : 0 < m) (hnews : ∀ j u, (reps mk m)[j]? = some u → w.cell? (a.add j) = some u)
    (h63 : n + m ≤ maxLen) (hbytes : (n + m) * bytes ≤ 140737488355328) :
    ∃ g cap w', (Builtin.append_ #[t, t] ty #[v, .slice (some a) m c]).run P w = .ok (.slice (some ⟨g, 0, none⟩) (n + m) cap) w' ∧ FullE e size mk w' (.slice (some ⟨g, 0, none⟩) (n + m) cap) (n + m) ∧ w.grownBy w' v.ownBlock ∧ (v.ownBlock = some g ∨ w.heap.size ≤ g) ∧
      ∀ u k, k ≤ n + m → FullE e size mk w u k → FullE e size mk w' u k := by
  have hl : (reps mk m).length = m * size := by rw [reps_len, hmk]
  obtain ⟨v', w', hr, ho, hg, hn, hb⟩ := run_append_own_at (P := P) w 0 t ty e i z size bytes ht hi hz hsize hby hzs hsz v n (reps mk n) hown a m c (reps mk m) hl hnews (reps_one mk h1 m) h63 hbytes (Nat.zero_le _)
  rw [reps_add] at ho
  rcases hown.2 with ⟨rfl, rfl⟩ | ⟨g, cap, cur, rfl, hbg, hgc, hnc, hcm, hcs, htk⟩
  · obtain ⟨g', c', rfl, _, _⟩ := ho.form (by omega)
    refine ⟨g', c', w', hr, ho, hg, .inr ?_, fun u k _ hu => (grown_new hg).owns hu (fun _ _ h => h)⟩
    rcases hb with h | h
    · cases h
    · simp [Value.ownBlock] at h; omega
  · by_cases hroom : n + m ≤ cap
    · have hfit : n * i.size + (reps mk m).length ≤ cur.size := by rw [hl, hcs, hsize, ← Nat.add_mul]; exact Nat.mul_le_mul_right _ hroom
      have hr2 := run_append_room (P := P) w t ty e i ht hi g n cap cur hgc a m c (reps mk m) (by rw [hl, hsize]) hnews (reps_one mk h1 m) hroom hfit
      have hv' : v' = .slice (some ⟨g, 0, none⟩) (n + m) cap := by
        have := hr.symm.trans hr2
        injection this with e1 _
      subst hv'
      refine ⟨g, cap, w', hr, ho, hg, .inl rfl, fun u k hk hu => ?_⟩
      by_cases hug : u.ownBlock = some g
      · rcases ho.2 with ⟨h', _⟩ | ⟨g', cap', cur', hv, _, hgc', _, _, hcs', htk'⟩
        · cases h'
        · simp only [Value.slice.injEq, Option.some.injEq, Addr.mk.injEq, and_true, true_and] at hv
          obtain ⟨rfl, rfl⟩ := hv
          refine ⟨hu.1, ?_⟩
          rcases hu.2 with ⟨rfl, _⟩ | ⟨gu, cu, ku, rfl, _, hgu, hku, hmu, hsu, htu⟩
          · cases hug
          · simp [Value.ownBlock] at hug
            subst hug
            rw [hgc] at hgu
            simp only [Option.some.injEq, Obj.cells.injEq] at hgu
            obtain ⟨rfl, _⟩ := hgu
            have hcc : cu = cap := Nat.eq_of_mul_eq_mul_right hsz (by rw [← hsu, ← hcs])
            subst hcc
            refine .inr ⟨gu, cu, cur', rfl, Nat.zero_le _, hgc', hku, hmu, hcs', ?_⟩
            have hkm : k * size ≤ (n + m) * size := Nat.mul_le_mul_right _ hk
            rw [show cur'.toList.take (k * size) = (cur'.toList.take ((n + m) * size)).take (k * size) by rw [List.take_take, Nat.min_eq_left hkm], htk', ← hmk, reps_take mk _ _ hk]
      · have hf : Fr (fun k => k = g) w w' := (Fr.refl _ _).grown hg (fun k _ hk => by simp [Value.ownBlock] at hk; exact hk.symm)
        exact hf.owns hu (fun k hk he => hug (by rw [hk, he]))
    · obtain ⟨v2, w2, hr2, ho2, hg2⟩ := run_append_arg_grows (P := P) w t ty e i z size bytes ht hi hz hsize hby hzs hsz ⟨g, 0, none⟩ n cap (reps mk n) hown.1 (hown.cells (g := g) rfl) a m c (reps mk m) hl hnews (by omega) h63 hbytes
      have := hr.symm.trans hr2
      injection this with e1 e2
      subst e1
      subst e2
      rw [reps_add] at ho2
      obtain ⟨g', c', rfl, _, _⟩ := ho2.form (by omega)
      exact ⟨g', c', w', hr, own_of ho2, hg, .inr (own_block ho2 rfl).1, fun u k _ hu => (grown_new hg2).owns hu (fun _ _ h => h)⟩

theorem wpList_append_fam {P : Program} (w : World) {ops : Array Oper} {rest : List Oper} {o : Oper} {a : Act} {Q : Exit → Act → World → Prop} (hgd : o.guard = none) (s x : Operand) (t : TypeId)
    (hop : o.op = .call { callee := .builtin .append, args := #[s, x], argTypes := #[t, t] })
    (e : TypeId) (i : TypeInfo) (z : Value) (size bytes : Nat) (ht : P.underlying t = some (.slice e)) (hi : P.info? e = some i) (hz : i.zero = some z)
    (hsize : i.size = size) (hby : i.bytes = bytes) (hzs : z.cells.size = size) (hsz : 0 < size) (mk : List Value) (hmk : mk.length = size) (h1 : ∀ u ∈ mk, u.oneCell' = true)
    (v : Value) (n : Nat) (hs : a.eval s = v) (hown : FullE e size mk w v n) (ad : Addr) (m c : Nat) (hx : a.eval x = .slice (some ad) m c) (hm : 0 < m) (hnews : ∀ j u, (reps mk m)[j]? = some u → w.cell? (ad.add j) = some u)
    (h63 : n + m ≤ maxLen) (hbytes : (n + m) * bytes ≤ 140737488355328)
    (h : ∀ g cap w', FullE e size mk w' (.slice (some ⟨g, 0, none⟩) (n + m) cap) (n + m) → w.grownBy w' v.ownBlock → (v.ownBlock = some g ∨ w.heap.size ≤ g) →
      (∀ u k, k ≤ n + m → FullE e size mk w u k → FullE e size mk w' u k) → wpList P ops Q rest (a.put o.dst (.slice (some ⟨g, 0, none⟩) (n + m) cap)) w') :
    wpList P ops Q (o :: rest) a w := by
  refine wpList_plain hgd fun K hK => ?_
  obtain ⟨g, cap, w', hr, h2, h3, h4, h5⟩ := run_append_fam (P := P) w t o.type e i z size bytes ht hi hz hsize hby hzs hsz mk hmk h1 v n hown ad m c hm hnews h63 hbytes
  unfold Oper.wp execOp
  simp only [hop, resolve, invoke, builtin, Sem.run_bind, Sem.run_pure, Result.andThen_ok, List.map_toArray, List.map_cons, List.map_nil, hs, hx, hr]
  exact hK _ _ (h g cap w' h2 h3 h4 h5)

/-- which old blocks 'stores' and 'objects' turn -/
def TurnE (b : Nat) (v vt : Value) (k : Nat) : Prop := k = b ∨ v.ownBlock = some k ∨ vt.ownBlock = some k
/-- the kinds of the list, the entry and the World are three -/
def Three (e te : TypeId) : Prop := e ≠ te ∧ e ≠ 88 ∧ te ≠ 88
/-- while the list is written full -/
structure WritE (e te : TypeId) (size : Nat) (w : World) (b : Nat) (arr : Array Value) (v vt : Value) (n : Nat) (ys : List Value) (B nb : Nat) (cells : List Value) (wr : World) : Prop where
  bk : wr.heap[b]? = some (.cells arr 88 (0, 0))
  l : wr.ownsRow 0 e size v n ys
  own : wr.ownsRow B te 5 vt nb cells
  fr : Fr (TurnE b v vt) w wr
/-- midway: the new entry lies at X -/
structure MidE (e te : TypeId) (size : Nat) (mk : List Value) (w : World) (b X : Nat) (arr : Array Value) (v vt : Value) (n B nb : Nat) (cells : List Value) (xs : Array Value) (fs : List Value) (N : Nat) (wX : World) : Prop where
  x : wX.heap[X]? = some (.cells xs te (0, 0))
  bk : wX.heap[b]? = some (.cells arr 88 (0, 0))
  l : FullE e size mk wX v n
  own : wX.ownsRow B te 5 vt nb cells
  fr : Fr (TurnE b v vt) w wX
  old : w.heap.size ≤ X
  lb : b < w.heap.size
  lv : ∀ g, vt.ownBlock = some g → g < w.heap.size
  full : ∀ u ∈ fs, ∃ k, k ≤ n + N ∧ FullE e size mk wX u k
  nw : ∀ u ∈ fs, ∀ k, u.ownBlock = some k → w.heap.size ≤ k ∨ v.ownBlock = some k
section
variable {e te : TypeId} {size : Nat} {mk : List Value} {w : World} {b X : Nat} {arr : Array Value} {v vt : Value} {n B nb : Nat} {cells : List Value} {xs : Array Value} {fs : List Value} {N : Nat} {wX : World}
theorem WritE.new {ys : List Value} {wr w' : World} (h : WritE e te size w b arr v vt n ys B nb cells wr) (hf : Fr New wr w') : WritE e te size w b arr v vt n ys B nb cells w' :=
  ⟨hf.heap h.bk id, hf.owns h.l (fun _ _ h => h), hf.owns h.own (fun _ _ h => h), h.fr.same hf⟩
theorem WritE.count (h3 : Three e te) {ys : List Value} {wr : World} (h : WritE e te size w b arr v vt n ys B nb cells wr) (i : Nat) (u : Value) : WritE e te size w b (arr.setIfInBounds i u) v vt n ys B nb cells (wr.setCell ⟨b, i, none⟩ u) := by
  have hf : Fr (fun k => k = b) wr (wr.setCell ⟨b, i, none⟩ u) := (Fr.refl (fun k => k = b) wr).setCell (p := ⟨b, i, none⟩) (fun _ => rfl) _
  refine ⟨heap_setCell_same wr b i arr _ u h.bk, hf.owns h.l (fun g hg he => ?_), hf.owns h.own (fun g hg he => ?_), h.fr.setCell (fun _ => .inl rfl) _⟩
  · obtain ⟨_, cur, hh⟩ := own_block h.l hg; exact type_ne hh h.bk h3.2.1 he
  · obtain ⟨_, cur, hh⟩ := own_block h.own hg; exact type_ne hh h.bk h3.2.2 he
/-- a cell of the list is written -/
theorem WritE.put (h3 : Three e te) {ys : List Value} {wr : World} {g c : Nat} (h : WritE e te size w b arr (.slice (some ⟨g, 0, none⟩) n c) vt n ys B nb cells wr) (i : Nat) (u : Value) : WritE e te size w b arr (.slice (some ⟨g, 0, none⟩) n c) vt n (ys.set i u) B nb cells (wr.setCell ⟨g, i, none⟩ u) := by
  have hf : Fr (fun k => k = g) wr (wr.setCell ⟨g, i, none⟩ u) := (Fr.refl (fun k => k = g) wr).setCell (p := ⟨g, i, none⟩) (fun _ => rfl) _
  obtain ⟨_, cur, hh⟩ := own_block h.l (g := g) rfl
  refine ⟨hf.heap h.bk (fun he => type_ne hh h.bk h3.2.1 he.symm), (h.l.stored i u).1, hf.owns h.own (fun g' hg he => ?_), h.fr.setCell (p := ⟨g, i, none⟩) (fun _ => .inr (.inl rfl)) _⟩
  obtain ⟨_, cur', hh'⟩ := own_block h.own hg
  exact type_ne hh hh' h3.1 he.symm
/-- the new entry is laid behind -/
theorem WritE.mid {wr : World} (h : WritE e te size w b arr v vt n (reps mk n) B nb cells wr) (hb : b < w.heap.size) (hv : ∀ g, vt.ownBlock = some g → g < w.heap.size) (xs : Array Value) :
    MidE e te size mk w b wr.heap.size arr v vt n B nb cells xs [v] 0 (wr.alloc (.cells xs te)) := by
  have hf : Fr New wr (wr.alloc (.cells xs te)) := (Fr.refl _ _).alloc _
  refine ⟨Go.Deep.blk_alloc_new wr _, hf.heap h.bk id, hf.owns h.l (fun _ _ h => h), hf.owns h.own (fun _ _ h => h), h.fr.same hf, h.fr.size, hb, hv, fun u hu => ?_, fun u hu k hk => ?_⟩
  · obtain rfl : u = v := by simpa using hu
    exact ⟨n, by omega, hf.owns h.l (fun _ _ h => h)⟩
  · obtain rfl : u = v := by simpa using hu
    exact .inr hk
namespace MidE
theorem grow (h : MidE e te size mk w b X arr v vt n B nb cells xs fs N wX) {w' : World} (hf : Fr New wX w') : MidE e te size mk w b X arr v vt n B nb cells xs fs N w' :=
  ⟨hf.heap h.x id, hf.heap h.bk id, hf.owns h.l (fun _ _ h => h), hf.owns h.own (fun _ _ h => h), h.fr.same hf, h.old, h.lb, h.lv, fun u hu => by obtain ⟨k, h1, h2⟩ := h.full u hu; exact ⟨k, h1, hf.owns h2 (fun _ _ h => h)⟩, h.nw⟩
theorem put (h3 : Three e te) (h : MidE e te size mk w b X arr v vt n B nb cells xs fs N wX) (i : Nat) (u : Value) : MidE e te size mk w b X arr v vt n B nb cells (xs.setIfInBounds i u) fs N (wX.setCell ⟨X, i, none⟩ u) := by
  have hf : Fr (fun k => k = X) wX (wX.setCell ⟨X, i, none⟩ u) := (Fr.refl (fun k => k = X) wX).setCell (p := ⟨X, i, none⟩) (fun _ => rfl) u
  refine ⟨heap_setCell_same wX X i xs _ u h.x, hf.heap h.bk (fun he => type_ne h.x h.bk h3.2.2 he.symm), hf.owns h.l (fun g hg he => ?_), hf.owns h.own (fun g hg he => ?_), h.fr.setCell (fun hlt => absurd hlt (by have := h.old; simp; omega)) u, h.old, h.lb, h.lv, fun u' hu => ?_, h.nw⟩
  · obtain ⟨_, cur, hh⟩ := own_block h.l hg; exact type_ne hh h.x h3.1 he
  · have := h.lv g hg; have := h.old; omega
  · obtain ⟨k, h1, h2⟩ := h.full u' hu
    exact ⟨k, h1, hf.owns h2 (fun g hg he => by obtain ⟨_, cur, hh⟩ := own_block h2 hg; exact type_ne hh h.x h3.1 he)⟩
/-- the list is made longer -/
theorem more (h3 : Three e te) (h : MidE e te size mk w b X arr v vt n B nb cells xs fs N wX) {w3 w4 : World} (hf : Fr New wX w3) {m g c : Nat} (hm : N ≤ m) (h2 : FullE e size mk w4 (.slice (some ⟨g, 0, none⟩) (n + m) c) (n + m)) (hg : w3.grownBy w4 v.ownBlock) (hb : v.ownBlock = some g ∨ w3.heap.size ≤ g)
    (hu : ∀ u k, k ≤ n + m → FullE e size mk w3 u k → FullE e size mk w4 u k) : MidE e te size mk w b X arr v vt n B nb cells xs (.slice (some ⟨g, 0, none⟩) (n + m) c :: fs) m w4 := by
  have h' := h.grow hf
  have hf4 : Fr (fun k => v.ownBlock = some k) w3 w4 := (Fr.refl _ _).grown hg (fun k _ hk => hk)
  refine ⟨hf4.heap h'.x (fun hv => ?_), hf4.heap h'.bk (fun hv => ?_), hu v n (by omega) h'.l, hf4.owns h'.own (fun g' hg' hv => ?_), h'.fr.trans hf4 (fun j _ hj => .inr (.inl hj)), h.old, h.lb, h.lv, fun u hu' => ?_, fun u hu' k hk => ?_⟩
  · obtain ⟨_, cur, hh⟩ := own_block h'.l hv; exact type_ne hh h'.x h3.1 rfl
  · obtain ⟨_, cur, hh⟩ := own_block h'.l hv; exact type_ne hh h'.bk h3.2.1 rfl
  · obtain ⟨_, cur, hh⟩ := own_block h'.l hv; obtain ⟨_, cur', hh'⟩ := own_block h'.own hg'; exact type_ne hh hh' h3.1 rfl
  · rcases List.mem_cons.1 hu' with rfl | hu'
    · exact ⟨n + m, by omega, h2⟩
    · obtain ⟨k, h1, h2⟩ := h'.full u hu'
      exact ⟨k, by omega, hu u k (by omega) h2⟩
  · rcases List.mem_cons.1 hu' with rfl | hu'
    · simp [Value.ownBlock] at hk
      subst hk
      rcases hb with hb | hb
      · exact .inr hb
      · have := h'.fr.size; exact .inl (by omega)
    · exact h.nw u hu' k hk
/-- the entry is appended to the book's list -/
theorem app (h3 : Three e te) (h : MidE e te size mk w b X arr v vt n B nb cells xs fs N wX) {w3 w4 : World} (hf : Fr New wX w3) (hg : w3.grownBy w4 vt.ownBlock) :
    w4.heap[b]? = some (.cells arr 88 (0, 0)) ∧ (∀ u ∈ fs, ∃ k, k ≤ n + N ∧ FullE e size mk w4 u k) ∧ Fr (TurnE b v vt) w w4 := by
  have h' := h.grow hf
  have hf4 : Fr (fun k => vt.ownBlock = some k) w3 w4 := (Fr.refl _ _).grown hg (fun k _ hk => hk)
  refine ⟨hf4.heap h'.bk (fun hv => ?_), fun u hu => ?_, h'.fr.trans hf4 (fun j _ hj => .inr (.inr hj))⟩
  · obtain ⟨_, cur, hh⟩ := own_block h'.own hv; exact type_ne hh h'.bk h3.2.2 rfl
  · obtain ⟨k, h1, h2⟩ := h'.full u hu
    exact ⟨k, h1, hf4.owns h2 (fun g hg hv => by obtain ⟨_, cur, hh⟩ := own_block h'.own hv; obtain ⟨_, cur', hh'⟩ := own_block h2 hg; exact type_ne hh hh' h3.1.symm rfl)⟩
end MidE
/-- behind the last store -/
theorem lastE (h3 : Three e te) {w4 : World} (hbk : w4.heap[b]? = some (.cells arr 88 (0, 0))) (hfull : ∀ u ∈ fs, ∃ k, k ≤ n + N ∧ FullE e size mk w4 u k) (hfr : Fr (TurnE b v vt) w w4) {vt' : Value} {nb' : Nat} {cells' : List Value} (ho : w4.ownsRow B te 5 vt' nb' cells') (i : Nat) :
    (w4.setCell ⟨b, i, none⟩ vt').heap[b]? = some (.cells (arr.setIfInBounds i vt') 88 (0, 0)) ∧ (w4.setCell ⟨b, i, none⟩ vt').ownsRow B te 5 vt' nb' cells' ∧ (∀ u ∈ fs, ∃ k, k ≤ n + N ∧ FullE e size mk (w4.setCell ⟨b, i, none⟩ vt') u k) ∧ Fr (TurnE b v vt) w (w4.setCell ⟨b, i, none⟩ vt') := by
  have hf : Fr (fun k => k = b) w4 (w4.setCell ⟨b, i, none⟩ vt') := (Fr.refl (fun k => k = b) w4).setCell (p := ⟨b, i, none⟩) (fun _ => rfl) _
  refine ⟨heap_setCell_same w4 b i arr _ _ hbk, hf.owns ho (fun g hg he => ?_), fun u hu => ?_, hfr.setCell (fun _ => .inl rfl) _⟩
  · obtain ⟨_, cur, hh⟩ := own_block ho hg; exact type_ne hh hbk h3.2.2 he
  · obtain ⟨k, h1, h2⟩ := hfull u hu
    exact ⟨k, h1, hf.owns h2 (fun g hg he => by obtain ⟨_, cur, hh⟩ := own_block h2 hg; exact type_ne hh hbk h3.2.1 he)⟩
end
end Go.Proofs.YtbagcjlimdilpaaGreat
