/- The state of the law's play where no heap is open: what a step keeps, apart from the walks. -/
import Derived.Test.YtbagcjlimdilpaaGreatSuLooksW
namespace Go.Proofs.YtbagcjlimdilpaaGreat
open Go.RowKit

/-- the World at block b, its images, its book -/
structure Parts (B b c : Nat) (vws : Value) (nw : Nat) (xs : List Value) (vb : Value) (es : List Entry) (w : World) : Prop where
  bk : Wb w b vws (.slice none 0 0) c vb (.slice none 0 0) (.slice none 0 0)
  ws : w.ownsRow B 43 1 vws nw xs
  own : w.ownsRow B 146 5 vb es.length (cellsOf es)
  good : ∀ e ∈ es, e.good w
  few : nw ≤ 12
  les : es.length ≤ c
  base : B ≤ b

/-- which old blocks a step turns -/
def T0 (b : Nat) (vws vb : Value) (k : Nat) : Prop := k = b ∨ vws.ownBlock = some k ∨ vb.ownBlock = some k

section
variable {B b c : Nat} {vws : Value} {nw : Nat} {xs : List Value} {vb : Value} {es : List Entry} {w : World}

theorem type_ne {w : World} {g g' : Nat} {c c' : Array Value} {t t' : TypeId} (h : w.heap[g]? = some (.cells c t (0, 0))) (h' : w.heap[g']? = some (.cells c' t' (0, 0))) (ht : t ≠ t') : g ≠ g' := by
  rintro rfl
  rw [h] at h'
  simp only [Option.some.injEq, Obj.cells.injEq] at h'
  exact ht h'.2.1
theorem own_block {w : World} {B : Nat} {e : TypeId} {size : Nat} {v : Value} {n : Nat} {ys : List Value} (h : w.ownsRow B e size v n ys) {g : Nat} (hg : v.ownBlock = some g) : B ≤ g ∧ ∃ cur, w.heap[g]? = some (.cells cur e (0, 0)) := by
  rcases h.2 with ⟨rfl, _⟩ | ⟨g', cap, cur, rfl, hb, hh, _⟩
  · cases hg
  · simp [Value.ownBlock] at hg; subst hg; exact ⟨hb, cur, hh⟩

theorem Parts.notU (P : Parts B b c vws nw xs vb es w) : ∀ g cur, w.heap[g]? = some (.cells cur 50 (0, 0)) → ¬ T0 b vws vb g := by
  rintro g cur hg (rfl | h | h)
  · exact type_ne hg P.bk (by decide) rfl
  · obtain ⟨_, cur', hh⟩ := own_block P.ws h; exact type_ne hg hh (by decide) rfl
  · obtain ⟨_, cur', hh⟩ := own_block P.own h; exact type_ne hg hh (by decide) rfl
theorem Parts.old (P : Parts B b c vws nw xs vb es w) : ∀ k, k < B → ¬ T0 b vws vb k := by
  rintro k hk (rfl | h | h)
  · have := P.base; omega
  · have := (own_block P.ws h).1; omega
  · have := (own_block P.own h).1; omega
theorem Parts.lt (P : Parts B b c vws nw xs vb es w) : b < w.heap.size := lt_of_block P.bk
theorem Parts.size (P : Parts B b c vws nw xs vb es w) : B ≤ w.heap.size := by have := P.lt; have := P.base; omega
theorem Parts.fr (P : Parts B b c vws nw xs vb es w) {w' : World} (hf : Fr New w w') : Parts B b c vws nw xs vb es w' :=
  ⟨hf.heap P.bk id, hf.owns P.ws (fun _ _ h => h), hf.owns P.own (fun _ _ h => h), fun e he => Entry.good_fr (P.good e he) hf (fun _ _ _ h => h), P.few, P.les, P.base⟩

/-- behind the book's 'words' -/
theorem Parts.words (P : Parts B b c vws nw xs vb es w) {w4 w5 : World} (hf : Fr New w w4) {ao : Option Addr} (hao : ∀ g, ao = some ⟨g, 0, none⟩ → w.heap.size ≤ g) {vb' l0 l1 l2 l3 : Value} {m : Int}
    (b1 : Wb w5 b vws (.slice none 0 0) (c + 1) vb' (.slice none 0 0) (.slice none 0 0)) (b2 : w5.ownsRow B 146 5 vb' (es.length + 1) (cellsOf es ++ [l0, l1, l2, l3, .int .u64 m])) (b3 : ∀ v ∈ [l0, l1, l2, l3], Full w5 v m)
    (b4 : Fr (Turned b ao vb) w4 w5) : Parts B b (c + 1) vws nw xs vb' (es ++ [⟨l0, l1, l2, l3, m⟩]) w5 ∧ Fr (T0 b vws vb) w w5 := by
  have hfr : Fr (T0 b vws vb) w w5 := ((Fr.refl _ _).same hf).trans b4 (fun j hj ht => by
    rcases ht with rfl | h | h
    · exact .inl rfl
    · have := hao j h; omega
    · exact .inr (.inr h))
  refine ⟨⟨b1, b4.owns (hf.owns P.ws (fun _ _ h => h)) ?_, by simpa [cellsOf_snoc, Entry.cells] using b2, ?_, P.few, by have := P.les; simp; omega, P.base⟩, hfr⟩
  · rintro g hg (rfl | h | h)
    · obtain ⟨_, cur, hh⟩ := own_block P.ws hg; exact type_ne hh P.bk (by decide) rfl
    · have := (P.ws.lt g hg).2; have := hao g h; omega
    · obtain ⟨_, cur, hh⟩ := own_block P.ws hg; obtain ⟨_, cur', hh'⟩ := own_block P.own h; exact type_ne hh hh' (by decide) rfl
  · intro e he
    rcases List.mem_append.1 he with he | he
    · exact Entry.good_fr (P.good e he) hfr P.notU
    · obtain rfl : e = ⟨l0, l1, l2, l3, m⟩ := by simpa using he
      exact ⟨b3 _ (by simp), b3 _ (by simp), b3 _ (by simp), b3 _ (by simp)⟩

/-- behind 'image' -/
theorem Parts.image (P : Parts B b c vws nw xs vb es w) {w' : World} {vws' : Value} {nw' : Nat} {xs' : List Value} (hn : nw' ≤ 12)
    (b1 : Wb w' b vws' (.slice none 0 0) c vb (.slice none 0 0) (.slice none 0 0)) (b2 : w'.ownsRow B 43 1 vws' nw' xs') (b4 : Fr (TurnedI b vws) w w') : Parts B b c vws' nw' xs' vb es w' := by
  refine ⟨b1, b2, b4.owns P.own ?_, fun e he => Entry.good_fr (P.good e he) b4 ?_, hn, P.les, P.base⟩
  · rintro g hg (rfl | h)
    · obtain ⟨_, cur, hh⟩ := own_block P.own hg; exact type_ne hh P.bk (by decide) rfl
    · obtain ⟨_, cur, hh⟩ := own_block P.own hg; obtain ⟨_, cur', hh'⟩ := own_block P.ws h; exact type_ne hh hh' (by decide) rfl
  · intro g cur hg h
    exact P.notU g cur hg (by rcases h with h | h; exact .inl h; exact .inr (.inl h))
theorem Parts.imageFr {w5 w6 : World} (h5 : Fr (T0 b vws vb) w w5) (h6 : Fr (TurnedI b vws) w5 w6) : Fr (T0 b vws vb) w w6 :=
  h5.trans h6 (fun j _ ht => by rcases ht with h | h; exact .inl h; exact .inr (.inl h))
end

/-- the state, whatever it holds -/
def Inv (B b c : Nat) (w : World) : Prop := ∃ vws nw xs vb es, Parts B b c vws nw xs vb es w

end Go.Proofs.YtbagcjlimdilpaaGreat
