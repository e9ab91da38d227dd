/- The state of the law's play with its images: what each image is. -/
import Derived.Test.YtekdicppkeldoaaGreatImgC
import Derived.Test.YtekdicppkeldoaaGreatPlainW
namespace Go.Proofs.YtekdicppkeldoaaGreat
open Go.RowKit

/-- each image is some words -/
def Imgs (w : World) (xs : List Value) : Prop := ∀ v ∈ xs, ∃ zs : List Int, Own 0 w v zs ∧ zs.length < 1000 ∧ ∀ z ∈ zs, U z
theorem Imgs.fr {T : Nat → Prop} {w w' : World} {xs : List Value} (h : Imgs w xs) (hf : Fr T w w') (hT : ∀ g cur, w.heap[g]? = some (.cells cur 36 (0, 0)) → ¬ T g) : Imgs w' xs := by
  intro v hv
  obtain ⟨zs, ho, h1, h2⟩ := h v hv
  exact ⟨zs, own_fr ho hf hT, h1, h2⟩
theorem Imgs.new {w w' : World} {xs : List Value} (h : Imgs w xs) (hf : Fr New w w') : Imgs w' xs := h.fr hf (fun _ _ _ h => h)
theorem Imgs.kept {w : World} {xs xs' : List Value} {zs : List Int} (h : Imgs w xs) (hk : Kept zs xs xs' w) (hU : ∀ z ∈ zs, U z) : Imgs w xs' := by
  rcases hk with rfl | ⟨hl, v', rfl, ho⟩
  · exact h
  · intro v hv
    rcases List.mem_append.1 hv with hv | hv
    · exact h v hv
    · obtain rfl : v = v' := by simpa using hv
      exact ⟨zs, ho, hl, hU⟩

/-- the state, whatever it holds -/
def Inv2 (B b c : Nat) (w : World) : Prop := ∃ vws nw xs vb es, Parts B b c vws nw xs vb es w ∧ Imgs w xs
theorem Inv2.new {B b c : Nat} {w w' : World} (h : Inv2 B b c w) (hf : Fr New w w') : Inv2 B b c w' := by
  obtain ⟨vws, nw, xs, vb, es, P, I⟩ := h
  exact ⟨vws, nw, xs, vb, es, P.fr hf, I.new hf⟩
theorem Inv2.size {B b c : Nat} {w : World} (h : Inv2 B b c w) : B ≤ w.heap.size := by
  obtain ⟨vws, nw, xs, vb, es, P, I⟩ := h
  exact P.size
theorem Inv2.inv {B b c : Nat} {w : World} (h : Inv2 B b c w) : Inv B b c w := by
  obtain ⟨vws, nw, xs, vb, es, P, I⟩ := h
  exact ⟨vws, nw, xs, vb, es, P⟩

theorem image2_parts {B b c : Nat} {vws : Value} {nw : Nat} {xs : List Value} {vb : Value} {es : List Entry} {w : World} (P : Parts B b c vws nw xs vb es w) (I : Imgs w xs)
    (ad : Addr) (zs : List Int) (len cap : Nat) (hlen : zs.length = len) (hz : len ≤ 2097152) (hU : ∀ z ∈ zs, U z) (hr : RowU w (some ad) zs) :
    Calls Tryz.prog 34 #[.pointer (some ⟨b, 0, none⟩), .slice (some ad) len cap] w fun e w' => e = .returned (.tuple #[]) ∧ Inv2 B b c w' ∧ Fr (TurnedI b vws) w w' := by
  subst hlen
  refine (image2_any b c vws _ vb _ _ ad cap zs B nw xs w P.bk P.ws P.size P.few hr hz).mono ?_
  rintro e w6 ⟨rfl, vws', nw', xs', hn, _, b1, b2, b3, b4⟩
  have I6 : Imgs w6 xs := I.fr b4 (fun g cur hg ht => P.notU g cur hg (by rcases ht with h | h; exact .inl h; exact .inr (.inl h)))
  exact ⟨rfl, ⟨vws', nw', xs', vb, es, P.image hn b1 b2 b4, I6.kept b3 hU⟩, b4⟩
theorem words2_parts {B b c : Nat} {vws : Value} {nw : Nat} {xs : List Value} {vb : Value} {es : List Entry} {w w4 : World} (P : Parts B b c vws nw xs vb es w) (I : Imgs w xs) (hf : Fr New w w4) (hc : c ≤ 1073741823)
    (ao : Option Addr) (hao : ∀ g, ao = some ⟨g, 0, none⟩ → w.heap.size ≤ g) (zs : List Int) (len : Nat) (hlen : zs.length = len) (hz : len ≤ 1048576) (hl : LR w4 ao zs) :
    Calls Tryz.prog 33 #[.pointer (some ⟨b, 2, none⟩), .slice ao len len] w4 fun e w' => e = .returned (.tuple #[]) ∧ ∃ vb' es', Parts B b (c + 1) vws nw xs vb' es' w' ∧ Imgs w' xs ∧ Fr (T0 b vws vb) w w' ∧ Fr (Turned b ao vb) w4 w' := by
  refine (words_parts P hf hc ao hao zs len hlen hz hl).mono ?_
  rintro e w5 ⟨rfl, vb', es', P5, h5, h45⟩
  exact ⟨rfl, vb', es', P5, I.fr h5 P.notU, h5, h45⟩

/-- one image, as it lies -/
theorem Parts.pick {B b c : Nat} {vws : Value} {nw : Nat} {xs : List Value} {vb : Value} {es : List Entry} {w : World} (P : Parts B b c vws nw xs vb es w) (I : Imgs w xs) (hn : 0 < nw) (j : Nat) (hj : j < nw) :
    ∃ gw cw av cv zs, vws = .slice (some ⟨gw, 0, none⟩) nw cw ∧ w.cell? ⟨gw, j, none⟩ = some (.slice av zs.length cv) ∧ RowU w av zs ∧ zs.length ≤ cv ∧ zs.length < 1000 ∧ ∀ z ∈ zs, U z := by
  obtain ⟨gw, cw, rfl, _, _⟩ := P.ws.form hn
  have hl := P.ws.1
  have hjx : j < xs.length := by omega
  have hc := P.ws.cellAt j (by omega)
  rw [List.getElem?_eq_getElem hjx] at hc
  obtain ⟨zs, ho, h1, h2⟩ := I xs[j] (List.getElem_mem _)
  obtain ⟨av, cv, e, _, hr, _⟩ := own_row ho
  refine ⟨gw, cw, av, cv, zs, rfl, by rw [← e]; exact hc, hr, ?_, h1, h2⟩
  rw [e] at ho
  rcases ho.2 with ⟨h', h0⟩ | ⟨g', cap', cur, h', _, _, hnc, _⟩
  · have : zs = [] := by simpa using h0
    subst this; simp
  · simp only [Value.slice.injEq] at h'
    omega
end Go.Proofs.YtekdicppkeldoaaGreat
