/- What the document's Check tells, as mathematics: the first of a row of things that may be wrong, and its place. -/
import Derived.Test.YtekdicppkeldoaaGreatSpecR
namespace Go.Proofs.YtekdicppkeldoaaGreat

/-- the first thing that is wrong, with its place; 0, 0: nothing is -/
def Told : List (Prop × Int × Int) → Int → Int → Prop
  | [], c, p => c = 0 ∧ p = 0
  | x :: r, c, p => (x.1 ∧ c = x.2.1 ∧ p = x.2.2) ∨ (¬ x.1 ∧ Told r c p)
/-- nothing is wrong -/
def Clear (E : List (Prop × Int × Int)) : Prop := ∀ y ∈ E, ¬ y.1
theorem told_one {E : List (Prop × Int × Int)} {c p c' p' : Int} (h : Told E c p) (h' : Told E c' p') : c = c' ∧ p = p' := by
  induction E with
  | nil => obtain ⟨rfl, rfl⟩ := h; obtain ⟨rfl, rfl⟩ := h'; exact ⟨rfl, rfl⟩
  | cons x r ih =>
    rcases h with ⟨hx, rfl, rfl⟩ | ⟨hx, h⟩
    · rcases h' with ⟨_, rfl, rfl⟩ | ⟨hx', _⟩
      · exact ⟨rfl, rfl⟩
      · exact absurd hx hx'
    · rcases h' with ⟨hx', _⟩ | ⟨_, h'⟩
      · exact absurd hx' hx
      · exact ih h h'
theorem clear_nil : Clear [] := fun y hy => by cases hy
theorem clear_app {a b : List (Prop × Int × Int)} (ha : Clear a) (hb : Clear b) : Clear (a ++ b) := fun y hy => by
  rcases List.mem_append.1 hy with h | h
  · exact ha y h
  · exact hb y h
theorem clear_snoc {a : List (Prop × Int × Int)} {x : Prop × Int × Int} (ha : Clear a) (hx : ¬ x.1) : Clear (a ++ [x]) := clear_app ha (fun y hy => by
  obtain rfl : y = x := by simpa using hy
  exact hx)
theorem told_skip {a b : List (Prop × Int × Int)} {c p : Int} (ha : Clear a) (hb : Told b c p) : Told (a ++ b) c p := by
  induction a with
  | nil => exact hb
  | cons x r ih => exact .inr ⟨ha x (by simp), ih (fun y hy => ha y (by simp [hy]))⟩
theorem told_at {a b : List (Prop × Int × Int)} {x : Prop × Int × Int} (ha : Clear a) (hx : x.1) : Told (a ++ x :: b) x.2.1 x.2.2 := told_skip ha (.inl ⟨hx, rfl, rfl⟩)
theorem told_none {a : List (Prop × Int × Int)} (ha : Clear a) : Told a 0 0 := by
  have := told_skip (b := []) (c := 0) (p := 0) ha ⟨rfl, rfl⟩
  rwa [List.append_nil] at this
/-- a thing that is wrong, within a part of the row -/
theorem told_in {a m b c' : List (Prop × Int × Int)} {x : Prop × Int × Int} {pre post : List (Prop × Int × Int)} (hm : m = pre ++ x :: post) (ha : Clear a) (hp : Clear pre) (hx : x.1) (hb : b = m ++ c') : Told (a ++ b) x.2.1 x.2.2 := by
  subst hb hm
  refine told_skip ha ?_
  rw [List.append_assoc]
  exact told_at hp hx

theorem range_at {n r : Nat} (h : r < n) : ∃ b, List.range n = List.range r ++ r :: b := by
  refine ⟨(List.range (n - (r + 1))).map (r + 1 + ·), ?_⟩
  apply List.ext_getElem?
  intro i
  by_cases hi : i < r
  · rw [List.getElem?_append_left (by simpa using hi)]
    simp [hi, Nat.lt_trans hi h]
  · rw [List.getElem?_append_right (by simpa using hi)]
    simp only [List.length_range]
    by_cases he : i = r
    · subst he; simp [h]
    · obtain ⟨j, rfl⟩ : ∃ j, i = r + 1 + j := ⟨i - (r + 1), by omega⟩
      rw [show r + 1 + j - r = j + 1 by omega, List.getElem?_cons_succ]
      by_cases hn : r + 1 + j < n
      · rw [List.getElem?_range hn, List.getElem?_map, List.getElem?_range (by omega)]
        rfl
      · rw [List.getElem?_eq_none (by simp; omega), List.getElem?_eq_none (by simp; omega)]

abbrev Row4 := List (Prop × Int × Int)
def headT (ws : List Int) : Row4 := [(nblk ws.length = 0, 2, 0), (wd ws 0 ≠ 20261114, 3, 0), (wd ws 1 ≠ nblk ws.length, 3, 1), (wd ws 7 ≠ sumL (ws.take 7), 3, 7), (wd ws 8 ≠ 0, 4, 8)]
def badT (ws : List Int) : Row4 := (bads ws).map (fun (p : Nat) => (True, (5 : Int), (p : Int)))
def rootT (ws : List Int) (l : List Ob) (r : Nat) : Prop × Int × Int := (wd ws (3 + r) ≠ 0 ∧ idx l (wd ws (3 + r)) = none, 6, ((3 + r : Nat) : Int))
def ptrT (ws : List Int) (l : List Ob) (o : Ob) (p : Nat) : Prop × Int × Int := (wd ws (pl o p) ≠ 0 ∧ idx l (wd ws (pl o p)) = none, 7, ((pl o p : Nat) : Int))
def ptrsT (ws : List Int) (l : List Ob) (o : Ob) : Row4 := (List.range o.ptrs).map (ptrT ws l o)
def leakT (ws : List Int) (l : List Ob) (i : Nat) : Prop × Int × Int := (¬ Reach ws l i, 8, ((l[i]?.elim 0 (fun o => 106 + 8 * o.block) : Nat) : Int))
/-- all that may be wrong, in its order -/
def checkT (ws : List Int) : Row4 := headT ws ++ (badT ws ++ ((List.range 4).map (rootT ws (objs ws)) ++ ((objs ws).flatMap (ptrsT ws (objs ws)) ++ (List.range (objs ws).length).map (leakT ws (objs ws)))))
/-- what Check tells of some words -/
def CheckIs (ws : List Int) (c p : Int) : Prop := Told (checkT ws) c p

theorem clear_range {f : Nat → Prop × Int × Int} {r : Nat} (h : Clear ((List.range r).map f)) (hx : ¬ (f r).1) : Clear ((List.range (r + 1)).map f) := by
  rw [List.range_succ, List.map_append]
  exact clear_snoc h hx
theorem map_at {f : Nat → Prop × Int × Int} {n r : Nat} (h : r < n) : ∃ b, (List.range n).map f = (List.range r).map f ++ f r :: b := by
  obtain ⟨b, hb⟩ := range_at h
  exact ⟨b.map f, by rw [hb]; simp⟩

theorem check_bad {ws : List Int} (hA : Clear (headT ws)) {p : Nat} {r : List Nat} (h : bads ws = p :: r) : CheckIs ws 5 p := by
  unfold CheckIs checkT
  refine told_skip hA ?_
  unfold badT
  rw [h]
  exact .inl ⟨trivial, rfl, rfl⟩
theorem clear_bad {ws : List Int} (hA : Clear (headT ws)) (h : bads ws = []) : Clear (headT ws ++ badT ws) := by
  refine clear_app hA ?_
  unfold badT
  rw [h]
  exact clear_nil
theorem check_root {ws : List Int} (hA : Clear (headT ws ++ badT ws)) {r : Nat} (hr : r < 4) (hp : Clear ((List.range r).map (rootT ws (objs ws)))) (hx : wd ws (3 + r) ≠ 0 ∧ idx (objs ws) (wd ws (3 + r)) = none) : CheckIs ws 6 ((3 + r : Nat) : Int) := by
  unfold CheckIs checkT
  obtain ⟨b, hb⟩ := map_at (f := rootT ws (objs ws)) hr
  rw [← List.append_assoc, hb]
  refine told_skip hA ?_
  rw [List.append_assoc]
  exact told_at (x := rootT ws (objs ws) r) hp hx
theorem check_ptr {ws : List Int} (hA : Clear (headT ws ++ badT ws)) (hR : Clear ((List.range 4).map (rootT ws (objs ws)))) {i : Nat} (hi : i < (objs ws).length) (hp : Clear (((objs ws).take i).flatMap (ptrsT ws (objs ws)))) {p : Nat} (hpp : p < ((objs ws)[i]).ptrs)
    (hq : Clear ((List.range p).map (ptrT ws (objs ws) (objs ws)[i]))) (hx : wd ws (pl (objs ws)[i] p) ≠ 0 ∧ idx (objs ws) (wd ws (pl (objs ws)[i] p)) = none) : CheckIs ws 7 ((pl (objs ws)[i] p : Nat) : Int) := by
  unfold CheckIs checkT
  obtain ⟨b, hb⟩ := map_at (f := ptrT ws (objs ws) (objs ws)[i]) hpp
  have e : (objs ws).flatMap (ptrsT ws (objs ws)) = ((objs ws).take i).flatMap (ptrsT ws (objs ws)) ++ (((List.range p).map (ptrT ws (objs ws) (objs ws)[i]) ++ ptrT ws (objs ws) (objs ws)[i] p :: b) ++ ((objs ws).drop (i + 1)).flatMap (ptrsT ws (objs ws))) := by
    have h0 : objs ws = (objs ws).take i ++ ((objs ws)[i] :: (objs ws).drop (i + 1)) := by simp
    conv => lhs; rw [show (objs ws).flatMap (ptrsT ws (objs ws)) = ((objs ws).take i ++ ((objs ws)[i] :: (objs ws).drop (i + 1))).flatMap (ptrsT ws (objs ws)) from congrArg (fun z => List.flatMap (ptrsT ws (objs ws)) z) h0]
    rw [List.flatMap_append, List.flatMap_cons]
    unfold ptrsT
    rw [hb]
  rw [e, ← List.append_assoc]
  refine told_skip hA (told_skip hR ?_)
  simp only [List.append_assoc, List.cons_append]
  refine told_skip hp ?_
  exact told_at (x := ptrT ws (objs ws) (objs ws)[i] p) hq hx
theorem check_leak {ws : List Int} (hA : Clear (headT ws ++ badT ws)) (hR : Clear ((List.range 4).map (rootT ws (objs ws)))) (hP : Clear ((objs ws).flatMap (ptrsT ws (objs ws)))) {i : Nat} (hi : i < (objs ws).length)
    (hp : Clear ((List.range i).map (leakT ws (objs ws)))) (hx : ¬ Reach ws (objs ws) i) : CheckIs ws 8 ((106 + 8 * ((objs ws)[i]).block : Nat) : Int) := by
  unfold CheckIs checkT
  obtain ⟨b, hb⟩ := map_at (f := leakT ws (objs ws)) hi
  rw [← List.append_assoc, hb]
  have := told_skip hA (told_skip hR (told_skip hP (told_at (b := b) (x := leakT ws (objs ws) i) hp hx)))
  have e2 : (leakT ws (objs ws) i).2.2 = ((106 + 8 * ((objs ws)[i]).block : Nat) : Int) := by
    unfold leakT
    rw [List.getElem?_eq_getElem hi]
    rfl
  rw [e2] at this
  exact this
theorem check_ok {ws : List Int} (hA : Clear (headT ws ++ badT ws)) (hR : Clear ((List.range 4).map (rootT ws (objs ws)))) (hP : Clear ((objs ws).flatMap (ptrsT ws (objs ws)))) (hL : Clear ((List.range (objs ws).length).map (leakT ws (objs ws)))) : CheckIs ws 0 0 := by
  unfold CheckIs checkT
  rw [← List.append_assoc]
  exact told_none (clear_app hA (clear_app hR (clear_app hP hL)))
theorem clear_ptrs {ws : List Int} {l m : List Ob} {i : Nat} (hi : i < m.length) (h : Clear ((m.take i).flatMap (ptrsT ws l))) (hq : Clear ((List.range (m[i]).ptrs).map (ptrT ws l m[i]))) : Clear ((m.take (i + 1)).flatMap (ptrsT ws l)) := by
  rw [List.take_succ_eq_append_getElem hi, List.flatMap_append]
  refine clear_app h ?_
  simpa [ptrsT] using hq

end Go.Proofs.YtekdicppkeldoaaGreat
