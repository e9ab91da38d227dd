/- Two stories that lie apart; worlds that are alike but for numbers. -/
import Derived.Test.YtbagcjlimdilpabGreatKtJ20
import Derived.Test.YtbagcjlimdilpabGreatKtJ21
namespace Go.Proofs.YtbagcjlimdilpabGreat
open Go.RowKit Go.Maps

theorem Story.tight {F : Nat → Prop} {sb n : Nat} {ws now : List Int} {sts : List St} {w : World} (h : Story F sb n ws now sts w) : Story (fun k => F k ∧ k < w.heap.size) sb n ws now sts w := by
  obtain ⟨hb, tb, cb, mb, g, vs, vn, vk, un, uk, S, hF⟩ := h
  exact ⟨hb, tb, cb, mb, g, vs, vn, vk, un, uk, S, fun k hk => ⟨hF k hk, S.lt hk⟩⟩
/-- two stories -/
structure Pair (w : World) (sa sb n m B : Nat) (Fs Ft : Nat → Prop) (ws now ws2 now2 : List Int) (sts sts2 : List St) (wr : World) : Prop where
  s : Story Fs sa n ws now sts wr
  t : Story Ft sb m ws2 now2 sts2 wr
  ls : ∀ k, Fs k → w.heap.size ≤ k ∧ k < wr.heap.size
  lt : ∀ k, Ft k → w.heap.size ≤ k ∧ k < wr.heap.size
  no : ∀ k, Fs k → ¬ Ft k
  f : Fr New w wr
  bs : sts.length ≤ B
  bt : sts2.length ≤ B
def Both (w : World) (sa sb n m B : Nat) (wr : World) : Prop := ∃ Fs Ft ws now ws2 now2 sts sts2, Pair w sa sb n m B Fs Ft ws now ws2 now2 sts sts2 wr
theorem Both.new {w wr w1 : World} {sa sb n m B : Nat} (h : Both w sa sb n m B wr) (hf : Fr New wr w1) : Both w sa sb n m B w1 := by
  obtain ⟨Fs, Ft, ws, now, ws2, now2, sts, sts2, p⟩ := h
  have := hf.size
  exact ⟨Fs, Ft, ws, now, ws2, now2, sts, sts2, p.s.new hf, p.t.new hf, fun k hk => ⟨(p.ls k hk).1, by have := (p.ls k hk).2; omega⟩, fun k hk => ⟨(p.lt k hk).1, by have := (p.lt k hk).2; omega⟩, p.no, p.f.same hf, p.bs, p.bt⟩
theorem Both.more {w wr : World} {sa sb n m B B' : Nat} (h : Both w sa sb n m B wr) (hB : B ≤ B') : Both w sa sb n m B' wr := by
  obtain ⟨Fs, Ft, ws, now, ws2, now2, sts, sts2, p⟩ := h
  exact ⟨Fs, Ft, ws, now, ws2, now2, sts, sts2, p.s, p.t, p.ls, p.lt, p.no, p.f, Nat.le_trans p.bs hB, Nat.le_trans p.bt hB⟩
theorem Both.swap {w wr : World} {sa sb n m B : Nat} (h : Both w sa sb n m B wr) : Both w sb sa m n B wr := by
  obtain ⟨Fs, Ft, ws, now, ws2, now2, sts, sts2, p⟩ := h
  exact ⟨Ft, Fs, ws2, now2, ws, now, sts2, sts, p.t, p.s, p.lt, p.ls, fun k h1 h2 => p.no k h2 h1, p.f, p.bt, p.bs⟩
theorem Both.frame {w wr : World} {sa sb n m B : Nat} (h : Both w sa sb n m B wr) : Fr New w wr := by
  obtain ⟨Fs, Ft, ws, now, ws2, now2, sts, sts2, p⟩ := h
  exact p.f
theorem Both.play {w wr : World} {sa sb n m B : Nat} (h : Both w sa sb n m B wr) (hB : B ≤ 1099511000000) {z0 z1 z2 z3 : Int} (h0 : I64 z0) (h1 : I64 z1) (h2 : I64 z2) (h3 : I64 z3) :
    Calls Tryz.prog 5 #[.pointer (some ⟨sa, 0, none⟩), .int .i64 z0, .int .i64 z1, .int .i64 z2, .int .i64 z3] wr fun e w' => e = .returned (.bool true) ∧ Both w sa sb n m (B + 151) w' := by
  obtain ⟨Fs, Ft, ws, now, ws2, now2, sts, sts2, p⟩ := h
  refine (kplay_any Fs sa n ws now sts z0 z1 z2 z3 wr h0 h1 h2 h3 (by have := p.bs; omega) p.s).mono ?_
  rintro e w' ⟨rfl, Fs', ws', now', sts', p1, p2, p3, p4⟩
  have hsz := p2.size
  refine ⟨rfl, _, Ft, ws', now', ws2, now2, sts', sts2, p1.tight, p.t.fr p2 (fun k _ hk hk' => p.no k hk' hk), fun k hk => ⟨?_, hk.2⟩, fun k hk => ⟨(p.lt k hk).1, by have := (p.lt k hk).2; omega⟩, fun k hk ht => ?_, p.f.trans p2 (fun j hj hh => by have := (p.ls j hh).1; omega), by have := p.bs; omega, by have := p.bt; omega⟩
  · rcases p3 k hk.1 with hh | hh
    · exact (p.ls k hh).1
    · have := p.f.size; omega
  · rcases p3 k hk.1 with hh | hh
    · exact p.no k hh ht
    · have := (p.lt k ht).2; omega
/-- the same cells, but for numbers -/
structure Sim (w w' : World) : Prop where
  int : ∀ p k x, w.cell? p = some (.int k x) → ∃ y, w'.cell? p = some (.int k y)
  oth : ∀ p v, w.cell? p = some v → (∀ k x, v ≠ .int k x) → w'.cell? p = some v
  frz : ∀ p, w'.frozen? p = w.frozen? p
  size : w'.heap.size = w.heap.size
theorem Sim.refl (w : World) : Sim w w := ⟨fun _ _ x h => ⟨x, h⟩, fun _ _ h _ => h, fun _ => rfl, rfl⟩
theorem Sim.set {w w' : World} (h : Sim w w') {p : Addr} {k : IntKind} {x : Int} (hp : w.cell? p = some (.int k x)) (y : Int) : Sim w (w'.setCell p (.int k y)) := by
  refine ⟨fun q k' x' hq => ?_, fun q v hq hv => ?_, fun q => ?_, ?_⟩
  · by_cases e : p = q
    · subst e
      rw [hp] at hq
      simp only [Option.some.injEq, Value.int.injEq] at hq
      obtain ⟨rfl, rfl⟩ := hq
      obtain ⟨y', h'⟩ := h.int p k x hp
      exact ⟨y, World.cell?_setCell_same (h := h') ..⟩
    · rw [World.cell?_setCell_other (h := e) ..]
      exact h.int q k' x' hq
  · by_cases e : p = q
    · subst e
      rw [hp] at hq
      simp only [Option.some.injEq] at hq
      exact absurd hq.symm (hv k x)
    · rw [World.cell?_setCell_other (h := e) ..]
      exact h.oth q v hq hv
  · rw [World.frozen?_setCell]
    exact h.frz q
  · rw [World.size_setCell]
    exact h.size
/-- an object that was told, as it is written -/
theorem toldO_at {B : Nat} {w : World} {al : Option Addr} {cl : Nat} {ws : List Int} {l : List Ob} {gs : List Nat} (hT : ToldO B w (.slice al l.length cl) ws l gs) {i : Nat} (hi : i < l.length) :
    ∃ gl gj M h0, al = some ⟨gl, 0, none⟩ ∧ M = 8 * (l[i]).span - 1 ∧ w.cell? ⟨gl, i * 4, none⟩ = some (.int .i64 h0) ∧ w.frozen? ⟨gl, i * 4, none⟩ = false ∧ w.cell? ⟨gl, i * 4 + 3, none⟩ = some (.slice (some ⟨gj, 0, none⟩) M M) ∧ (∀ k, k < M → ∃ y, w.cell? ⟨gj, k, none⟩ = some (.int .u64 y)) ∧ (∀ k, w.frozen? ⟨gj, k, none⟩ = false) ∧ B ≤ gl ∧ B ≤ gj ∧ gl < w.heap.size ∧ gj < w.heap.size := by
  have hg : i < gs.length := by rw [← hT.len]; exact hi
  rcases hT.own.2 with ⟨_, hn⟩ | ⟨g, cap, cur, hv, hb, hh, hnc, hcm, hcs, htk⟩
  · omega
  · cases hv
    have hc : ∀ j, j < 4 → w.cell? ⟨g, i * 4 + j, none⟩ = (aoCell l[i] gs[i])[j]? := fun j hj => by
      rw [← aoCells_get l gs i hi hg j hj, ← htk, (block_cells hh).1]
      rw [List.getElem?_take_of_lt (by omega)]
      simp
    have hr := hT.rows i hi hg
    have hwl : (objW ws l[i]).length = 8 * (l[i]).span - 1 := by simp [objW]
    exact ⟨g, gs[i], _, _, rfl, rfl, (hc 0 (by omega)).trans rfl, (block_cells hh).2 _, (hc 3 (by omega)).trans rfl, fun k hk => ⟨_, hr.cell k (by rw [hwl]; exact hk)⟩, fun k => hr.free k, hb, hT.base _ (List.getElem_mem hg), lt_of_block hh, hr.lt⟩
end Go.Proofs.YtbagcjlimdilpabGreat

