/- The walk of the program's Holds: is a word held by a root or a pointer? -/
import Derived.Test.YtbagcjlimdilpaaGreatHhPgH
import Derived.Test.YtbagcjlimdilpaaGreatHhJ9
namespace Go.Proofs.YtbagcjlimdilpaaGreat
open Go.RowKit

/-- is x held by a root below r? -/
def RootHeld (now : List Int) (x : Int) (r : Nat) : Prop := ∃ q, q < r ∧ wd now (3 + q) = x
/-- .. by an object below i? -/
def ObjHeld (now : List Int) (l : List Ob) (x : Int) (i : Nat) : Prop := ∃ j, ∃ hj : j < l.length, j < i ∧ ∃ p, p < (l[j]).ptrs ∧ wd now (pl l[j] p) = x
theorem held_parts {now : List Int} {l : List Ob} {x : Int} (h1 : ¬ RootHeld now x 4) (h2 : ¬ ObjHeld now l x l.length) : ¬ HeldBy now l x := by
  rintro (⟨r, hr, e⟩ | ⟨i, hi, p, hp, e⟩)
  · exact h1 ⟨r, hr, e⟩
  · exact h2 ⟨i, hi, hi, p, hp, e⟩

set_option maxHeartbeats 4000000 in
set_option maxRecDepth 100000 in
theorem holds_row (rt : Nat) (rx : Value) (fL fR : Nat) (ry : Value) (ws : List Int) (v : Value) (x : Int) (w : World) (hn : nblk ws.length ≠ 0) (hrow : RowAt w rt rx fL fR ry ws) (hv : LiesT w v (objs ws)) :
    Calls Tryz.prog 71 #[v, .iface rt rx, .int .u64 x] w fun e w' => ∃ b, e = .returned (.bool b) ∧ (b = true ↔ HeldBy ws (objs ws) x) ∧ Fr New w w' := by
  obtain ⟨hlen, hn1, hn2⟩ := nblk_some hn
  obtain ⟨l, hl⟩ : ∃ l, l = objs ws := ⟨_, rfl⟩
  have HL : Hid (l = objs ws) := hl
  rw [← hl] at hv ⊢
  have HV : Hid (∀ wr, Fr New w wr → LiesT wr v l) := fun wr hf => hv.fr hf (fun _ _ h => h)
  have HW : Hid (∀ wr, Fr New w wr → ∀ i, i < ws.length → Calls Tryz.prog fR #[ry, .int .i64 (i : Nat)] wr fun e w'' => e = .returned (.int .u64 (wd ws i)) ∧ w'' = wr) := hrow.read
  have HM : Hid (∀ w', Fr New w w' → (method 356 rt rx "Read").run Tryz.prog w' = .ok (fR, ry) w') := hrow.mread
  have HBO : Hid (∀ o ∈ l, o.block < 32 ∧ 106 + 8 * (o.block + o.span) ≤ ws.length ∧ o.ptrs < 8 * o.span ∧ o.ptrs < 32) := fun o ho => by
    rw [hl] at ho
    have := objs_in ho
    exact ⟨by omega, by omega, by omega, by omega⟩
  obtain ⟨av, cv, rfl, _⟩ := hv
  have hcf := hrow.cread
  have har := hrow.aread
  have hmf : ∀ (fn : Fn) (first cap : Array Value) (w : World), (Instr.makeFunc fn first cap).run Tryz.prog w = .ok (.func fn first cap) w := fun _ _ _ _ => rfl
  have hl32 : l.length ≤ 32 := by rw [hl]; exact objs_len ws
  have hL1 : 114 ≤ ws.length := by omega
  clear hrow hl hn hlen hn1 hn2
  go_enter Tryz.func71, Tryz.ntmps71
  go_wp2
  go_loopg [11] 4 (fun gh t wr => ∃ r : Nat, r ≤ 4 ∧ gh = 4 - r ∧ t = .int .i64 r ∧ Fr New w wr ∧ ¬ RootHeld ws x r)
  case atStart => exact ⟨0, by omega, rfl, rfl, Fr.refl _ _, fun ⟨q, hq, _⟩ => by omega⟩
  case round =>
    obtain ⟨r, hr4, rfl, rfl, hf, hno⟩ := hrel
    by_cases hr : r < 4
    · have HR : Hid (Calls Tryz.prog fR #[ry, .int .i64 ((3 + r : Nat) : Int)] wr fun e w'' => e = .returned (.int .u64 (wd ws (3 + r))) ∧ w'' = wr) := HW.out wr hf (3 + r) (by omega)
      have hmr := HM.out wr hf
      obtain ⟨y, hy⟩ : ∃ y, y = wd ws (3 + r) := ⟨_, rfl⟩
      rw [← hy] at HR
      by_cases he : y = x
      · have HT : Hid (HeldBy ws l x) := .inl ⟨r, hr, hy.symm.trans he⟩
        have hb : (y == x) = true := by simpa using he
        clear hy he
        go_wp2_with (first
          | (refine calls_same HR.out ?_)
          | fail)
        go_ret
        exact ⟨true, rfl, ⟨fun _ => HT.out, fun _ => rfl⟩, hf⟩
      · have hb : (y == x) = false := by simpa using he
        have hnx : ¬ RootHeld ws x (r + 1) := by
          rintro ⟨q, hq, e⟩
          by_cases hqr : q = r
          · subst hqr; exact he (hy.trans e)
          · exact hno ⟨q, by omega, e⟩
        clear hy he
        go_wp2_with (first
          | (refine calls_same HR.out ?_)
          | fail)
        go_roundg (4 - (r + 1))
        case measure => omega
        case rel => exact ⟨r + 1, by omega, rfl, by go_num, hf, hnx⟩
    · obtain rfl : r = 4 := by omega
      have HRT : Hid (¬ RootHeld ws x 4) := hno
      clear hno hr hr4
      go_wp2
      go_loopg [23] l.length (fun gh t wr => ∃ i : Nat, i ≤ l.length ∧ gh = l.length - i ∧ t = .int .i64 i ∧ Fr New w wr ∧ ¬ ObjHeld ws l x i)
      case atStart => exact ⟨0, by omega, rfl, rfl, hf, fun ⟨_, _, hj, _⟩ => by omega⟩
      case round =>
        clear hf
        obtain ⟨i, hil, rfl, rfl, hf2, hno⟩ := hrel
        by_cases hi : i < l.length
        · have hd0 : decide ((i : Int) < (l.length : Int)) = true := by simp; omega
          obtain ⟨g, rfl, e0, e1, e2, e3⟩ := (HV.out wr hf2).at i hi
          obtain ⟨hb1, hb2, hb3, hb4⟩ := HBO.out l[i] (List.getElem_mem _)
          obtain ⟨o, ho⟩ : ∃ o, o = l[i] := ⟨_, rfl⟩
          have HO : Hid (o = l[i]) := ho
          rw [← ho] at e1 e2 e3 hb1 hb2 hb3 hb4
          obtain ⟨b, sp, pt⟩ := o
          simp only at e1 e2 e3 hb1 hb2 hb3 hb4
          obtain ⟨B, hB⟩ : ∃ B : Nat, B = b + 1 := ⟨_, rfl⟩
          rw [← hB] at e1
          have HBB : Hid (B = b + 1) := hB
          have hB33 : B ≤ 32 := by omega
          clear ho hB
          go_wp2
          have htq : (wr.alloc (.cells #[.int .i64 1, .int .i64 B, .int .i64 sp, .int .i64 pt] 115)).heap[wr.heap.size]? = some (.cells #[.int .i64 1, .int .i64 B, .int .i64 sp, .int .i64 pt] 115 (0, 0)) := Go.Deep.blk_alloc_new wr _
          have hf3 : Fr New w (wr.alloc (.cells #[.int .i64 1, .int .i64 B, .int .i64 sp, .int .i64 pt] 115)) := hf2.alloc _
          obtain ⟨gt, hgt⟩ : ∃ gt, gt = wr.heap.size := ⟨_, rfl⟩
          rw [← hgt] at htq
          rw [← hgt]
          clear hgt e0 e1 e2 e3
          go_loopg [29] pt (fun gh t wr => ∃ p : Nat, p ≤ pt ∧ gh = pt - p ∧ t = .int .i64 p ∧ Fr New w wr ∧ wr.heap[gt]? = some (.cells #[.int .i64 1, .int .i64 B, .int .i64 sp, .int .i64 pt] 115 (0, 0)) ∧ ∀ q, q < p → wd ws (pl ⟨b, sp, pt⟩ q) ≠ x)
          case atStart => exact ⟨0, by omega, rfl, rfl, hf3, htq, fun q hq => by omega⟩
          case round =>
            clear hf3 htq hf2
            obtain ⟨p, hpp, rfl, rfl, hf3, htq, hne⟩ := hrel
            by_cases hp : p < pt
            · obtain ⟨y, hy⟩ : ∃ y, y = wd ws (pl ⟨b, sp, pt⟩ p) := ⟨_, rfl⟩
              have HPL : Hid (∀ w2, Calls Tryz.prog 60 #[.agg #[.int .i64 1, .int .i64 B, .int .i64 sp, .int .i64 pt], .int .i64 p] w2 fun e w' => e = .returned (.int .i64 ((pl ⟨b, sp, pt⟩ p : Nat) : Int)) ∧ Fr New w2 w') := fun w2 => by rw [HBB.out]; exact twplace_any 1 sp pt b p w2 (by omega) (by omega)
              have HR : Hid (∀ w2, Fr New w w2 → Calls Tryz.prog fR #[ry, .int .i64 ((pl ⟨b, sp, pt⟩ p : Nat) : Int)] w2 fun e w'' => e = .returned (.int .u64 y) ∧ w'' = w2) := fun w2 hf => by
                rw [hy]
                exact HW.out w2 hf _ (by unfold pl; simp only; omega)
              obtain ⟨pq, hpq⟩ : ∃ pq : Nat, pq = pl ⟨b, sp, pt⟩ p := ⟨_, rfl⟩
              rw [← hpq] at HPL HR
              obtain ⟨ht, hz⟩ := block_cells htq
              have ht0 : wr.cell? ⟨gt, 0, none⟩ = some (.int .i64 1) := (ht 0).trans rfl
              have ht1 : wr.cell? ⟨gt, 1, none⟩ = some (.int .i64 B) := (ht 1).trans rfl
              have ht2 : wr.cell? ⟨gt, 2, none⟩ = some (.int .i64 sp) := (ht 2).trans rfl
              have ht3 : wr.cell? ⟨gt, 3, none⟩ = some (.int .i64 pt) := (ht 3).trans rfl
              by_cases he : y = x
              · have HT : Hid (HeldBy ws l x) := .inr ⟨i, hi, p, by rw [← HO.out]; exact hp, by rw [← HO.out]; exact hy.symm.trans he⟩
                have hb : (y == x) = true := by simpa using he
                clear hpq hy he ht hz hne
                go_upto_region 13 with fail
                go_region_held3 (fun w' => w'.cell? ⟨gt, 0, none⟩ = some (.int .i64 1) ∧ w'.cell? ⟨gt, 1, none⟩ = some (.int .i64 B) ∧ w'.cell? ⟨gt, 2, none⟩ = some (.int .i64 sp) ∧ w'.cell? ⟨gt, 3, none⟩ = some (.int .i64 pt)) (first | go_keep | exact hkeep2)
                  (first
                    | (go_at_call 60; refine (HPL.out _).mono ?_; rintro e w2 ⟨rfl, hf2⟩; have hf2' : Fr New wr w2 := ((Fr.refl New wr).drew.same hf2); have hkeep2 : w2.cell? ⟨gt, 0, none⟩ = some (.int .i64 1) ∧ w2.cell? ⟨gt, 1, none⟩ = some (.int .i64 B) ∧ w2.cell? ⟨gt, 2, none⟩ = some (.int .i64 sp) ∧ w2.cell? ⟨gt, 3, none⟩ = some (.int .i64 pt) := ⟨hf2'.cell ht0 id, hf2'.cell ht1 id, hf2'.cell ht2 id, hf2'.cell ht3 id⟩)
                    | (rw [HM.out _ (hf3.same hf2')])
                    | (refine calls_same (HR.out _ (hf3.same hf2')) ?_))
                all_goals
                  clear hkeep2
                  go_wp2_with fail
                  go_ret
                  exact ⟨true, rfl, ⟨fun _ => HT.out, fun _ => rfl⟩, hf3.same hf2'⟩
              · have hb : (y == x) = false := by simpa using he
                have hnx : ∀ q, q < p + 1 → wd ws (pl ⟨b, sp, pt⟩ q) ≠ x := fun q hq => by
                  by_cases hqp : q = p
                  · subst hqp; rw [← hy]; exact he
                  · exact hne q (by omega)
                have HNX : Hid (∀ q, q < p + 1 → wd ws (pl ⟨b, sp, pt⟩ q) ≠ x) := hnx
                clear hpq hy he ht hz hne hnx
                go_upto_region 13 with fail
                go_region_held3 (fun w' => w'.cell? ⟨gt, 0, none⟩ = some (.int .i64 1) ∧ w'.cell? ⟨gt, 1, none⟩ = some (.int .i64 B) ∧ w'.cell? ⟨gt, 2, none⟩ = some (.int .i64 sp) ∧ w'.cell? ⟨gt, 3, none⟩ = some (.int .i64 pt)) (first | go_keep | exact hkeep2)
                  (first
                    | (go_at_call 60; refine (HPL.out _).mono ?_; rintro e w2 ⟨rfl, hf2⟩; have hf2' : Fr New wr w2 := ((Fr.refl New wr).drew.same hf2); have hkeep2 : w2.cell? ⟨gt, 0, none⟩ = some (.int .i64 1) ∧ w2.cell? ⟨gt, 1, none⟩ = some (.int .i64 B) ∧ w2.cell? ⟨gt, 2, none⟩ = some (.int .i64 sp) ∧ w2.cell? ⟨gt, 3, none⟩ = some (.int .i64 pt) := ⟨hf2'.cell ht0 id, hf2'.cell ht1 id, hf2'.cell ht2 id, hf2'.cell ht3 id⟩)
                    | (rw [HM.out _ (hf3.same hf2')])
                    | (refine calls_same (HR.out _ (hf3.same hf2')) ?_))
                all_goals
                  clear hkeep2
                  go_wp2_with fail
                  go_roundg (pt - (p + 1))
                  case measure => omega
                  case rel => exact ⟨p + 1, by omega, rfl, by go_num, hf3.same hf2', hf2'.heap htq id, HNX.out⟩
            · obtain rfl : p = pt := by omega
              have hnx : ¬ ObjHeld ws l x (i + 1) := by
                rintro ⟨j, hj, hji, q, hq, e⟩
                by_cases hij : j = i
                · subst hij
                  rw [← HO.out] at hq e
                  exact hne q hq e
                · exact hno ⟨j, hj, by omega, q, hq, e⟩
              go_wp2
              go_roundg (l.length - (i + 1))
              case measure => omega
              case rel => exact ⟨i + 1, by omega, rfl, by go_num, hf3, hnx⟩
        · obtain rfl : i = l.length := by omega
          have hd0 : decide ((l.length : Int) < (l.length : Int)) = false := by simp
          have HT : Hid (¬ HeldBy ws l x) := held_parts HRT.out hno
          clear hno hi hil
          go_wp2
          go_ret
          exact ⟨false, rfl, ⟨(fun h => by cases h), fun h => absurd h HT.out⟩, hf2⟩
end Go.Proofs.YtbagcjlimdilpaaGreat
