/- The walk of the document's Free. -/
import Derived.Test.YtbagcjlimdilpaaGreatKtJ6
import Derived.Test.YtbagcjlimdilpaaGreatKtJ1
namespace Go.Proofs.YtbagcjlimdilpaaGreat
open Go.RowKit

/-- a root or a pointer holds n -/
def HeldBy (now : List Int) (l : List Ob) (n : Int) : Prop := (∃ r, r < 4 ∧ wd now (3 + r) = n) ∨ ∃ i, ∃ hi : i < l.length, ∃ p, p < (l[i]).ptrs ∧ wd now (pl l[i] p) = n
/-- what Free makes -/
def FreeIs (now : List Int) (n : Int) (r : List Int) (c : Int) : Prop :=
  (idx (objs now) n = none ∧ r = now ∧ c = 9) ∨ (idx (objs now) n ≠ none ∧ HeldBy now (objs now) n ∧ r = now ∧ c = 10) ∨
  (∃ k, ∃ hk : k < (objs now).length, idx (objs now) n = some k ∧ ¬ HeldBy now (objs now) n ∧ Zeroed now r (leakZ1 (objs now)[k] ((objs now)[k]).span) ∧ c = 0)
theorem free_one {now r r' : List Int} {n c c' : Int} (h : FreeIs now n r c) (h' : FreeIs now n r' c') : r = r' ∧ c = c' := by
  rcases h with ⟨h1, rfl, rfl⟩ | ⟨h1, h2, rfl, rfl⟩ | ⟨k, hk, h1, h2, h3, rfl⟩
  · rcases h' with ⟨_, rfl, rfl⟩ | ⟨g1, _⟩ | ⟨k', _, g1, _⟩
    · exact ⟨rfl, rfl⟩
    · exact absurd h1 g1
    · rw [h1] at g1; cases g1
  · rcases h' with ⟨g1, _⟩ | ⟨_, _, rfl, rfl⟩ | ⟨k', _, _, g2, _⟩
    · exact absurd g1 h1
    · exact ⟨rfl, rfl⟩
    · exact absurd h2 g2
  · rcases h' with ⟨g1, _⟩ | ⟨_, g2, _⟩ | ⟨k', hk', g1, _, g3, rfl⟩
    · rw [h1] at g1; cases g1
    · exact absurd g2 h2
    · rw [h1] at g1
      cases g1
      exact ⟨h3.one g3, rfl⟩

set_option maxHeartbeats 4000000 in
set_option maxRecDepth 100000 in
theorem rfree_any (hb gn cn L : Nat) (vw vs : Value) (now : List Int) (n : Int) (w : World) (h0 : -9223372036854775808 ≤ n) (h1 : n ≤ 9223372036854775807) (h : RH hb gn cn L vw vs now w) :
    Calls Tryz.prog 76 #[.pointer (some ⟨hb, 0, none⟩), .int .i64 n] w fun e w' => ∃ r c, e = .returned (.int .i64 c) ∧ FreeIs now n r c ∧ RH hb gn cn L vw vs r w' ∧ Fr (fun k => k = gn) w w' := by
  have HH : Hid (Calls Tryz.prog 128 #[.pointer (some ⟨hb, 0, none⟩), .int .i64 n] w fun e w' => e = .returned (handleV (objs now) n) ∧ Fr New w w') := handle_any hb gn cn L vw vs now n w h0 h1 h
  obtain ⟨hl1, hl2, hl3⟩ := h.lens
  have hbw : hb < w.heap.size := lt_of_block h.blk
  have HWK : Hid (∀ w1, Fr New w w1 → Calls Tryz.prog 126 #[.slice (some ⟨gn, 0, none⟩) L cn] w1 fun e w' => ∃ vl vb, e = .returned (.tuple #[vl, vb]) ∧ LiesO w' vl (objs now) ∧ Fr New w1 w') := fun w1 hf => (h.fr hf).walk
  have HRH : Hid (∀ w1, Fr New w w1 → RH hb gn cn L vw vs now w1) := fun w1 hf => h.fr hf
  have HCW : Hid (∀ w1, Fr New w w1 → w1.cell? ⟨hb, 1, none⟩ = some (.slice (some ⟨gn, 0, none⟩) L cn) ∧ hb < w1.heap.size ∧ gn < w1.heap.size ∧ ∀ q, q < L → w1.cell? ⟨gn, q, none⟩ = some (.int .u64 (wd now q))) := fun w1 hf => by
    have h' := h.fr hf
    obtain ⟨_, _, hcc⟩ := own_block h'.own rfl
    exact ⟨((block_cells h'.blk).1 1).trans rfl, lt_of_block h'.blk, lt_of_block hcc, fun q hq => h'.cell q hq⟩
  have hgw : gn < w.heap.size := (HCW.out w (Fr.refl _ _)).2.2.1
  rcases hx : idx (objs now) n with _ | k
  · have HT : Hid (FreeIs now n now 9) := .inl ⟨hx, rfl, rfl⟩
    rw [handleV_none hx] at HH
    clear hx
    go_enter Tryz.func76, Tryz.ntmps76
    go_wp2_with (go_at_call 128; refine HH.out.mono ?_; rintro e w1 ⟨rfl, hf1⟩)
    go_ret
    exact ⟨now, 9, rfl, HT.out, h.fr (hf1.alloc _), ((Fr.refl _ _).same hf1).alloc _⟩
  · have hk := idx_lt hx
    rw [handleV_some hx hk] at HH
    have hn1 : 1 ≤ n := by
      rcases Int.lt_or_le n 1 with h' | h'
      · rw [idx_low h'] at hx; cases hx
      · exact h'
    have hin := objs_in (List.getElem_mem hk)
    rw [h.len] at hin
    have HHE : Hid (HeldBy now (objs now) n → FreeIs now n now 10) := fun hh => .inr (.inl ⟨by rw [hx]; simp, hh, rfl, rfl⟩)
    have HFR : Hid (∀ r, ¬ HeldBy now (objs now) n → Zeroed now r (leakZ1 (objs now)[k] ((objs now)[k]).span) → FreeIs now n r 0) := fun r h1 h2 => .inr (.inr ⟨k, hk, hx, h1, h2, rfl⟩)
    have HBO : Hid (∀ o ∈ objs now, o.block ≤ 32 ∧ 106 + 8 * (o.block + o.span) ≤ L ∧ o.ptrs < 8 * o.span ∧ o.span ≤ 4) := fun o ho => by
      have := objs_in ho
      have := nblk_le now.length
      have := h.len
      exact ⟨by omega, by omega, by omega, by omega⟩
    have HLEN : Hid (now.length = L) := h.len
    obtain ⟨o, ho⟩ : ∃ o, o = (objs now)[k] := ⟨_, rfl⟩
    rw [← ho] at HH hin HFR
    obtain ⟨b, sp, pt⟩ := o
    simp only at HH hin HFR
    obtain ⟨g1, g2, g3, g4, g5⟩ := hin
    have hnb := nblk_le now.length
    obtain ⟨l, hl⟩ : ∃ l, l = objs now := ⟨_, rfl⟩
    rw [← hl] at HWK HHE HFR HBO
    have hw1 : IntKind.u64.wrap n = n := by rw [IntKind.wrap_u64]; omega
    clear hx ho hl hk h
    go_enter Tryz.func76, Tryz.ntmps76
    go_wp2_with (go_at_call 128; refine HH.out.mono ?_; rintro e w1 ⟨rfl, hf1⟩)
    have hfo : Fr New w (w1.alloc (.cells #[.int .i64 b, .int .i64 sp, .int .i64 pt] 190)) := hf1.alloc _
    have hto : (w1.alloc (.cells #[.int .i64 b, .int .i64 sp, .int .i64 pt] 190)).heap[w1.heap.size]? = some (.cells #[.int .i64 b, .int .i64 sp, .int .i64 pt] 190 (0, 0)) := Go.Deep.blk_alloc_new w1 _
    have hgw1 : gn < w1.heap.size := (HCW.out w1 hf1).2.2.1
    obtain ⟨go, hgo⟩ : ∃ go, go = w1.heap.size := ⟨_, rfl⟩
    rw [← hgo] at hto hgw1 ⊢
    obtain ⟨wo, hwo⟩ : ∃ wo, wo = w1.alloc (.cells #[.int .i64 b, .int .i64 sp, .int .i64 pt] 190) := ⟨_, rfl⟩
    rw [← hwo] at hto hfo ⊢
    clear hgo hwo hf1
    go_loopg [7] 4 (fun gh t wr => ∃ r : Nat, r ≤ 4 ∧ gh = 4 - r ∧ t = .int .i64 r ∧ wr = wo ∧ ∀ r', r' < r → wd now (3 + r') ≠ n)
    case atStart => exact ⟨0, by omega, rfl, rfl, rfl, fun r' hr' => by omega⟩
    case round =>
      obtain ⟨r, hr4, rfl, rfl, hwr, hno⟩ := hrel
      obtain rfl := hwr.symm
      clear hwr
      have HNO : Hid (∀ r', r' < r → wd now (3 + r') ≠ n) := hno
      clear hno
      obtain ⟨c1, c2, c3, c4⟩ := HCW.out wo hfo
      by_cases hr : r < 4
      · have hc := c4 (3 + r) (by omega)
        obtain ⟨x, hxx⟩ : ∃ x, x = wd now (3 + r) := ⟨_, rfl⟩
        rw [← hxx] at hc
        by_cases he : x = n
        · have HT : Hid (FreeIs now n now 10) := HHE.out (.inl ⟨r, hr, hxx.symm.trans he⟩)
          subst he
          clear hxx c4
          go_wp2
          go_ret
          exact ⟨now, 10, rfl, HT.out, HRH.out _ hfo, (Fr.refl _ _).same hfo⟩
        · have hde : (x == n) = false := by simpa using he
          have HX : Hid (wd now (3 + r) ≠ n) := by rw [← hxx]; exact he
          clear hxx he c4
          go_wp2
          go_roundg (4 - (r + 1))
          case measure => omega
          case rel => exact ⟨r + 1, by omega, rfl, by go_num, rfl, fun r' hr' => by
            rcases Nat.lt_or_ge r' r with h' | h'
            · exact HNO.out r' h'
            · obtain rfl : r' = r := by omega
              exact HX.out⟩
      · obtain rfl : r = 4 := by omega
        have HWX : Hid (Calls Tryz.prog 126 #[.slice (some ⟨gn, 0, none⟩) L cn] wo fun e w' => ∃ vl vb, e = .returned (.tuple #[vl, vb]) ∧ LiesO w' vl l ∧ Fr New wo w') := HWK.out wo hfo
        clear c4
        go_wp2_with (go_at_call 126; refine HWX.out.mono ?_; rintro e w2 ⟨vl, vb, rfl, hlo, hf2⟩)
        have hto2 := hf2.heap hto id
        have hfo2 := hfo.same hf2
        have HV : Hid (∀ wr, Fr New w2 wr → LiesO wr vl l) := fun wr hf => hlo.fr hf (fun _ _ h => h)
        obtain ⟨av, cv, rfl, hll, hbo, hcl⟩ := hlo
        have HC : Hid (0 < l.length → ∃ g, av = some ⟨g, 0, none⟩ ∧ ∀ wr, Fr New w2 wr → ∀ i (hi : i < l.length), wr.cell? ⟨g, i * 3, none⟩ = some (.int .i64 (l[i]).block) ∧ wr.cell? ⟨g, i * 3 + 1, none⟩ = some (.int .i64 (l[i]).span) ∧ wr.cell? ⟨g, i * 3 + 2, none⟩ = some (.int .i64 (l[i]).ptrs)) := by
          intro hp
          obtain ⟨g, e, _, hc⟩ := hcl hp
          exact ⟨g, e, fun wr hf i hi => ⟨hf.cell (hc i hi).1 id, hf.cell (hc i hi).2.1 id, hf.cell (hc i hi).2.2 id⟩⟩
        clear hcl hbo
        go_loopg [10] l.length (fun gh t wr => ∃ i : Nat, i ≤ l.length ∧ gh = l.length - i ∧ t = .int .i64 i ∧ Fr New w2 wr ∧ ∀ i' (hi' : i' < l.length), i' < i → ∀ p, p < (l[i']).ptrs → wd now (pl l[i'] p) ≠ n)
        case atStart => exact ⟨0, by omega, rfl, rfl, Fr.refl _ _, fun i' hi' hh => by omega⟩
        case round =>
          obtain ⟨i, hil, rfl, rfl, hf3, hnoi⟩ := hrel
          have HNI : Hid (∀ i' (hi' : i' < l.length), i' < i → ∀ p, p < (l[i']).ptrs → wd now (pl l[i'] p) ≠ n) := hnoi
          clear hnoi
          by_cases hi : i < l.length
          · have hd0 : decide ((i : Int) < (l.length : Int)) = true := by simp; omega
            obtain ⟨g, rfl, hcells⟩ := HC.out (by omega)
            obtain ⟨hb1, hb2, hb3, hb4⟩ := HBO.out l[i] (List.getElem_mem _)
            obtain ⟨oi, hoi⟩ : ∃ oi, oi = l[i] := ⟨_, rfl⟩
            have HOI : Hid (oi = l[i]) := hoi
            have HCI : Hid (∀ wr, Fr New w2 wr → wr.cell? ⟨g, i * 3, none⟩ = some (.int .i64 oi.block) ∧ wr.cell? ⟨g, i * 3 + 1, none⟩ = some (.int .i64 oi.span) ∧ wr.cell? ⟨g, i * 3 + 2, none⟩ = some (.int .i64 oi.ptrs)) := by rw [hoi]; exact fun wr hf => hcells wr hf i hi
            rw [← hoi] at hb1 hb2 hb3 hb4
            clear hoi hcells
            go_wp2
            go_loopg [11] oi.ptrs (fun gh t wr => ∃ p : Nat, p ≤ oi.ptrs ∧ gh = oi.ptrs - p ∧ t = .int .i64 p ∧ Fr New w2 wr ∧ ∀ p', p' < p → wd now (pl oi p') ≠ n)
            case atStart => exact ⟨0, by omega, rfl, rfl, hf3, fun p' hp' => by omega⟩
            case round =>
              clear hf3
              obtain ⟨p, hpp, rfl, rfl, hf3, hnop⟩ := hrel
              have HNP : Hid (∀ p', p' < p → wd now (pl oi p') ≠ n) := hnop
              clear hnop
              obtain ⟨e0, e1, e2⟩ := HCI.out wr hf3
              by_cases hp : p < oi.ptrs
              · have hdp : decide ((p : Int) < (oi.ptrs : Int)) = true := by simp; omega
                have HPL : Hid (∀ w9, Calls Tryz.prog 129 #[.agg #[.int .i64 oi.block, .int .i64 oi.span, .int .i64 oi.ptrs], .int .i64 p] w9 fun e w' => e = .returned (.int .i64 ((pl oi p : Nat) : Int)) ∧ Fr New w9 w') := fun w9 => by
                  have := place_any oi p w9 (by omega) (by omega) (by omega)
                  rwa [show (106 + 8 * (oi.block : Int) + 1 + (p : Int)) = ((pl oi p : Nat) : Int) by unfold pl; omega] at this
                have hq : pl oi p < L := by unfold pl; omega
                obtain ⟨q, hqq⟩ : ∃ q, q = pl oi p := ⟨_, rfl⟩
                rw [← hqq] at HPL hq
                have HCQ : Hid (∀ w9, Fr New wr w9 → w9.cell? ⟨hb, 1, none⟩ = some (.slice (some ⟨gn, 0, none⟩) L cn) ∧ w9.cell? ⟨gn, q, none⟩ = some (.int .u64 (wd now q)) ∧ w9.cell? ⟨g, i * 3, none⟩ = some (.int .i64 oi.block) ∧ w9.cell? ⟨g, i * 3 + 1, none⟩ = some (.int .i64 oi.span) ∧ w9.cell? ⟨g, i * 3 + 2, none⟩ = some (.int .i64 oi.ptrs)) := fun w9 hf => by
                  obtain ⟨d1, d2, d3, d4⟩ := HCW.out w9 ((hfo2.same hf3).same hf)
                  obtain ⟨f0, f1, f2⟩ := HCI.out w9 (hf3.same hf)
                  exact ⟨d1, d4 q hq, f0, f1, f2⟩
                have hq0 : (0 : Int) ≤ (q : Int) := by omega
                have hq1 : (q : Int) < (L : Int) := by omega
                obtain ⟨x, hxx⟩ : ∃ x, x = wd now q := ⟨_, rfl⟩
                rw [← hxx] at HCQ
                have HXQ : Hid (x = wd now (pl oi p)) := by rw [← hqq]; exact hxx
                clear hqq hxx
                obtain ⟨k1, k2, k3, k4, k5⟩ := HCQ.out wr (Fr.refl _ _)
                by_cases he : x = n
                · have HT : Hid (FreeIs now n now 10) := HHE.out (.inr ⟨i, hi, p, by rw [← HOI.out]; exact hp, by rw [← HOI.out, ← HXQ.out]; exact he⟩)
                  subst he
                  go_upto_region 16 with fail
                  go_region_with (first
                    | (go_at_call 129; refine (HPL.out _).mono ?_; rintro e w9 ⟨rfl, hf9⟩; have hf9' : Fr New wr w9 := (by first | exact hf9 | exact (Fr.refl New wr).drew.same hf9); obtain ⟨m1, m2, m3, m4, m5⟩ := HCQ.out w9 hf9'))
                  all_goals (try go_wp2_with fail)
                  all_goals
                    go_ret
                    exact ⟨now, 10, rfl, HT.out, by first | exact HRH.out _ ((hfo2.same hf3).same hf9') | exact HRH.out _ ((hfo2.same hf3).same hf9').drew, by first | exact (Fr.refl _ _).same ((hfo2.same hf3).same hf9') | exact (Fr.refl _ _).same ((hfo2.same hf3).same hf9').drew⟩
                · have hde : (x == n) = false := by simpa using he
                  have HX : Hid (wd now (pl oi p) ≠ n) := by rw [← HXQ.out]; exact he
                  clear he
                  go_upto_region 16 with fail
                  go_region_with (first
                    | (go_at_call 129; refine (HPL.out _).mono ?_; rintro e w9 ⟨rfl, hf9⟩; have hf9' : Fr New wr w9 := (by first | exact hf9 | exact (Fr.refl New wr).drew.same hf9); obtain ⟨m1, m2, m3, m4, m5⟩ := HCQ.out w9 hf9'))
                  all_goals (try go_wp2_with fail)
                  all_goals
                    go_roundg (oi.ptrs - (p + 1))
                    case measure => omega
                    case rel => exact ⟨p + 1, by omega, rfl, by go_num, by first | exact hf3.same hf9' | exact (hf3.same hf9').drew, fun p' hp' => by
                      rcases Nat.lt_or_ge p' p with h' | h'
                      · exact HNP.out p' h'
                      · obtain rfl : p' = p := by omega
                        exact HX.out⟩
              · obtain rfl : p = oi.ptrs := by omega
                have hdp : decide ((oi.ptrs : Int) < (oi.ptrs : Int)) = false := by simp
                go_wp2
                go_roundg (l.length - (i + 1))
                case measure => omega
                case rel => exact ⟨i + 1, by omega, rfl, by go_num, hf3, fun i' hi' hlt p hp => by
                  rcases Nat.lt_or_ge i' i with h' | h'
                  · exact HNI.out i' hi' h' p hp
                  · obtain rfl : i' = i := by omega
                    rw [← HOI.out] at hp ⊢
                    exact HNP.out p hp⟩
          · obtain rfl : i = l.length := by omega
            have hd0 : decide ((l.length : Int) < (l.length : Int)) = false := by simp
            have HNH : Hid (¬ HeldBy now l n) := by
              rintro (⟨r, hr, he⟩ | ⟨i, hi, p, hp, he⟩)
              · exact HNO.out r hr he
              · exact HNI.out i hi (by omega) p hp he
            have hRH := HRH.out wr (hfo2.same hf3)
            have hto3 := hf3.heap hto2 id
            have hfw : Fr (fun k => k = gn) w wr := (Fr.refl _ _).same (hfo2.same hf3)
            go_wp2
            go_loopg [12] sp (fun gh t wr => ∃ (i : Nat) (cur : List Int), i ≤ sp ∧ gh = sp - i ∧ t = .int .i64 i ∧ RH hb gn cn L vw vs cur wr ∧ Fr (fun k => k = gn) w wr ∧ wr.heap[go]? = some (.cells #[.int .i64 b, .int .i64 sp, .int .i64 pt] 190 (0, 0)) ∧ Zeroed now cur (leakZ1 ⟨b, sp, pt⟩ i))
            case atStart => exact ⟨0, now, by omega, rfl, rfl, hRH, hfw, hto3, zeroed_self now leakZ1_zero⟩
            case round =>
              clear hRH hto3 hfw hf3
              obtain ⟨i, cur, his, rfl, rfl, hRH, hfw, hto3, hZ⟩ := hrel
              obtain ⟨ht, hz⟩ := block_cells hto3
              by_cases hi : i < sp
              · have hdi : decide ((i : Int) < (sp : Int)) = true := by simp; omega
                have hq : 106 + 8 * (b + i) < L := by omega
                have hc1 : wr.cell? ⟨hb, 1, none⟩ = some (.slice (some ⟨gn, 0, none⟩) L cn) := ((block_cells hRH.blk).1 1).trans rfl
                have hcq : wr.cell? ⟨gn, 106 + 8 * (b + i), none⟩ = some (.int .u64 (wd cur (106 + 8 * (b + i)))) := hRH.cell _ hq
                have hfq := hRH.free (106 + 8 * (b + i))
                have hput := hRH.put (106 + 8 * (b + i)) 0
                have hZn : Zeroed now (cur.set (106 + 8 * (b + i)) 0) (leakZ1 ⟨b, sp, pt⟩ (i + 1)) := (hZ.set (by rw [HLEN.out]; exact hq)).congr (fun q => leakZ1_succ (o := ⟨b, sp, pt⟩) q)
                have ht0 : wr.cell? ⟨go, 0, none⟩ = some (.int .i64 b) := (ht 0).trans rfl
                have ht1 : wr.cell? ⟨go, 1, none⟩ = some (.int .i64 sp) := (ht 1).trans rfl
                have hgne : ¬ go = gn := by omega
                clear ht hz
                go_upto_region 21 with fail
                go_region
                all_goals (try go_wp2)
                all_goals
                  go_roundg (sp - (i + 1))
                  case measure => omega
                  case rel => exact ⟨i + 1, _, by omega, rfl, by go_num, hput.fr (Fr.refl _ _).drew, (hfw.setCell (p := ⟨gn, 106 + 8 * (b + i), none⟩) (fun _ => rfl) _).drew, (Go.Deep.blk_setCell_other _ _ _ _ hgne).trans hto3, hZn⟩
              · obtain rfl : i = sp := by omega
                have hdi : decide ((i : Int) < (i : Int)) = false := by simp
                go_wp2
                go_ret
                exact ⟨cur, 0, rfl, HFR.out cur HNH.out hZ, hRH, hfw⟩
end Go.Proofs.YtbagcjlimdilpaaGreat
