/- The walk of a story's alloc. -/
import Derived.Test.YtbagcjlimdilpabGreatKtJ16
import Derived.Test.YtbagcjlimdilpabGreatKtJ13
import Derived.Laws.AppendOwnNone
namespace Go.Proofs.YtbagcjlimdilpabGreat
open Go.RowKit Go.Maps

/-- so many blocks from b on are none of these things' -/
def RowOK (l : List Th) (s b : Nat) : Prop := ∀ x ∈ l, x.1.block + x.1.span ≤ b ∨ b + s ≤ x.1.block
theorem free_things {now : List Int} {N s b : Nat} : FreeRow (objs now) N s b ↔ b + s ≤ N ∧ RowOK (things now) s b := by
  unfold FreeRow RowOK things
  simp
/-- the same of the first i, told -/
def okTo (l : List Th) (s b i : Nat) : Bool := (l.take i).all (fun x => decide (x.1.block + x.1.span ≤ b) || decide (b + s ≤ x.1.block))
theorem okTo_succ {l : List Th} {s b i : Nat} (hi : i < l.length) : okTo l s b (i + 1) = (okTo l s b i && (decide ((l[i]).1.block + (l[i]).1.span ≤ b) || decide (b + s ≤ (l[i]).1.block))) := by
  unfold okTo
  rw [List.take_succ_eq_append_getElem hi, List.all_append]
  simp
theorem okTo_all {l : List Th} {s b : Nat} : okTo l s b l.length = true ↔ RowOK l s b := by
  unfold okTo RowOK
  rw [List.take_length, List.all_eq_true]
  simp
/-- what the search for room knows: want, and the next block -/
def Want (l : List Th) (n s : Nat) (want b : Nat) : Prop := (want = 0 ∧ ∀ b', b' + 1 < b → ¬ RowOK l s b') ∨ (∃ c, want = c + 1 ∧ b = c + 2 ∧ c + s ≤ n ∧ RowOK l s c ∧ ∀ b', b' < c → ¬ RowOK l s b')
/-- what alloc makes -/
def AllocTo (now : List Int) (n s p : Nat) (now' : List Int) : Prop := (now' = now ∧ ∀ b, ¬ FreeRow (objs now) n s b) ∨ (∃ b l1 l2, FreeRow (objs now) n s b ∧ (∀ b', b' < b → ¬ FreeRow (objs now) n s b') ∧ Alloced now now' ⟨b, s, p⟩ l1 l2)

/-- what Alloc makes, by what must be there -/
theorem alloc_no {now r : List Int} {s p : Nat} {hd c : Int} (hs1 : 1 ≤ s) (hs4 : s ≤ 4) (hp8 : p < 8 * s) (ha : AllocIs now (s : Int) (p : Int) r hd c) (hn : ∀ b, ¬ FreeRow (objs now) (nblk now.length) s b) : r = now ∧ hd = 0 ∧ c = 11 := by
  rcases ha with ⟨h, _⟩ | ⟨_, _, h1, h2, h3⟩ | ⟨_, b, z, h, _⟩
  · exact absurd ⟨by omega, by omega, by omega, by omega⟩ h
  · exact ⟨h1, h2, h3⟩
  · exact absurd (by simpa using h) (hn b)
theorem alloc_yes {now r : List Int} {s p : Nat} {hd c : Int} (hg : Good now) (hs1 : 1 ≤ s) (hs4 : s ≤ 4) (hp8 : p < 8 * s) (ha : AllocIs now (s : Int) (p : Int) r hd c) {b : Nat} (hb : FreeRow (objs now) (nblk now.length) s b) (hno : ∀ b', b' < b → ¬ FreeRow (objs now) (nblk now.length) s b') : hd = ((b + 1 : Nat) : Int) ∧ c = 0 ∧ ∃ l1 l2, Alloced now r ⟨b, s, p⟩ l1 l2 := by
  rcases ha with ⟨h, _⟩ | ⟨_, h, _⟩ | ⟨_, b', z, h1, h2, h3, h4, h5, h6⟩
  · exact absurd ⟨by omega, by omega, by omega, by omega⟩ h
  · exact absurd hb (by simpa using h b)
  · simp only [Int.toNat_natCast] at h1 h2 h3
    obtain rfl : b' = b := by
      rcases Nat.lt_trichotomy b' b with hh | hh | hh
      · exact absurd h1 (hno b' hh)
      · exact hh
      · exact absurd hb (h2 b hh)
    exact ⟨h5, h6, alloc_good hg hs1 hs4 hp8 h1 h3 h4⟩

set_option maxHeartbeats 4000000 in
set_option maxRecDepth 100000 in
theorem kalloc_any (F : Nat → Prop) (sb n : Nat) (ws now : List Int) (sts : List St) (s p : Nat) (hs1 : 1 ≤ s) (hs4 : s ≤ 4) (hp8 : p < 8 * s) (w : World) (h : Story F sb n ws now sts w) :
    Calls Tryz.prog 14 #[.pointer (some ⟨sb, 0, none⟩), .int .i64 (s : Int), .int .i64 (p : Int)] w fun e w' => e = .returned (.bool true) ∧ ∃ now' F', Story F' sb n ws now' sts w' ∧ Fr F w w' ∧ (∀ k, F' k → F k ∨ w.heap.size ≤ k) ∧ AllocTo now n s p now' := by
  obtain ⟨hb, tb, cb, mb, g, vs, vn, vk, un, uk, S, hF⟩ := h
  obtain ⟨hn1, hn32, hl1, hl2⟩ := S.lens
  have HSW : Hid (∀ wr, Fr New w wr → wr.cell? ⟨sb, 0, none⟩ = some (.pointer (some ⟨hb, 0, none⟩)) ∧ wr.cell? ⟨sb, 1, none⟩ = some (.int .i64 (n : Int)) ∧ wr.cell? ⟨sb, 2, none⟩ = some vn) := fun wr hf => ⟨(S.new hf).c0, (S.new hf).c1, (S.new hf).c2⟩
  have HTN : Hid (∀ wr, Fr New w wr → ThAt wr vn (things now) un) := fun wr hf => S.tn.new hf
  have HFR : Hid (∀ b, FreeRow (objs now) n s b ↔ b + s ≤ n ∧ RowOK (things now) s b) := fun b => free_things
  have HFIT : Hid (∀ x ∈ things now, x.2.length = 8 * x.1.span - 1 ∧ 1 ≤ x.1.span ∧ x.1.span ≤ 4 ∧ x.1.ptrs < 8 * x.1.span ∧ x.1.block < 32) := S.tn.fit
  have hl32 := S.tn.n
  have hsbw : sb < w.heap.size := lt_of_block S.blk
  obtain ⟨av, cv, hvn⟩ := S.tn.slice
  have HVN : Hid (vn = .slice av (things now).length cv) := hvn
  rw [hvn] at HSW HTN
  have HS : Hid (Sty sb n hb tb cb mb g vs vn vk un uk ws now sts w ∧ ∀ k, Foot sb hb tb cb mb g vs vn vk un uk k → F k) := ⟨S, hF⟩
  clear S hF hvn
  obtain ⟨l, hl⟩ : ∃ l, l = things now := ⟨_, rfl⟩
  have HL : Hid (l = things now) := hl
  rw [← hl] at HSW HTN HFR HFIT hl32
  clear hl hl1 hl2
  go_enter Tryz.func14, Tryz.ntmps14
  go_wp2
  go_loopg [7, 8] (n + 1) (fun gh vw vb wr => ∃ want b : Nat, vw = .int .i64 (want : Int) ∧ vb = .int .i64 (b : Int) ∧ gh = n + 2 - b ∧ 1 ≤ b ∧ b ≤ n + 1 ∧ want ≤ 32 ∧ Want l n s want b ∧ Fr New w wr)
  case atStart => exact ⟨0, 1, rfl, rfl, by omega, by omega, by omega, by omega, .inl ⟨rfl, fun b' hb' => by omega⟩, Fr.refl _ _⟩
  case round =>
    obtain ⟨want, b, rfl, rfl, rfl, hb1, hbn, hw32, hwant, hf⟩ := hrel
    obtain ⟨c0, c1, c2⟩ := HSW.out wr hf
    by_cases hgo : b + s ≤ n + 1 ∧ want = 0
    · obtain ⟨hg1, rfl⟩ := hgo
      have hd1 : decide ((b : Int) + (s : Int) - 1 ≤ (n : Int)) = true := by simp; omega
      have HNO : Hid (∀ b', b' + 1 < b → ¬ RowOK l s b') := by
        rcases hwant with ⟨_, h⟩ | ⟨c, h, _⟩
        · exact h
        · omega
      clear hwant
      go_wp2
      go_loopg [9, 10] l.length (fun gh vf vi wr => ∃ i : Nat, vf = .bool (okTo l s (b - 1) i) ∧ vi = .int .i64 (i : Int) ∧ gh = l.length - i ∧ i ≤ l.length ∧ Fr New w wr)
      case atStart => exact ⟨0, rfl, rfl, rfl, by omega, hf⟩
      case round =>
        clear c0 c1 c2 hf
        obtain ⟨i, rfl, rfl, rfl, hil, hf⟩ := hrel
        obtain ⟨c0, c1, c2⟩ := HSW.out wr hf
        by_cases hi : i < l.length
        · have hd0 : decide ((i : Int) < (l.length : Int)) = true := by simp; omega
          obtain ⟨g2, cg2, gi2, ci2, hv2, hg2, d0, d1, d2, d3, _, _, _, _⟩ := (HTN.out wr hf).at' i hi
          cases hv2
          have hfi := HFIT.out l[i] (List.getElem_mem _)
          have HSU : Hid (okTo l s (b - 1) (i + 1) = (okTo l s (b - 1) i && (decide ((l[i]).1.block + (l[i]).1.span ≤ b - 1) || decide (b - 1 + s ≤ (l[i]).1.block)))) := okTo_succ hi
          obtain ⟨x, hx⟩ : ∃ x, x = l[i] := ⟨_, rfl⟩
          rw [← hx] at d0 d1 d2 d3 hfi HSU
          clear hx
          obtain ⟨⟨xb, xs, xp⟩, xw⟩ := x
          simp only at d0 d1 d2 d3 hfi HSU
          obtain ⟨_, hx1, hx4, _, hx32⟩ := hfi
          obtain ⟨B, hB⟩ : ∃ B : Nat, B = xb + 1 := ⟨_, rfl⟩
          rw [← hB] at d0
          have HB : Hid (B = xb + 1) := hB
          have hB32 : B ≤ 32 := by omega
          obtain ⟨fr, hfr⟩ : ∃ fr, fr = okTo l s (b - 1) i := ⟨_, rfl⟩
          rw [← hfr] at HSU ⊢
          clear hfr hB
          by_cases q1 : B + xs ≤ b
          · have hq1 : decide ((B : Int) + (xs : Int) ≤ (b : Int)) = true := by simp; omega
            have HR : Hid (okTo l s (b - 1) (i + 1) = fr) := by
              show okTo l s (b - 1) (i + 1) = fr
              rw [HSU.out, show decide (xb + xs ≤ b - 1) = true by have := HB.out; simp; omega]
              simp
            rcases fr with _ | _
            · go_wp2
              go_roundg (l.length - (i + 1))
              case measure => omega
              case rel => exact ⟨i + 1, by rw [HR.out], by go_num, rfl, by omega, hf.alloc _⟩
            · go_wp2
              go_roundg (l.length - (i + 1))
              case measure => omega
              case rel => exact ⟨i + 1, by rw [HR.out], by go_num, rfl, by omega, hf.alloc _⟩
          · have hq1 : decide ((B : Int) + (xs : Int) ≤ (b : Int)) = false := by simp; omega
            by_cases q2 : b + s ≤ B
            · have hq2 : decide ((b : Int) + (s : Int) ≤ (B : Int)) = true := by simp; omega
              have HR : Hid (okTo l s (b - 1) (i + 1) = fr) := by
                show okTo l s (b - 1) (i + 1) = fr
                rw [HSU.out, show decide (b - 1 + s ≤ xb) = true by have := HB.out; simp; omega]
                simp
              rcases fr with _ | _
              · go_wp2
                go_roundg (l.length - (i + 1))
                case measure => omega
                case rel => exact ⟨i + 1, by rw [HR.out], by go_num, rfl, by omega, hf.alloc _⟩
              · go_wp2
                go_roundg (l.length - (i + 1))
                case measure => omega
                case rel => exact ⟨i + 1, by rw [HR.out], by go_num, rfl, by omega, hf.alloc _⟩
            · have hq2 : decide ((b : Int) + (s : Int) ≤ (B : Int)) = false := by simp; omega
              have HR : Hid (okTo l s (b - 1) (i + 1) = false) := by
                show okTo l s (b - 1) (i + 1) = false
                rw [HSU.out, show decide (xb + xs ≤ b - 1) = false by have := HB.out; simp; omega, show decide (b - 1 + s ≤ xb) = false by have := HB.out; simp; omega]
                simp
              rcases fr with _ | _
              · go_wp2
                go_roundg (l.length - (i + 1))
                case measure => omega
                case rel => exact ⟨i + 1, by rw [HR.out], by go_num, rfl, by omega, hf.alloc _⟩
              · go_wp2
                go_roundg (l.length - (i + 1))
                case measure => omega
                case rel => exact ⟨i + 1, by rw [HR.out], by go_num, rfl, by omega, hf.alloc _⟩
        · obtain rfl : i = l.length := by omega
          have hd0 : decide ((l.length : Int) < (l.length : Int)) = false := by simp
          have hiff := okTo_all (l := l) (s := s) (b := b - 1)
          rcases hok : okTo l s (b - 1) l.length with _ | _
          · have HN : Hid (¬ RowOK l s (b - 1)) := fun hh => by rw [hiff.2 hh] at hok; cases hok
            clear hiff hok
            go_wp2
            go_roundg (n + 2 - (b + 1))
            case measure => omega
            case rel => exact ⟨0, b + 1, rfl, by go_num, rfl, by omega, by omega, by omega, .inl ⟨rfl, fun b' hb' => by
              by_cases he : b' + 1 = b
              · rw [show b' = b - 1 by omega]; exact HN.out
              · exact HNO.out b' (by omega)⟩, hf⟩
          · have HY : Hid (RowOK l s (b - 1)) := hiff.1 hok
            clear hiff hok
            go_wp2
            go_roundg (n + 2 - (b + 1))
            case measure => omega
            case rel => exact ⟨b, b + 1, rfl, by go_num, rfl, by omega, by omega, by omega, .inr ⟨b - 1, by omega, by omega, by omega, HY.out, fun b' hb' => HNO.out b' (by omega)⟩, hf⟩
    · by_cases hw0 : want = 0
      · subst hw0
        have HNO : Hid (∀ b', ¬ FreeRow (objs now) n s b') := fun b' hh => by
          have h1 := (HFR.out b').1 hh
          rcases hwant with ⟨_, h⟩ | ⟨c, h, _⟩
          · exact h b' (by omega) h1.2
          · omega
        have hd1 : decide ((b : Int) + (s : Int) - 1 ≤ (n : Int)) = false := by simp; omega
        have HAL : Hid (Calls Tryz.prog 38 #[.pointer (some ⟨hb, 0, none⟩), .int .i64 (s : Int), .int .i64 (p : Int)] wr fun e w' => e = .returned (.tuple #[.int .i64 0, .int .i64 11]) ∧ ∃ now' F', Story F' sb n ws now' sts w' ∧ Fr F w w' ∧ (∀ k, F' k → F k ∨ w.heap.size ≤ k) ∧ AllocTo now n s p now') := by
          obtain ⟨S, hF⟩ := HS.out
          have hnl : nblk now.length = n := by rw [S.hw.len]; exact S.n
          refine (halloc_any hb tb cb mb g vs ws now sts (s : Int) (p : Int) wr (S.new hf).ph S.hw.gn.bad).mono ?_
          rintro e w' ⟨r, hd, c, rfl, ha, hph, hfr⟩
          obtain ⟨rfl, rfl, rfl⟩ := alloc_no hs1 hs4 hp8 ha (by rw [hnl]; exact HNO.out)
          obtain ⟨n1, n2, n3⟩ := (S.new hf).next hfr hph
          refine ⟨rfl, r, F, ⟨hb, tb, cb, mb, g, vs, vn, vk, un, uk, ⟨n1, hph, S.hw, n2, n3, S.n, S.gn, S.gk, S.nk⟩, hF⟩, ?_, fun k hk => .inl hk, .inl ⟨rfl, HNO.out⟩⟩
          exact (hf.mono (fun _ _ h => h.elim)).trans hfr (fun j _ e => by subst e; exact hF _ (.inr (.inr (.inr (.inr (.inl rfl))))))
        clear hwant hgo
        go_wp2_with (first
          | (go_at_call 38; refine HAL.out.mono ?_; rintro e w1 ⟨rfl, hend⟩)
          | fail)
        go_ret
        exact ⟨rfl, hend⟩
      · obtain ⟨c, hwc, hbc, hcn, hrow, hfirst⟩ : ∃ c, want = c + 1 ∧ b = c + 2 ∧ c + s ≤ n ∧ RowOK l s c ∧ ∀ b', b' < c → ¬ RowOK l s b' := by
          rcases hwant with ⟨h, _⟩ | h
          · exact absurd h hw0
          · exact h
        have HFC : Hid (FreeRow (objs now) n s c ∧ ∀ b', b' < c → ¬ FreeRow (objs now) n s b') := ⟨(HFR.out c).2 ⟨hcn, hrow⟩, fun b' hb' hh => hfirst b' hb' ((HFR.out b').1 hh).2⟩
        have HWC : Hid (want = c + 1 ∧ b = c + 2) := ⟨hwc, hbc⟩
        have hwn : ((want : Int) == 0) = false := by simp; omega
        have HAL : Hid (Calls Tryz.prog 38 #[.pointer (some ⟨hb, 0, none⟩), .int .i64 (s : Int), .int .i64 (p : Int)] wr fun e w' => e = .returned (.tuple #[.int .i64 (want : Int), .int .i64 0]) ∧ ∃ r l1 l2, Alloced now r ⟨c, s, p⟩ l1 l2 ∧ PH hb tb cb mb g vs ws r sts w' ∧ Fr (fun k => k = mb) wr w') := by
          obtain ⟨S, hF⟩ := HS.out
          have hnl : nblk now.length = n := by rw [S.hw.len]; exact S.n
          refine (halloc_any hb tb cb mb g vs ws now sts (s : Int) (p : Int) wr (S.new hf).ph S.hw.gn.bad).mono ?_
          rintro e w' ⟨r, hd, cc, rfl, ha, hph, hfr⟩
          obtain ⟨rfl, rfl, l1, l2, hA⟩ := alloc_yes S.hw.gn hs1 hs4 hp8 ha (by rw [hnl]; exact HFC.out.1) (by rw [hnl]; exact HFC.out.2)
          rw [← hwc]
          exact ⟨rfl, r, l1, l2, hA, hph, hfr⟩
        clear hwant hgo hrow hfirst hwc hbc
        obtain ⟨i0, hi0, hz0, hz1, hz2⟩ := info_parts Tryz.info41
        have HNX : Hid (∀ r w1, PH hb tb cb mb g vs ws r sts w1 → Fr (fun k => k = mb) wr w1 → ∀ w2, Fr New w1 w2 → w2.heap[sb]? = some (.cells (stArr hb n vn vk now ws) 34 (0, 0)) ∧ ThAt w2 (.slice av l.length cv) l un ∧ ThAt w2 vk (things ws) uk) := fun r w1 hph hfr w2 hf2 => by
          obtain ⟨n1, n2, n3⟩ := (HS.out.1.new hf).next hfr hph
          rw [HVN.out, ← HL.out] at n2
          refine ⟨hf2.heap n1 id, n2.new hf2, n3.new hf2⟩
        have HEND : Hid (∀ r l1 l2 w1 w6 gm v6, Alloced now r ⟨c, s, p⟩ l1 l2 → PH hb tb cb mb g vs ws r sts w1 → Fr (fun k => k = mb) wr w1 → Fr New w1 w6 → w1.heap.size ≤ gm → Row w6 gm (List.replicate (8 * s - 1) 0) → w6.ownsRow w1.heap.size 53 4 v6 (l.length + 1) (ktCells (l.take l1.length ++ ((⟨c, s, p⟩ : Ob), List.replicate (8 * s - 1) (0 : Int)) :: l.drop l1.length) (un.take l1.length ++ .slice (some ⟨gm, 0, none⟩) (8 * s - 1) (8 * s - 1) :: un.drop l1.length)) → ∃ now' F', Story F' sb n ws now' sts (w6.setCell ⟨sb, 2, none⟩ v6) ∧ Fr F w (w6.setCell ⟨sb, 2, none⟩ v6) ∧ (∀ k, F' k → F k ∨ w.heap.size ≤ k) ∧ AllocTo now n s p now') := fun r l1 l2 w1 w6 gm v6 hA hph hfr hf6 hgm hrow ho => by
          rw [HL.out] at ho
          obtain ⟨F', q1, q2, q3⟩ := alloc_end HS.out.1 HS.out.2 hf hA hs1 hs4 hp8 hfr hph hf6 hgm hrow ho
          exact ⟨r, F', q1, q2, q3, .inr ⟨c, l1, l2, HFC.out.1, HFC.out.2, hA⟩⟩
        have HKL : Hid (∀ r l1 l2, Alloced now r ⟨c, s, p⟩ l1 l2 → l1.length ≤ l.length ∧ l.length + 1 ≤ 32 ∧ ∀ i (hi : i < l.length), (i < l1.length → (l[i]).1.block < c) ∧ (l1.length ≤ i → c < (l[i]).1.block)) := fun r l1 l2 hA => by
          have e : l = l1.map (fun x => (x, objW now x)) ++ l2.map (fun x => (x, objW now x)) := by rw [HL.out]; unfold things; rw [hA.was, List.map_append]
          refine ⟨by rw [e]; simp, ?_, fun i hi => ⟨fun h1 => ?_, fun h1 => ?_⟩⟩
          · have h1 : (things r).length = l.length + 1 := by
              rw [alloced_things hA, ← HL.out]
              simp
              have : l1.length ≤ l.length := by rw [e]; simp
              omega
            have := objs_len r
            rw [← things_len] at this
            omega
          · have hm : l[i] ∈ l1.map (fun x => (x, objW now x)) := by
              simp only [e]
              rw [List.getElem_append_left (by simpa using h1)]
              exact List.getElem_mem _
            obtain ⟨x, hx, e2⟩ := List.mem_map.1 hm
            rw [← e2]
            exact hA.low x hx
          · have hm : l[i] ∈ l2.map (fun x => (x, objW now x)) := by
              simp only [e]
              rw [List.getElem_append_right (by simpa using h1)]
              exact List.getElem_mem _
            obtain ⟨x, hx, e2⟩ := List.mem_map.1 hm
            rw [← e2]
            exact hA.high x hx
        obtain ⟨i1, hi1, hy0, hy1, hy2⟩ := info_parts Tryz.info53
        by_cases hd : b + s ≤ n + 1
        · have hd1 : decide ((b : Int) + (s : Int) - 1 ≤ (n : Int)) = true := by simp; omega
          go_wp2_with (first
            | (go_at_call 38; refine HAL.out.mono ?_; rintro e w1 ⟨rfl, r, l1, l2, hA, hph, hfr⟩)
            | (at_make; refine wpList_make_full _ rfl (.tmp 93) (.tmp 93) 27 rfl 0 41 i0 (.int .u64 0) 1 Tryz.underlying27 hi0 hz0 hz1 .i64 .i64 _ _ (8 * s - 1) rfl rfl (by omega) (by omega) (by rw [hz2]; omega) (by unfold maxLen; omega) (by simp) ?_; intro w2 hown2 hg2; have hr2 := Row.ofOwn hown2 (made_zeros _); have hf2 : Fr New w1 w2 := ((Fr.refl New _).grownNew hg2); clear hown2 hg2)
            | fail)
          have ht3 : (w2.alloc (.cells #[.int .i64 (want : Int), .int .i64 (s : Int), .int .i64 (p : Int), .slice (some ⟨w1.heap.size, 0, none⟩) (8 * s - 1) (8 * s - 1)] 53)).heap[w2.heap.size]? = some (.cells #[.int .i64 (want : Int), .int .i64 (s : Int), .int .i64 (p : Int), .slice (some ⟨w1.heap.size, 0, none⟩) (8 * s - 1) (8 * s - 1)] 53 (0, 0)) := Go.Deep.blk_alloc_new w2 _
          have hf3 : Fr New w1 (w2.alloc (.cells #[.int .i64 (want : Int), .int .i64 (s : Int), .int .i64 (p : Int), .slice (some ⟨w1.heap.size, 0, none⟩) (8 * s - 1) (8 * s - 1)] 53)) := hf2.alloc _
          have hr3 : Row (w2.alloc (.cells #[.int .i64 (want : Int), .int .i64 (s : Int), .int .i64 (p : Int), .slice (some ⟨w1.heap.size, 0, none⟩) (8 * s - 1) (8 * s - 1)] 53)) w1.heap.size (List.replicate (8 * s - 1) 0) := ((Fr.refl New w2).alloc _).heap hr2 id
          obtain ⟨w3, hw3⟩ : ∃ w3, w3 = w2.alloc (.cells #[.int .i64 (want : Int), .int .i64 (s : Int), .int .i64 (p : Int), .slice (some ⟨w1.heap.size, 0, none⟩) (8 * s - 1) (8 * s - 1)] 53) := ⟨_, rfl⟩
          obtain ⟨gt, hgt⟩ : ∃ gt, gt = w2.heap.size := ⟨_, rfl⟩
          obtain ⟨gm, hgm⟩ : ∃ gm, gm = w1.heap.size := ⟨_, rfl⟩
          rw [← hw3, ← hgt, ← hgm] at ht3
          rw [← hw3] at hf3
          rw [← hw3, ← hgm] at hr3
          rw [← hw3, ← hgt, ← hgm]
          have HGM : Hid (gm = w1.heap.size) := hgm
          obtain ⟨blk3, tn3, tk3⟩ := HNX.out r w1 hph hfr w3 hf3
          rw [HVN.out, ← HL.out] at blk3
          have HB3 : Hid (∀ w4, Fr New w3 w4 → w4.heap[sb]? = some (.cells (stArr hb n (.slice av l.length cv) vk now ws) 34 (0, 0)) ∧ ThAt w4 (.slice av l.length cv) l un ∧ w4.heap[gt]? = some (.cells #[.int .i64 (want : Int), .int .i64 (s : Int), .int .i64 (p : Int), .slice (some ⟨gm, 0, none⟩) (8 * s - 1) (8 * s - 1)] 53 (0, 0)) ∧ Row w4 gm (List.replicate (8 * s - 1) 0)) := fun w4 hf4 => ⟨hf4.heap blk3 id, tn3.new hf4, hf4.heap ht3 id, hf4.heap hr3 id⟩
          have HE3 : Hid (∀ w6 v6, Fr New w3 w6 → w6.ownsRow w1.heap.size 53 4 v6 (l.length + 1) (ktCells (l.take l1.length ++ ((⟨c, s, p⟩ : Ob), List.replicate (8 * s - 1) (0 : Int)) :: l.drop l1.length) (un.take l1.length ++ .slice (some ⟨gm, 0, none⟩) (8 * s - 1) (8 * s - 1) :: un.drop l1.length)) → ∃ now' F', Story F' sb n ws now' sts (w6.setCell ⟨sb, 2, none⟩ v6) ∧ Fr F w (w6.setCell ⟨sb, 2, none⟩ v6) ∧ (∀ k, F' k → F k ∨ w.heap.size ≤ k) ∧ AllocTo now n s p now') := fun w6 v6 hf6 ho => HEND.out r l1 l2 w1 w6 gm v6 hA hph hfr (hf3.same hf6) (by rw [hgm]; exact Nat.le_refl _) (hf6.heap hr3 id) ho
          obtain ⟨hKl, hK32, hKi⟩ := HKL.out r l1 l2 hA
          have HKI : Hid (∀ i (hi : i < l.length), (i < l1.length → (l[i]).1.block < c) ∧ (l1.length ≤ i → c < (l[i]).1.block)) := hKi
          have c2' : w3.cell? ⟨sb, 2, none⟩ = some (.slice av l.length cv) := ((block_cells blk3).1 2).trans rfl
          have hsb3 : sb < w3.heap.size := lt_of_block blk3
          have HW13 : Hid (w1.heap.size ≤ w3.heap.size) := hf3.size
          have HUN : Hid (un.length = l.length) := tn3.len
          have HTN3 : Hid (ThAt w3 (.slice av l.length cv) l un) := tn3
          obtain ⟨K, hK⟩ : ∃ K, K = l1.length := ⟨_, rfl⟩
          rw [← hK] at HE3 hKl HKI
          clear hK hA hph hfr hf2 hr2 ht3 hr3 hw3 hgt hgm blk3 tk3 hKi hf3 tn3 HEND HKL HNX HAL
          go_loopg [16] K (fun gh vi wq => ∃ i : Nat, vi = .int .i64 (i : Int) ∧ gh = K - i ∧ i ≤ K ∧ wq = w3)
          case atStart => exact ⟨0, rfl, by omega, by omega, rfl⟩
          case round =>
            obtain ⟨i, rfl, rfl, hiK, hwq⟩ := hrel
            subst hwq
            by_cases hi : i < K
            · have hil : i < l.length := by omega
              have hd0 : decide ((i : Int) < (l.length : Int)) = true := by simp; omega
              obtain ⟨g2, cg2, gi2, ci2, hv2, hg2, d0, _, _, _, _, _, _, _⟩ := HTN3.out.at' i hil
              cases hv2
              have hlow := (HKI.out i hil).1 hi
              obtain ⟨B, hB⟩ : ∃ B : Nat, B = (l[i]).1.block + 1 := ⟨_, rfl⟩
              rw [← hB] at d0
              have hdw : decide (B < want) = true := by have := HWC.out; simp; omega
              clear hB hlow
              go_wp2
              go_roundg (K - (i + 1))
              case measure => omega
              case rel => exact ⟨i + 1, by go_num, rfl, by omega, rfl⟩
            · obtain rfl : i = K := by omega
              clear hi hiK
              have HONE : Hid (∀ u ∈ un, u.oneCell' = true) := HTN3.out.one
              have HFIN : Hid (∀ (w6 : World) (v6 : Value), w6.ownsRow wr.heap.size 53 4 v6 (0 + i + 1 + (l.length - i)) (([] ++ ktCells (l.take i) (un.take i) ++ [.int .i64 (want : Int), .int .i64 (s : Int), .int .i64 (p : Int), .slice (some ⟨gm, 0, none⟩) (8 * s - 1) (8 * s - 1)]) ++ ktCells (l.drop i) (un.drop i)) → w6.ownsRow w1.heap.size 53 4 v6 (l.length + 1) (ktCells (l.take i ++ ((⟨c, s, p⟩ : Ob), List.replicate (8 * s - 1) (0 : Int)) :: l.drop i) (un.take i ++ .slice (some ⟨gm, 0, none⟩) (8 * s - 1) (8 * s - 1) :: un.drop i))) := fun w6 v6 ho => by
                rw [kt_mid l un i HUN.out]
                rw [show 0 + i + 1 + (l.length - i) = l.length + 1 by omega, HWC.out.1] at ho
                exact own_le ho HW13.out
              rcases HTN3.out.own.2 with ⟨e, hl0⟩ | ⟨g2, cap, cur, e, _⟩
              · have hl0' : l = [] := List.length_eq_zero_iff.mp hl0
                subst hl0'
                have hun : un = [] := List.length_eq_zero_iff.mp HUN.out
                simp only [List.length_nil, Value.slice.injEq] at e
                obtain ⟨rfl, _, rfl⟩ := e
                obtain rfl : i = 0 := by simpa using hKl
                obtain ⟨_, _, gt4, _⟩ := HB3.out wr (Fr.refl _ _)
                have e0 : wr.cell? ⟨gt, 0, none⟩ = some (.int .i64 (want : Int)) := ((block_cells gt4).1 0).trans rfl
                have e1 : wr.cell? ⟨gt, 1, none⟩ = some (.int .i64 (s : Int)) := ((block_cells gt4).1 1).trans rfl
                have e2 : wr.cell? ⟨gt, 2, none⟩ = some (.int .i64 (p : Int)) := ((block_cells gt4).1 2).trans rfl
                have e3 : wr.cell? ⟨gt, 3, none⟩ = some (.slice (some ⟨gm, 0, none⟩) (8 * s - 1) (8 * s - 1)) := ((block_cells gt4).1 3).trans rfl
                have hbase : wr.heap.size ≤ wr.heap.size := Nat.le_refl _
                simp only [List.length_nil] at c2' HB3
                clear gt4 hl0 hKl hK32
                go_wp2_with (first
                  | (at_builtin; refine wpList_append_own_none rfl (.tmp 119) (.tmp 126) 29 rfl wr.heap.size 53 i1 4 Tryz.underlying29 hi1 _ _ _ rfl (World.ownsRow_nil wr wr.heap.size 53 4) rfl ?_)
                  | (at_builtin; refine wpList_append_own_at _ rfl (.tmp 128) (.tmp 130) 29 rfl wr.heap.size 53 i1 _ 4 48 Tryz.underlying29 hi1 hy0 hy1 hy2 rfl (by decide) _ _ _ rfl ((World.ownsRow_nil wr wr.heap.size 53 4).alloc _) ⟨wr.heap.size, 0, none⟩ 1 1 [.int .i64 (want : Int), .int .i64 (s : Int), .int .i64 (p : Int), .slice (some ⟨gm, 0, none⟩) (8 * s - 1) (8 * s - 1)] rfl rfl (World.news_of_block (Go.Deep.blk_alloc_new wr _)) (by intro u hu; simp at hu; rcases hu with rfl | rfl | rfl | rfl <;> rfl) (by unfold maxLen; omega) (by omega) (by simp) ?_; intro v5 w5 ho5 hg5 _ _; have hf5 : Fr New wr w5 := ((Fr.refl New wr).alloc _).grownNew hg5; obtain ⟨sb5, _, _, _⟩ := HB3.out w5 hf5; have d2 : w5.cell? ⟨sb, 2, none⟩ = some (.slice none 0 0) := ((block_cells sb5).1 2).trans rfl; have d2f := (block_cells sb5).2 2; have hsb5 : sb < w5.heap.size := lt_of_block sb5; clear sb5 e0 e1 e2 e3; obtain ⟨a5, c5, rfl⟩ := own_slice ho5)
                  | (at_builtin; refine wpList_append_own_none rfl (.tmp 133) (.tmp 140) 29 rfl wr.heap.size 53 i1 4 Tryz.underlying29 hi1 _ _ _ rfl ho5 rfl ?_)
                  | fail)
                go_ret
                refine ⟨rfl, HE3.out w5 _ hf5 (HFIN.out w5 _ ?_)⟩
                simpa [ktCells] using ho5
              · simp only [Value.slice.injEq] at e
                obtain ⟨rfl, _, rfl⟩ := e
                have HCC : Hid (∀ w4, Fr New wr w4 → Hid (((ktCells (l.take i) (un.take i)).length = i * 4 ∧ ∀ j u, (ktCells (l.take i) (un.take i))[j]? = some u → w4.cell? ((⟨g2, 0, none⟩ : Addr).add j) = some u) ∧
              ((ktCells (l.drop i) (un.drop i)).length = (l.length - i) * 4 ∧ ∀ j u, (ktCells (l.drop i) (un.drop i))[j]? = some u → w4.cell? ((⟨g2, i * 4, none⟩ : Addr).add j) = some u) ∧ l.length ≤ cv ∧ g2 < w4.heap.size)) := fun w4 hf4 => ((HB3.out w4 hf4).2.1).cells i hKl
                have HC := HCC.out wr (Fr.refl _ _)
                by_cases hil : i < l.length
                · have hd0 : decide ((i : Int) < (l.length : Int)) = true := by simp; omega
                  obtain ⟨g2', cg2, gi2, ci2, hv2, hg2, d0, _, _, _, _, _, _, _⟩ := HTN3.out.at' i hil
                  cases hv2
                  have hlow := (HKI.out i hil).2 (Nat.le_refl _)
                  obtain ⟨B, hB⟩ : ∃ B : Nat, B = (l[i]).1.block + 1 := ⟨_, rfl⟩
                  rw [← hB] at d0
                  have hdw : decide (B < want) = false := by have := HWC.out; simp; omega
                  clear hB hlow
                  have hcv : (i : Int) ≤ (cv : Int) := by have := HC.out.2.2.1; omega
                  go_wp2_with (first
                    | (at_builtin; refine wpList_append_own_at _ rfl (.tmp 119) (.tmp 126) 29 rfl wr.heap.size 53 i1 _ 4 48 Tryz.underlying29 hi1 hy0 hy1 hy2 rfl (by decide) _ _ _ rfl (World.ownsRow_nil wr wr.heap.size 53 4) ⟨g2, 0, none⟩ i cv (ktCells (l.take i) (un.take i)) rfl HC.out.1.1 HC.out.1.2 (ktCells_one _ _ (fun u hu => HONE.out u (List.mem_of_mem_take hu))) (by unfold maxLen; omega) (by omega) (by simp) ?_; intro v4 w4 ho4 hg4 _ _; have hf4 : Fr New wr w4 := (Fr.refl New wr).grownNew hg4; obtain ⟨sb4, _, gt4, _⟩ := HB3.out w4 hf4; have e0 : w4.cell? ⟨gt, 0, none⟩ = some (.int .i64 (want : Int)) := ((block_cells gt4).1 0).trans rfl; have e1 : w4.cell? ⟨gt, 1, none⟩ = some (.int .i64 (s : Int)) := ((block_cells gt4).1 1).trans rfl; have e2 : w4.cell? ⟨gt, 2, none⟩ = some (.int .i64 (p : Int)) := ((block_cells gt4).1 2).trans rfl; have e3 : w4.cell? ⟨gt, 3, none⟩ = some (.slice (some ⟨gm, 0, none⟩) (8 * s - 1) (8 * s - 1)) := ((block_cells gt4).1 3).trans rfl; clear sb4 gt4)
                    | (at_builtin; refine wpList_append_own_at _ rfl (.tmp 128) (.tmp 130) 29 rfl wr.heap.size 53 i1 _ 4 48 Tryz.underlying29 hi1 hy0 hy1 hy2 rfl (by decide) _ _ _ rfl (ho4.alloc _) ⟨w4.heap.size, 0, none⟩ 1 1 [.int .i64 (want : Int), .int .i64 (s : Int), .int .i64 (p : Int), .slice (some ⟨gm, 0, none⟩) (8 * s - 1) (8 * s - 1)] rfl rfl (World.news_of_block (Go.Deep.blk_alloc_new w4 _)) (by intro u hu; simp at hu; rcases hu with rfl | rfl | rfl | rfl <;> rfl) (by unfold maxLen; omega) (by omega) (by have := hf4.size; simp; omega) ?_; intro v5 w5 ho5 hg5 _ _; have hf5 : Fr New wr w5 := (hf4.alloc _).grown hg5 (fun k hk e => by have := (own_block ho4 e).1; omega); obtain ⟨sb5, tn5, _, _⟩ := HB3.out w5 hf5; have d2 : w5.cell? ⟨sb, 2, none⟩ = some (.slice (some ⟨g2, 0, none⟩) l.length cv) := ((block_cells sb5).1 2).trans rfl; have HC5 := HCC.out w5 hf5; clear sb5 tn5 e0 e1 e2 e3)
                    | (at_builtin; refine wpList_append_own_at _ rfl (.tmp 133) (.tmp 140) 29 rfl wr.heap.size 53 i1 _ 4 48 Tryz.underlying29 hi1 hy0 hy1 hy2 rfl (by decide) _ _ _ rfl ho5 ⟨g2, i * 4, none⟩ (l.length - i) (cv - i) (ktCells (l.drop i) (un.drop i)) rfl HC5.out.2.1.1 HC5.out.2.1.2 (ktCells_one _ _ (fun u hu => HONE.out u (List.mem_of_mem_drop hu))) (by unfold maxLen; omega) (by omega) (by have := hf5.size; omega) ?_; intro v6 w6 ho6 hg6 _ _; have hf6 : Fr New wr w6 := hf5.grown hg6 (fun k hk e => by have := (own_block ho5 e).1; omega); obtain ⟨sb6, _, _, _⟩ := HB3.out w6 hf6; have d2 : w6.cell? ⟨sb, 2, none⟩ = some (.slice (some ⟨g2, 0, none⟩) l.length cv) := ((block_cells sb6).1 2).trans rfl; have d2f := (block_cells sb6).2 2; have hsb6 : sb < w6.heap.size := lt_of_block sb6; clear sb6; obtain ⟨a6, c6, rfl⟩ := own_slice ho6)
                    | fail)
                  go_ret
                  exact ⟨rfl, HE3.out w6 _ hf6 (HFIN.out w6 _ (by simpa only [Nat.zero_add] using ho6))⟩
                · have hd0 : decide (l.length < l.length) = false := by simp
                  obtain rfl : i = l.length := by omega
                  clear hil
                  by_cases hcvi : cv = l.length
                  · subst hcvi
                    have hcv : l.length ≤ l.length := by omega
                    go_wp2_with (first
                      | (at_builtin; refine wpList_append_own_at _ rfl (.tmp 119) (.tmp 126) 29 rfl wr.heap.size 53 i1 _ 4 48 Tryz.underlying29 hi1 hy0 hy1 hy2 rfl (by decide) _ _ _ rfl (World.ownsRow_nil wr wr.heap.size 53 4) ⟨g2, 0, none⟩ l.length l.length (ktCells (l.take l.length) (un.take l.length)) rfl HC.out.1.1 HC.out.1.2 (ktCells_one _ _ (fun u hu => HONE.out u (List.mem_of_mem_take hu))) (by unfold maxLen; omega) (by omega) (by simp) ?_; intro v4 w4 ho4 hg4 _ _; have hf4 : Fr New wr w4 := (Fr.refl New wr).grownNew hg4; obtain ⟨sb4, _, gt4, _⟩ := HB3.out w4 hf4; have e0 : w4.cell? ⟨gt, 0, none⟩ = some (.int .i64 (want : Int)) := ((block_cells gt4).1 0).trans rfl; have e1 : w4.cell? ⟨gt, 1, none⟩ = some (.int .i64 (s : Int)) := ((block_cells gt4).1 1).trans rfl; have e2 : w4.cell? ⟨gt, 2, none⟩ = some (.int .i64 (p : Int)) := ((block_cells gt4).1 2).trans rfl; have e3 : w4.cell? ⟨gt, 3, none⟩ = some (.slice (some ⟨gm, 0, none⟩) (8 * s - 1) (8 * s - 1)) := ((block_cells gt4).1 3).trans rfl; clear sb4 gt4)
                      | (at_builtin; refine wpList_append_own_at _ rfl (.tmp 128) (.tmp 130) 29 rfl wr.heap.size 53 i1 _ 4 48 Tryz.underlying29 hi1 hy0 hy1 hy2 rfl (by decide) _ _ _ rfl (ho4.alloc _) ⟨w4.heap.size, 0, none⟩ 1 1 [.int .i64 (want : Int), .int .i64 (s : Int), .int .i64 (p : Int), .slice (some ⟨gm, 0, none⟩) (8 * s - 1) (8 * s - 1)] rfl rfl (World.news_of_block (Go.Deep.blk_alloc_new w4 _)) (by intro u hu; simp at hu; rcases hu with rfl | rfl | rfl | rfl <;> rfl) (by unfold maxLen; omega) (by omega) (by have := hf4.size; simp; omega) ?_; intro v5 w5 ho5 hg5 _ _; have hf5 : Fr New wr w5 := (hf4.alloc _).grown hg5 (fun k hk e => by have := (own_block ho4 e).1; omega); obtain ⟨sb5, tn5, _, _⟩ := HB3.out w5 hf5; have d2 : w5.cell? ⟨sb, 2, none⟩ = some (.slice (some ⟨g2, 0, none⟩) l.length l.length) := ((block_cells sb5).1 2).trans rfl; have HC5 := HCC.out w5 hf5; clear sb5 tn5 e0 e1 e2 e3)
                      | (at_builtin; refine wpList_append_own_at _ rfl (.tmp 133) (.tmp 140) 29 rfl wr.heap.size 53 i1 _ 4 48 Tryz.underlying29 hi1 hy0 hy1 hy2 rfl (by decide) _ _ _ rfl ho5 _ 0 _ [] rfl rfl (fun j u hj => by simp at hj) (fun u hu => by cases hu) (by unfold maxLen; omega) (by omega) (by have := hf5.size; omega) ?_; intro v6 w6 ho6 hg6 _ _; have hf6 : Fr New wr w6 := hf5.grown hg6 (fun k hk e => by have := (own_block ho5 e).1; omega); obtain ⟨sb6, _, _, _⟩ := HB3.out w6 hf6; have d2 : w6.cell? ⟨sb, 2, none⟩ = some (.slice (some ⟨g2, 0, none⟩) l.length l.length) := ((block_cells sb6).1 2).trans rfl; have d2f := (block_cells sb6).2 2; have hsb6 : sb < w6.heap.size := lt_of_block sb6; clear sb6; obtain ⟨a6, c6, rfl⟩ := own_slice ho6)
                      | fail)
                    go_ret
                    refine ⟨rfl, HE3.out w6 _ hf6 (HFIN.out w6 _ ?_)⟩
                    simpa [ktCells] using ho6
                  · have hcvl : l.length < cv := by have := HC.out.2.2.1; omega
                    have hcv : l.length ≤ cv := by omega
                    go_wp2_with (first
                      | (at_builtin; refine wpList_append_own_at _ rfl (.tmp 119) (.tmp 126) 29 rfl wr.heap.size 53 i1 _ 4 48 Tryz.underlying29 hi1 hy0 hy1 hy2 rfl (by decide) _ _ _ rfl (World.ownsRow_nil wr wr.heap.size 53 4) ⟨g2, 0, none⟩ l.length cv (ktCells (l.take l.length) (un.take l.length)) rfl HC.out.1.1 HC.out.1.2 (ktCells_one _ _ (fun u hu => HONE.out u (List.mem_of_mem_take hu))) (by unfold maxLen; omega) (by omega) (by simp) ?_; intro v4 w4 ho4 hg4 _ _; have hf4 : Fr New wr w4 := (Fr.refl New wr).grownNew hg4; obtain ⟨sb4, _, gt4, _⟩ := HB3.out w4 hf4; have e0 : w4.cell? ⟨gt, 0, none⟩ = some (.int .i64 (want : Int)) := ((block_cells gt4).1 0).trans rfl; have e1 : w4.cell? ⟨gt, 1, none⟩ = some (.int .i64 (s : Int)) := ((block_cells gt4).1 1).trans rfl; have e2 : w4.cell? ⟨gt, 2, none⟩ = some (.int .i64 (p : Int)) := ((block_cells gt4).1 2).trans rfl; have e3 : w4.cell? ⟨gt, 3, none⟩ = some (.slice (some ⟨gm, 0, none⟩) (8 * s - 1) (8 * s - 1)) := ((block_cells gt4).1 3).trans rfl; clear sb4 gt4)
                      | (at_builtin; refine wpList_append_own_at _ rfl (.tmp 128) (.tmp 130) 29 rfl wr.heap.size 53 i1 _ 4 48 Tryz.underlying29 hi1 hy0 hy1 hy2 rfl (by decide) _ _ _ rfl (ho4.alloc _) ⟨w4.heap.size, 0, none⟩ 1 1 [.int .i64 (want : Int), .int .i64 (s : Int), .int .i64 (p : Int), .slice (some ⟨gm, 0, none⟩) (8 * s - 1) (8 * s - 1)] rfl rfl (World.news_of_block (Go.Deep.blk_alloc_new w4 _)) (by intro u hu; simp at hu; rcases hu with rfl | rfl | rfl | rfl <;> rfl) (by unfold maxLen; omega) (by omega) (by have := hf4.size; simp; omega) ?_; intro v5 w5 ho5 hg5 _ _; have hf5 : Fr New wr w5 := (hf4.alloc _).grown hg5 (fun k hk e => by have := (own_block ho4 e).1; omega); obtain ⟨sb5, tn5, _, _⟩ := HB3.out w5 hf5; have d2 : w5.cell? ⟨sb, 2, none⟩ = some (.slice (some ⟨g2, 0, none⟩) l.length cv) := ((block_cells sb5).1 2).trans rfl; have HC5 := HCC.out w5 hf5; clear sb5 tn5 e0 e1 e2 e3)
                      | (at_builtin; refine wpList_append_own_at _ rfl (.tmp 133) (.tmp 140) 29 rfl wr.heap.size 53 i1 _ 4 48 Tryz.underlying29 hi1 hy0 hy1 hy2 rfl (by decide) _ _ _ rfl ho5 _ 0 _ [] rfl rfl (fun j u hj => by simp at hj) (fun u hu => by cases hu) (by unfold maxLen; omega) (by omega) (by have := hf5.size; omega) ?_; intro v6 w6 ho6 hg6 _ _; have hf6 : Fr New wr w6 := hf5.grown hg6 (fun k hk e => by have := (own_block ho5 e).1; omega); obtain ⟨sb6, _, _, _⟩ := HB3.out w6 hf6; have d2 : w6.cell? ⟨sb, 2, none⟩ = some (.slice (some ⟨g2, 0, none⟩) l.length cv) := ((block_cells sb6).1 2).trans rfl; have d2f := (block_cells sb6).2 2; have hsb6 : sb < w6.heap.size := lt_of_block sb6; clear sb6; obtain ⟨a6, c6, rfl⟩ := own_slice ho6)
                      | fail)
                    go_ret
                    refine ⟨rfl, HE3.out w6 _ hf6 (HFIN.out w6 _ ?_)⟩
                    simpa [ktCells] using ho6
        · have hd1 : decide ((b : Int) + (s : Int) - 1 ≤ (n : Int)) = false := by simp; omega
          go_wp2_with (first
            | (go_at_call 38; refine HAL.out.mono ?_; rintro e w1 ⟨rfl, r, l1, l2, hA, hph, hfr⟩)
            | (at_make; refine wpList_make_full _ rfl (.tmp 93) (.tmp 93) 27 rfl 0 41 i0 (.int .u64 0) 1 Tryz.underlying27 hi0 hz0 hz1 .i64 .i64 _ _ (8 * s - 1) rfl rfl (by omega) (by omega) (by rw [hz2]; omega) (by unfold maxLen; omega) (by simp) ?_; intro w2 hown2 hg2; have hr2 := Row.ofOwn hown2 (made_zeros _); have hf2 : Fr New w1 w2 := ((Fr.refl New _).grownNew hg2); clear hown2 hg2)
            | fail)
          have ht3 : (w2.alloc (.cells #[.int .i64 (want : Int), .int .i64 (s : Int), .int .i64 (p : Int), .slice (some ⟨w1.heap.size, 0, none⟩) (8 * s - 1) (8 * s - 1)] 53)).heap[w2.heap.size]? = some (.cells #[.int .i64 (want : Int), .int .i64 (s : Int), .int .i64 (p : Int), .slice (some ⟨w1.heap.size, 0, none⟩) (8 * s - 1) (8 * s - 1)] 53 (0, 0)) := Go.Deep.blk_alloc_new w2 _
          have hf3 : Fr New w1 (w2.alloc (.cells #[.int .i64 (want : Int), .int .i64 (s : Int), .int .i64 (p : Int), .slice (some ⟨w1.heap.size, 0, none⟩) (8 * s - 1) (8 * s - 1)] 53)) := hf2.alloc _
          have hr3 : Row (w2.alloc (.cells #[.int .i64 (want : Int), .int .i64 (s : Int), .int .i64 (p : Int), .slice (some ⟨w1.heap.size, 0, none⟩) (8 * s - 1) (8 * s - 1)] 53)) w1.heap.size (List.replicate (8 * s - 1) 0) := ((Fr.refl New w2).alloc _).heap hr2 id
          obtain ⟨w3, hw3⟩ : ∃ w3, w3 = w2.alloc (.cells #[.int .i64 (want : Int), .int .i64 (s : Int), .int .i64 (p : Int), .slice (some ⟨w1.heap.size, 0, none⟩) (8 * s - 1) (8 * s - 1)] 53) := ⟨_, rfl⟩
          obtain ⟨gt, hgt⟩ : ∃ gt, gt = w2.heap.size := ⟨_, rfl⟩
          obtain ⟨gm, hgm⟩ : ∃ gm, gm = w1.heap.size := ⟨_, rfl⟩
          rw [← hw3, ← hgt, ← hgm] at ht3
          rw [← hw3] at hf3
          rw [← hw3, ← hgm] at hr3
          rw [← hw3, ← hgt, ← hgm]
          have HGM : Hid (gm = w1.heap.size) := hgm
          obtain ⟨blk3, tn3, tk3⟩ := HNX.out r w1 hph hfr w3 hf3
          rw [HVN.out, ← HL.out] at blk3
          have HB3 : Hid (∀ w4, Fr New w3 w4 → w4.heap[sb]? = some (.cells (stArr hb n (.slice av l.length cv) vk now ws) 34 (0, 0)) ∧ ThAt w4 (.slice av l.length cv) l un ∧ w4.heap[gt]? = some (.cells #[.int .i64 (want : Int), .int .i64 (s : Int), .int .i64 (p : Int), .slice (some ⟨gm, 0, none⟩) (8 * s - 1) (8 * s - 1)] 53 (0, 0)) ∧ Row w4 gm (List.replicate (8 * s - 1) 0)) := fun w4 hf4 => ⟨hf4.heap blk3 id, tn3.new hf4, hf4.heap ht3 id, hf4.heap hr3 id⟩
          have HE3 : Hid (∀ w6 v6, Fr New w3 w6 → w6.ownsRow w1.heap.size 53 4 v6 (l.length + 1) (ktCells (l.take l1.length ++ ((⟨c, s, p⟩ : Ob), List.replicate (8 * s - 1) (0 : Int)) :: l.drop l1.length) (un.take l1.length ++ .slice (some ⟨gm, 0, none⟩) (8 * s - 1) (8 * s - 1) :: un.drop l1.length)) → ∃ now' F', Story F' sb n ws now' sts (w6.setCell ⟨sb, 2, none⟩ v6) ∧ Fr F w (w6.setCell ⟨sb, 2, none⟩ v6) ∧ (∀ k, F' k → F k ∨ w.heap.size ≤ k) ∧ AllocTo now n s p now') := fun w6 v6 hf6 ho => HEND.out r l1 l2 w1 w6 gm v6 hA hph hfr (hf3.same hf6) (by rw [hgm]; exact Nat.le_refl _) (hf6.heap hr3 id) ho
          obtain ⟨hKl, hK32, hKi⟩ := HKL.out r l1 l2 hA
          have HKI : Hid (∀ i (hi : i < l.length), (i < l1.length → (l[i]).1.block < c) ∧ (l1.length ≤ i → c < (l[i]).1.block)) := hKi
          have c2' : w3.cell? ⟨sb, 2, none⟩ = some (.slice av l.length cv) := ((block_cells blk3).1 2).trans rfl
          have hsb3 : sb < w3.heap.size := lt_of_block blk3
          have HW13 : Hid (w1.heap.size ≤ w3.heap.size) := hf3.size
          have HUN : Hid (un.length = l.length) := tn3.len
          have HTN3 : Hid (ThAt w3 (.slice av l.length cv) l un) := tn3
          obtain ⟨K, hK⟩ : ∃ K, K = l1.length := ⟨_, rfl⟩
          rw [← hK] at HE3 hKl HKI
          clear hK hA hph hfr hf2 hr2 ht3 hr3 hw3 hgt hgm blk3 tk3 hKi hf3 tn3 HEND HKL HNX HAL
          go_loopg [16] K (fun gh vi wq => ∃ i : Nat, vi = .int .i64 (i : Int) ∧ gh = K - i ∧ i ≤ K ∧ wq = w3)
          case atStart => exact ⟨0, rfl, by omega, by omega, rfl⟩
          case round =>
            obtain ⟨i, rfl, rfl, hiK, hwq⟩ := hrel
            subst hwq
            by_cases hi : i < K
            · have hil : i < l.length := by omega
              have hd0 : decide ((i : Int) < (l.length : Int)) = true := by simp; omega
              obtain ⟨g2, cg2, gi2, ci2, hv2, hg2, d0, _, _, _, _, _, _, _⟩ := HTN3.out.at' i hil
              cases hv2
              have hlow := (HKI.out i hil).1 hi
              obtain ⟨B, hB⟩ : ∃ B : Nat, B = (l[i]).1.block + 1 := ⟨_, rfl⟩
              rw [← hB] at d0
              have hdw : decide (B < want) = true := by have := HWC.out; simp; omega
              clear hB hlow
              go_wp2
              go_roundg (K - (i + 1))
              case measure => omega
              case rel => exact ⟨i + 1, by go_num, rfl, by omega, rfl⟩
            · obtain rfl : i = K := by omega
              clear hi hiK
              have HONE : Hid (∀ u ∈ un, u.oneCell' = true) := HTN3.out.one
              have HFIN : Hid (∀ (w6 : World) (v6 : Value), w6.ownsRow wr.heap.size 53 4 v6 (0 + i + 1 + (l.length - i)) (([] ++ ktCells (l.take i) (un.take i) ++ [.int .i64 (want : Int), .int .i64 (s : Int), .int .i64 (p : Int), .slice (some ⟨gm, 0, none⟩) (8 * s - 1) (8 * s - 1)]) ++ ktCells (l.drop i) (un.drop i)) → w6.ownsRow w1.heap.size 53 4 v6 (l.length + 1) (ktCells (l.take i ++ ((⟨c, s, p⟩ : Ob), List.replicate (8 * s - 1) (0 : Int)) :: l.drop i) (un.take i ++ .slice (some ⟨gm, 0, none⟩) (8 * s - 1) (8 * s - 1) :: un.drop i))) := fun w6 v6 ho => by
                rw [kt_mid l un i HUN.out]
                rw [show 0 + i + 1 + (l.length - i) = l.length + 1 by omega, HWC.out.1] at ho
                exact own_le ho HW13.out
              rcases HTN3.out.own.2 with ⟨e, hl0⟩ | ⟨g2, cap, cur, e, _⟩
              · have hl0' : l = [] := List.length_eq_zero_iff.mp hl0
                subst hl0'
                have hun : un = [] := List.length_eq_zero_iff.mp HUN.out
                simp only [List.length_nil, Value.slice.injEq] at e
                obtain ⟨rfl, _, rfl⟩ := e
                obtain rfl : i = 0 := by simpa using hKl
                obtain ⟨_, _, gt4, _⟩ := HB3.out wr (Fr.refl _ _)
                have e0 : wr.cell? ⟨gt, 0, none⟩ = some (.int .i64 (want : Int)) := ((block_cells gt4).1 0).trans rfl
                have e1 : wr.cell? ⟨gt, 1, none⟩ = some (.int .i64 (s : Int)) := ((block_cells gt4).1 1).trans rfl
                have e2 : wr.cell? ⟨gt, 2, none⟩ = some (.int .i64 (p : Int)) := ((block_cells gt4).1 2).trans rfl
                have e3 : wr.cell? ⟨gt, 3, none⟩ = some (.slice (some ⟨gm, 0, none⟩) (8 * s - 1) (8 * s - 1)) := ((block_cells gt4).1 3).trans rfl
                have hbase : wr.heap.size ≤ wr.heap.size := Nat.le_refl _
                simp only [List.length_nil] at c2' HB3
                clear gt4 hl0 hKl hK32
                go_wp2_with (first
                  | (at_builtin; refine wpList_append_own_none rfl (.tmp 119) (.tmp 126) 29 rfl wr.heap.size 53 i1 4 Tryz.underlying29 hi1 _ _ _ rfl (World.ownsRow_nil wr wr.heap.size 53 4) rfl ?_)
                  | (at_builtin; refine wpList_append_own_at _ rfl (.tmp 128) (.tmp 130) 29 rfl wr.heap.size 53 i1 _ 4 48 Tryz.underlying29 hi1 hy0 hy1 hy2 rfl (by decide) _ _ _ rfl ((World.ownsRow_nil wr wr.heap.size 53 4).alloc _) ⟨wr.heap.size, 0, none⟩ 1 1 [.int .i64 (want : Int), .int .i64 (s : Int), .int .i64 (p : Int), .slice (some ⟨gm, 0, none⟩) (8 * s - 1) (8 * s - 1)] rfl rfl (World.news_of_block (Go.Deep.blk_alloc_new wr _)) (by intro u hu; simp at hu; rcases hu with rfl | rfl | rfl | rfl <;> rfl) (by unfold maxLen; omega) (by omega) (by simp) ?_; intro v5 w5 ho5 hg5 _ _; have hf5 : Fr New wr w5 := ((Fr.refl New wr).alloc _).grownNew hg5; obtain ⟨sb5, _, _, _⟩ := HB3.out w5 hf5; have d2 : w5.cell? ⟨sb, 2, none⟩ = some (.slice none 0 0) := ((block_cells sb5).1 2).trans rfl; have d2f := (block_cells sb5).2 2; have hsb5 : sb < w5.heap.size := lt_of_block sb5; clear sb5 e0 e1 e2 e3; obtain ⟨a5, c5, rfl⟩ := own_slice ho5)
                  | (at_builtin; refine wpList_append_own_none rfl (.tmp 133) (.tmp 140) 29 rfl wr.heap.size 53 i1 4 Tryz.underlying29 hi1 _ _ _ rfl ho5 rfl ?_)
                  | fail)
                go_ret
                refine ⟨rfl, HE3.out w5 _ hf5 (HFIN.out w5 _ ?_)⟩
                simpa [ktCells] using ho5
              · simp only [Value.slice.injEq] at e
                obtain ⟨rfl, _, rfl⟩ := e
                have HCC : Hid (∀ w4, Fr New wr w4 → Hid (((ktCells (l.take i) (un.take i)).length = i * 4 ∧ ∀ j u, (ktCells (l.take i) (un.take i))[j]? = some u → w4.cell? ((⟨g2, 0, none⟩ : Addr).add j) = some u) ∧
              ((ktCells (l.drop i) (un.drop i)).length = (l.length - i) * 4 ∧ ∀ j u, (ktCells (l.drop i) (un.drop i))[j]? = some u → w4.cell? ((⟨g2, i * 4, none⟩ : Addr).add j) = some u) ∧ l.length ≤ cv ∧ g2 < w4.heap.size)) := fun w4 hf4 => ((HB3.out w4 hf4).2.1).cells i hKl
                have HC := HCC.out wr (Fr.refl _ _)
                by_cases hil : i < l.length
                · have hd0 : decide ((i : Int) < (l.length : Int)) = true := by simp; omega
                  obtain ⟨g2', cg2, gi2, ci2, hv2, hg2, d0, _, _, _, _, _, _, _⟩ := HTN3.out.at' i hil
                  cases hv2
                  have hlow := (HKI.out i hil).2 (Nat.le_refl _)
                  obtain ⟨B, hB⟩ : ∃ B : Nat, B = (l[i]).1.block + 1 := ⟨_, rfl⟩
                  rw [← hB] at d0
                  have hdw : decide (B < want) = false := by have := HWC.out; simp; omega
                  clear hB hlow
                  have hcv : (i : Int) ≤ (cv : Int) := by have := HC.out.2.2.1; omega
                  go_wp2_with (first
                    | (at_builtin; refine wpList_append_own_at _ rfl (.tmp 119) (.tmp 126) 29 rfl wr.heap.size 53 i1 _ 4 48 Tryz.underlying29 hi1 hy0 hy1 hy2 rfl (by decide) _ _ _ rfl (World.ownsRow_nil wr wr.heap.size 53 4) ⟨g2, 0, none⟩ i cv (ktCells (l.take i) (un.take i)) rfl HC.out.1.1 HC.out.1.2 (ktCells_one _ _ (fun u hu => HONE.out u (List.mem_of_mem_take hu))) (by unfold maxLen; omega) (by omega) (by simp) ?_; intro v4 w4 ho4 hg4 _ _; have hf4 : Fr New wr w4 := (Fr.refl New wr).grownNew hg4; obtain ⟨sb4, _, gt4, _⟩ := HB3.out w4 hf4; have e0 : w4.cell? ⟨gt, 0, none⟩ = some (.int .i64 (want : Int)) := ((block_cells gt4).1 0).trans rfl; have e1 : w4.cell? ⟨gt, 1, none⟩ = some (.int .i64 (s : Int)) := ((block_cells gt4).1 1).trans rfl; have e2 : w4.cell? ⟨gt, 2, none⟩ = some (.int .i64 (p : Int)) := ((block_cells gt4).1 2).trans rfl; have e3 : w4.cell? ⟨gt, 3, none⟩ = some (.slice (some ⟨gm, 0, none⟩) (8 * s - 1) (8 * s - 1)) := ((block_cells gt4).1 3).trans rfl; clear sb4 gt4)
                    | (at_builtin; refine wpList_append_own_at _ rfl (.tmp 128) (.tmp 130) 29 rfl wr.heap.size 53 i1 _ 4 48 Tryz.underlying29 hi1 hy0 hy1 hy2 rfl (by decide) _ _ _ rfl (ho4.alloc _) ⟨w4.heap.size, 0, none⟩ 1 1 [.int .i64 (want : Int), .int .i64 (s : Int), .int .i64 (p : Int), .slice (some ⟨gm, 0, none⟩) (8 * s - 1) (8 * s - 1)] rfl rfl (World.news_of_block (Go.Deep.blk_alloc_new w4 _)) (by intro u hu; simp at hu; rcases hu with rfl | rfl | rfl | rfl <;> rfl) (by unfold maxLen; omega) (by omega) (by have := hf4.size; simp; omega) ?_; intro v5 w5 ho5 hg5 _ _; have hf5 : Fr New wr w5 := (hf4.alloc _).grown hg5 (fun k hk e => by have := (own_block ho4 e).1; omega); obtain ⟨sb5, tn5, _, _⟩ := HB3.out w5 hf5; have d2 : w5.cell? ⟨sb, 2, none⟩ = some (.slice (some ⟨g2, 0, none⟩) l.length cv) := ((block_cells sb5).1 2).trans rfl; have HC5 := HCC.out w5 hf5; clear sb5 tn5 e0 e1 e2 e3)
                    | (at_builtin; refine wpList_append_own_at _ rfl (.tmp 133) (.tmp 140) 29 rfl wr.heap.size 53 i1 _ 4 48 Tryz.underlying29 hi1 hy0 hy1 hy2 rfl (by decide) _ _ _ rfl ho5 ⟨g2, i * 4, none⟩ (l.length - i) (cv - i) (ktCells (l.drop i) (un.drop i)) rfl HC5.out.2.1.1 HC5.out.2.1.2 (ktCells_one _ _ (fun u hu => HONE.out u (List.mem_of_mem_drop hu))) (by unfold maxLen; omega) (by omega) (by have := hf5.size; omega) ?_; intro v6 w6 ho6 hg6 _ _; have hf6 : Fr New wr w6 := hf5.grown hg6 (fun k hk e => by have := (own_block ho5 e).1; omega); obtain ⟨sb6, _, _, _⟩ := HB3.out w6 hf6; have d2 : w6.cell? ⟨sb, 2, none⟩ = some (.slice (some ⟨g2, 0, none⟩) l.length cv) := ((block_cells sb6).1 2).trans rfl; have d2f := (block_cells sb6).2 2; have hsb6 : sb < w6.heap.size := lt_of_block sb6; clear sb6; obtain ⟨a6, c6, rfl⟩ := own_slice ho6)
                    | fail)
                  go_ret
                  exact ⟨rfl, HE3.out w6 _ hf6 (HFIN.out w6 _ (by simpa only [Nat.zero_add] using ho6))⟩
                · have hd0 : decide (l.length < l.length) = false := by simp
                  obtain rfl : i = l.length := by omega
                  clear hil
                  by_cases hcvi : cv = l.length
                  · subst hcvi
                    have hcv : l.length ≤ l.length := by omega
                    go_wp2_with (first
                      | (at_builtin; refine wpList_append_own_at _ rfl (.tmp 119) (.tmp 126) 29 rfl wr.heap.size 53 i1 _ 4 48 Tryz.underlying29 hi1 hy0 hy1 hy2 rfl (by decide) _ _ _ rfl (World.ownsRow_nil wr wr.heap.size 53 4) ⟨g2, 0, none⟩ l.length l.length (ktCells (l.take l.length) (un.take l.length)) rfl HC.out.1.1 HC.out.1.2 (ktCells_one _ _ (fun u hu => HONE.out u (List.mem_of_mem_take hu))) (by unfold maxLen; omega) (by omega) (by simp) ?_; intro v4 w4 ho4 hg4 _ _; have hf4 : Fr New wr w4 := (Fr.refl New wr).grownNew hg4; obtain ⟨sb4, _, gt4, _⟩ := HB3.out w4 hf4; have e0 : w4.cell? ⟨gt, 0, none⟩ = some (.int .i64 (want : Int)) := ((block_cells gt4).1 0).trans rfl; have e1 : w4.cell? ⟨gt, 1, none⟩ = some (.int .i64 (s : Int)) := ((block_cells gt4).1 1).trans rfl; have e2 : w4.cell? ⟨gt, 2, none⟩ = some (.int .i64 (p : Int)) := ((block_cells gt4).1 2).trans rfl; have e3 : w4.cell? ⟨gt, 3, none⟩ = some (.slice (some ⟨gm, 0, none⟩) (8 * s - 1) (8 * s - 1)) := ((block_cells gt4).1 3).trans rfl; clear sb4 gt4)
                      | (at_builtin; refine wpList_append_own_at _ rfl (.tmp 128) (.tmp 130) 29 rfl wr.heap.size 53 i1 _ 4 48 Tryz.underlying29 hi1 hy0 hy1 hy2 rfl (by decide) _ _ _ rfl (ho4.alloc _) ⟨w4.heap.size, 0, none⟩ 1 1 [.int .i64 (want : Int), .int .i64 (s : Int), .int .i64 (p : Int), .slice (some ⟨gm, 0, none⟩) (8 * s - 1) (8 * s - 1)] rfl rfl (World.news_of_block (Go.Deep.blk_alloc_new w4 _)) (by intro u hu; simp at hu; rcases hu with rfl | rfl | rfl | rfl <;> rfl) (by unfold maxLen; omega) (by omega) (by have := hf4.size; simp; omega) ?_; intro v5 w5 ho5 hg5 _ _; have hf5 : Fr New wr w5 := (hf4.alloc _).grown hg5 (fun k hk e => by have := (own_block ho4 e).1; omega); obtain ⟨sb5, tn5, _, _⟩ := HB3.out w5 hf5; have d2 : w5.cell? ⟨sb, 2, none⟩ = some (.slice (some ⟨g2, 0, none⟩) l.length l.length) := ((block_cells sb5).1 2).trans rfl; have HC5 := HCC.out w5 hf5; clear sb5 tn5 e0 e1 e2 e3)
                      | (at_builtin; refine wpList_append_own_at _ rfl (.tmp 133) (.tmp 140) 29 rfl wr.heap.size 53 i1 _ 4 48 Tryz.underlying29 hi1 hy0 hy1 hy2 rfl (by decide) _ _ _ rfl ho5 _ 0 _ [] rfl rfl (fun j u hj => by simp at hj) (fun u hu => by cases hu) (by unfold maxLen; omega) (by omega) (by have := hf5.size; omega) ?_; intro v6 w6 ho6 hg6 _ _; have hf6 : Fr New wr w6 := hf5.grown hg6 (fun k hk e => by have := (own_block ho5 e).1; omega); obtain ⟨sb6, _, _, _⟩ := HB3.out w6 hf6; have d2 : w6.cell? ⟨sb, 2, none⟩ = some (.slice (some ⟨g2, 0, none⟩) l.length l.length) := ((block_cells sb6).1 2).trans rfl; have d2f := (block_cells sb6).2 2; have hsb6 : sb < w6.heap.size := lt_of_block sb6; clear sb6; obtain ⟨a6, c6, rfl⟩ := own_slice ho6)
                      | fail)
                    go_ret
                    refine ⟨rfl, HE3.out w6 _ hf6 (HFIN.out w6 _ ?_)⟩
                    simpa [ktCells] using ho6
                  · have hcvl : l.length < cv := by have := HC.out.2.2.1; omega
                    have hcv : l.length ≤ cv := by omega
                    go_wp2_with (first
                      | (at_builtin; refine wpList_append_own_at _ rfl (.tmp 119) (.tmp 126) 29 rfl wr.heap.size 53 i1 _ 4 48 Tryz.underlying29 hi1 hy0 hy1 hy2 rfl (by decide) _ _ _ rfl (World.ownsRow_nil wr wr.heap.size 53 4) ⟨g2, 0, none⟩ l.length cv (ktCells (l.take l.length) (un.take l.length)) rfl HC.out.1.1 HC.out.1.2 (ktCells_one _ _ (fun u hu => HONE.out u (List.mem_of_mem_take hu))) (by unfold maxLen; omega) (by omega) (by simp) ?_; intro v4 w4 ho4 hg4 _ _; have hf4 : Fr New wr w4 := (Fr.refl New wr).grownNew hg4; obtain ⟨sb4, _, gt4, _⟩ := HB3.out w4 hf4; have e0 : w4.cell? ⟨gt, 0, none⟩ = some (.int .i64 (want : Int)) := ((block_cells gt4).1 0).trans rfl; have e1 : w4.cell? ⟨gt, 1, none⟩ = some (.int .i64 (s : Int)) := ((block_cells gt4).1 1).trans rfl; have e2 : w4.cell? ⟨gt, 2, none⟩ = some (.int .i64 (p : Int)) := ((block_cells gt4).1 2).trans rfl; have e3 : w4.cell? ⟨gt, 3, none⟩ = some (.slice (some ⟨gm, 0, none⟩) (8 * s - 1) (8 * s - 1)) := ((block_cells gt4).1 3).trans rfl; clear sb4 gt4)
                      | (at_builtin; refine wpList_append_own_at _ rfl (.tmp 128) (.tmp 130) 29 rfl wr.heap.size 53 i1 _ 4 48 Tryz.underlying29 hi1 hy0 hy1 hy2 rfl (by decide) _ _ _ rfl (ho4.alloc _) ⟨w4.heap.size, 0, none⟩ 1 1 [.int .i64 (want : Int), .int .i64 (s : Int), .int .i64 (p : Int), .slice (some ⟨gm, 0, none⟩) (8 * s - 1) (8 * s - 1)] rfl rfl (World.news_of_block (Go.Deep.blk_alloc_new w4 _)) (by intro u hu; simp at hu; rcases hu with rfl | rfl | rfl | rfl <;> rfl) (by unfold maxLen; omega) (by omega) (by have := hf4.size; simp; omega) ?_; intro v5 w5 ho5 hg5 _ _; have hf5 : Fr New wr w5 := (hf4.alloc _).grown hg5 (fun k hk e => by have := (own_block ho4 e).1; omega); obtain ⟨sb5, tn5, _, _⟩ := HB3.out w5 hf5; have d2 : w5.cell? ⟨sb, 2, none⟩ = some (.slice (some ⟨g2, 0, none⟩) l.length cv) := ((block_cells sb5).1 2).trans rfl; have HC5 := HCC.out w5 hf5; clear sb5 tn5 e0 e1 e2 e3)
                      | (at_builtin; refine wpList_append_own_at _ rfl (.tmp 133) (.tmp 140) 29 rfl wr.heap.size 53 i1 _ 4 48 Tryz.underlying29 hi1 hy0 hy1 hy2 rfl (by decide) _ _ _ rfl ho5 _ 0 _ [] rfl rfl (fun j u hj => by simp at hj) (fun u hu => by cases hu) (by unfold maxLen; omega) (by omega) (by have := hf5.size; omega) ?_; intro v6 w6 ho6 hg6 _ _; have hf6 : Fr New wr w6 := hf5.grown hg6 (fun k hk e => by have := (own_block ho5 e).1; omega); obtain ⟨sb6, _, _, _⟩ := HB3.out w6 hf6; have d2 : w6.cell? ⟨sb, 2, none⟩ = some (.slice (some ⟨g2, 0, none⟩) l.length cv) := ((block_cells sb6).1 2).trans rfl; have d2f := (block_cells sb6).2 2; have hsb6 : sb < w6.heap.size := lt_of_block sb6; clear sb6; obtain ⟨a6, c6, rfl⟩ := own_slice ho6)
                      | fail)
                    go_ret
                    refine ⟨rfl, HE3.out w6 _ hf6 (HFIN.out w6 _ ?_)⟩
                    simpa [ktCells] using ho6
end Go.Proofs.YtbagcjlimdilpabGreat

