/- The document's Commit with up to 48 records. -/
import Derived.Test.YtbagcjlimdilpaaGreatHhRefZ
import Derived.Deep.AppendLies
import Derived.Deep.QuietTactic
import Derived.BigQuiet
namespace Go.Proofs.YtbagcjlimdilpaaGreat
open Go.RowKit

/-- a row beside it grows -/
theorem Going.beside {w : World} {hb gw cw L : Nat} {vn vs0 : Value} {gx cx : Nat} {nx : List Int} {vp : Value} {ps : List Nat} {vs : Value} {cur : List Int} {st : List St} {wr wx : World} (h : Going w hb gw cw L vn vs0 gx cx nx vp ps vs cur st wr)
    {B n : Nat} {v : Value} {ys : List Value} (ho : wr.ownsRow B 50 1 v n ys) (hx : gx < B) (hB : w.heap.size ≤ B) (hf : Fr (fun k => v.ownBlock = some k) wr wx) : Going w hb gw cw L vn vs0 gx cx nx vp ps vs cur st wx := by
  have hb' : ∀ g, v.ownBlock = some g → B ≤ g := fun g hg => (own_block ho hg).1
  have hty : ∀ g c t, t ≠ 50 → wr.heap[g]? = some (.cells c t (0, 0)) → ¬ v.ownBlock = some g := fun g c t ht hc hg => by
    obtain ⟨_, c2, hc2⟩ := own_block ho hg
    exact type_ne hc hc2 ht rfl
  refine ⟨⟨hf.heap h.g.blk (hty _ _ _ (by decide) h.g.blk), hf.owns h.g.ownw (fun g hg hg2 => ?_), hf.owns h.g.owns (fun g hg hg2 => ?_), h.g.lenw, h.g.n0⟩, hf.owns h.x (fun g hg hg2 => ?_), h.lenx, hf.owns h.p (fun g hg hg2 => ?_), h.fr.trans hf (fun j hj hg => ?_), h.v, h.b⟩
  · obtain rfl : gw = g := Option.some.inj hg
    have := hb' _ hg2
    have := h.b
    omega
  · obtain ⟨_, c, hc⟩ := own_block h.g.owns hg
    exact hty _ _ _ (by decide) hc hg2
  · obtain rfl : gx = g := Option.some.inj hg
    have := hb' _ hg2
    omega
  · obtain ⟨_, c, hc⟩ := own_block h.p hg
    exact hty _ _ _ (by decide) hc hg2
  · have := hb' _ hg
    omega

set_option maxHeartbeats 4000000 in
set_option maxRecDepth 100000 in
theorem commit_some (hb gw cw gn cn L : Nat) (vs : Value) (ws now : List Int) (st : List St) (w : World) (h : RHN hb gw cw gn cn L vs ws now st w) (hne : ∃ q, q < L ∧ wd now q ≠ wd ws q) (hbig : (diffS ws (nextS now) L).length ≤ 48) (hsl : st.length ≤ 1099510000000) :
    Calls Tryz.prog 84 #[.pointer (some ⟨hb, 0, none⟩)] w fun e w' => e = .returned (.int .i64 0) ∧ ∃ vs' gn' cn', w.heap.size ≤ gn' ∧ RHN hb gw cw gn' cn' L vs' (commitW ws now) (commitW ws now) (st ++ commitSt ws now) w' ∧ Fr (TurnedH hb gw vs) w w' ∧ (vs'.ownBlock = vs.ownBlock ∨ ∀ k, vs'.ownBlock = some k → w.heap.size ≤ k) := by
  have HGW : Hid (gw < w.heap.size) := by obtain ⟨_, c, hc⟩ := own_block h.g.ownw rfl; exact lt_of_block hc
  have hL1 : 114 ≤ L := by have := (nblk_some h.g.n0).1; have := (nblk_some h.g.n0).2.1; omega
  have hL2 : L ≤ 362 := by have := (nblk_some h.g.n0).1; have := (nblk_some h.g.n0).2.2; omega
  obtain ⟨i0, hi0, hz0, hz1, hz2⟩ := info_parts Tryz.info50
  obtain ⟨j0, hj0, hy0, hy1, hy2⟩ := info_parts Tryz.info3
  obtain ⟨hc0, hc1, hcw, hcn⟩ := h.cells
  have HCW : Hid (∀ q, q < L → w.cell? ⟨gw, q, none⟩ = some (.int .u64 (wd ws q)) ∧ w.cell? ⟨gn, q, none⟩ = some (.int .u64 (wd now q))) := fun q hq => ⟨hcw q hq, hcn q hq⟩
  have hbw : hb < w.heap.size := lt_of_block h.g.blk
  have HNE : Hid (∃ q, q < L ∧ wd now q ≠ wd ws q) := hne
  have HBG : Hid ((diffS ws (nextS now) L).length ≤ 48) := hbig
  have HRH : Hid (RHN hb gw cw gn cn L vs ws now st w) := h
  clear hcw hcn h hne hbig
  go_enter Tryz.func84, Tryz.ntmps84
  go_wp2
  go_loopg [4, 5] L (fun gh s t wr => ∃ (i j : Nat) (b : Bool), i ≤ L ∧ gh = L - i ∧ s = .bool b ∧ t = .int .i64 i ∧ wr = w.drewN j ∧ (b = true ↔ ∀ q, q < i → wd now q = wd ws q))
  case atStart => exact ⟨0, 0, true, by omega, rfl, rfl, rfl, rfl, ⟨fun _ q hq => by omega, fun _ => rfl⟩⟩
  case round =>
    obtain ⟨i, j, b, hi, rfl, rfl, rfl, rfl, hb⟩ := hrel
    have HBI : Hid (b = true ↔ ∀ q, q < i → wd now q = wd ws q) := hb
    clear hb
    by_cases hiL : i < L
    · have hd : decide ((i : Int) < (L : Int)) = true := by simpa using hiL
      obtain ⟨hca, hcb⟩ := HCW.out i hiL
      have hia : (0 : Int) ≤ (i : Int) := by omega
      have hib : (i : Int) < (L : Int) := by omega
      obtain ⟨x, hx⟩ : ∃ x, x = wd now i := ⟨_, rfl⟩
      obtain ⟨y, hy⟩ : ∃ y, y = wd ws i := ⟨_, rfl⟩
      have HXY : Hid (x = wd now i ∧ y = wd ws i) := ⟨hx, hy⟩
      rw [← hx] at hcb
      rw [← hy] at hca
      clear hx hy
      cases b with
      | false =>
        have HN : Hid (false = true ↔ ∀ q, q < i + 1 → wd now q = wd ws q) := ⟨fun h => (by cases h), fun h => HBI.out.2 (fun q hq => h q (by omega))⟩
        go_wp2
        go_quiet (fail)
        go_wp2
        go_roundg (L - (i + 1))
        case measure => omega
        case rel => exact ⟨i + 1, j + nq, false, by omega, rfl, rfl, by go_num, rfl, HN.out⟩
      | true =>
        rcases hxy : (x == y) with _ | _
        · have HN : Hid (false = true ↔ ∀ q, q < i + 1 → wd now q = wd ws q) := ⟨fun h => (by cases h), fun h => absurd (h i (by omega)) (by rw [← HXY.out.1, ← HXY.out.2]; simpa using hxy)⟩
          go_wp2
          go_quiet (fail)
          go_wp2
          go_roundg (L - (i + 1))
          case measure => omega
          case rel => exact ⟨i + 1, j + nq, false, by omega, rfl, rfl, by go_num, rfl, HN.out⟩
        · have HN : Hid (∀ q, q < i + 1 → wd now q = wd ws q) := fun q hq => by
            rcases Nat.lt_succ_iff_lt_or_eq.1 hq with h' | rfl
            · exact HBI.out.1 rfl q h'
            · rw [← HXY.out.1, ← HXY.out.2]; simpa using hxy
          go_wp2
          go_quiet (fail)
          go_wp2
          go_roundg (L - (i + 1))
          case measure => omega
          case rel => exact ⟨i + 1, j + nq, true, by omega, rfl, rfl, by go_num, rfl, ⟨fun _ => HN.out, fun _ => rfl⟩⟩
    · obtain rfl : i = L := by omega
      obtain rfl : b = false := by
        cases b with
        | false => rfl
        | true =>
          obtain ⟨q, hq, hne⟩ := HNE.out
          exact absurd (HBI.out.1 rfl q hq) hne
      have hf1 : Fr New w (w.drewN j) := (Fr.refl _ _).drewN _
      have HR1 : Hid (RHN hb gw cw gn cn i vs ws now st (w.drewN j)) := HRH.out.fr hf1
      generalize w.drewN j = w1 at HR1 hf1
      have HF1 : Hid (Fr New w w1) := hf1
      obtain ⟨ha0, ha1, haw, han⟩ := HR1.out.cells
      have HAW : Hid (∀ q, q < i → w1.cell? ⟨gw, q, none⟩ = some (.int .u64 (wd ws q))) := haw
      have hbw1 : hb < w1.heap.size := lt_of_block HR1.out.g.blk
      have HLN : Hid (now.length = i) := HR1.out.len
      have HRW : Hid (RowU w1 (some ⟨gn, 0, none⟩) now) := rowU_own HR1.out.ownn
      have HCM : Hid (∀ (w2 : World) (g c : Nat), w2.ownsRow w1.heap.size 50 1 (.slice (some ⟨g, 0, none⟩) (0 + i) c) (0 + i) ([] ++ now.map (Value.int .u64)) → (w1.alloc (.cells #[] 50)).grownBy w2 (Value.slice (some ⟨w1.heap.size, 0, none⟩) 0 0).ownBlock → Mem2 w1 g c i now w2) := fun w2 g c h1 h2 => by
        rw [← HLN.out] at h1 ⊢
        exact copy_mem h1 h2
      clear hc0 hc1 hbw haw han hf1 HCW HRH HBI HNE
      go_upto_region 11 with (first
        | (at_builtin; refine wpList_append_lies _ rfl (.tmp 40) (.tmp 44) 43 rfl w1.heap.size 50 i0 (.int .u64 0) 1 8 Tryz.underlying43 hi0 hz0 hz1 hz2 rfl (by decide) _ _ _ rfl (emptyU w1) ⟨gn, 0, none⟩ i cn (now.map (Value.int .u64)) rfl (by simp [HLN.out]) (copy_news HRW.out _) (ints_oneU now) (by omega) (by unfold maxLen; omega) (by omega) (by simp) _ rfl ?_; intro gx cx w2 hown2 hg2 _ _; have M2 : Mem2 w1 gx cx i now w2 := HCM.out w2 gx cx hown2 hg2; clear hown2 hg2; have hx2 := M2.cell 2 (by omega); have hx2' := M2.free 2)
        | fail)
      have HSE : Hid (Calls Tryz.prog 131 #[.slice (some ⟨gx, 0, none⟩) i cx] (w2.setCell ⟨gx, 2, none⟩ (.int .u64 (IntKind.u64.wrap (wd now 2 + 1)))) fun e w' => e = .returned (.tuple #[]) ∧ Mem2 w1 gx cx i (nextS now) w') := (seal_mem (M2.put 2 _) (by omega) (by omega)).mono (by
        rintro e w' ⟨rfl, rfl⟩
        exact ⟨rfl, count_mem M2⟩)
      clear M2 hx2 hx2'
      go_wp2_with (go_at_call 131; refine HSE.out.mono ?_; rintro e w3 ⟨rfl, M3⟩)
      obtain ⟨nx, hnx⟩ : ∃ nx, nx = nextS now := ⟨_, rfl⟩
      rw [← hnx] at M3 HBG
      have HNX : Hid (nx = nextS now) := hnx
      clear HSE HCM HRW HLN hnx
      go_loopg [3, 7] i (fun gh v t wr => ∃ k : Nat, k ≤ i ∧ gh = i - k ∧ t = .int .i64 k ∧ OwnN w1.heap.size wr v (diffS ws nx k) ∧ Mem2 w1 gx cx i nx wr)
      case atStart => exact ⟨0, by omega, rfl, rfl, World.ownsRow_nil _ _ _ _, M3⟩
      case round =>
        clear M3
        obtain ⟨k, hki, rfl, rfl, hown, M⟩ := hrel
        obtain ⟨va, vc, rfl⟩ := own_slice hown
        have hdl := diffS_le ws nx k
        by_cases hkL : k < i
        · have hd : decide ((k : Int) < (i : Int)) = true := by simpa using hkL
          have hr0 : wr.cell? ⟨hb, 0, none⟩ = some (.slice (some ⟨gw, 0, none⟩) i cw) := M.fr.cell ha0 id
          have hbr : hb < wr.heap.size := Nat.lt_of_lt_of_le hbw1 M.fr.size
          have hca : wr.cell? ⟨gw, k, none⟩ = some (.int .u64 (wd ws k)) := M.fr.cell (HAW.out k hkL) id
          have hcb := M.cell k hkL
          have hia : (0 : Int) ≤ (k : Int) := by omega
          have hib : (k : Int) < (i : Int) := by omega
          obtain ⟨x, hx⟩ : ∃ x, x = wd nx k := ⟨_, rfl⟩
          obtain ⟨y, hy⟩ : ∃ y, y = wd ws k := ⟨_, rfl⟩
          have HXY : Hid (x = wd nx k ∧ y = wd ws k) := ⟨hx, hy⟩
          rw [← hx] at hcb
          rw [← hy] at hca
          clear hx hy
          have HOW : Hid (∀ j, OwnN w1.heap.size (wr.drewN j) (.slice va (diffS ws nx k).length vc) (diffS ws nx k) ∧ Mem2 w1 gx cx i nx (wr.drewN j)) := fun j => ⟨((Fr.refl New wr).drewN j).owns hown (fun _ _ h => h), M.grow ((Fr.refl New wr).drewN j)⟩
          have HSK : Hid (diffAt ws nx k = false → diffS ws nx (k + 1) = diffS ws nx k) := fun h' => by rw [diffS_succ, h']; simp
          have HTK : Hid (diffAt ws nx k = true → diffS ws nx (k + 1) = diffS ws nx k ++ [k]) := fun h' => by rw [diffS_succ, h']; simp
          have HDA : Hid (diffAt ws nx k = ((x != y) && (decide (k < 8) || decide (106 ≤ k)))) := by
            show diffAt ws nx k = _
            unfold diffAt
            rw [HXY.out.1, HXY.out.2]
            congr 1
            by_cases h' : wd nx k = wd ws k <;> simp [h']
          have HLW : Hid (w1.heap.size ≤ wr.heap.size) := M.fr.size
          clear hown M
          rcases hxy : (x != y) with _ | _
          · have HD : Hid (diffS ws nx (k + 1) = diffS ws nx k) := HSK.out (by rw [HDA.out, hxy]; rfl)
            go_wp2
            go_quiet (fail)
            go_wp2
            go_roundg (i - (k + 1))
            case measure => omega
            case rel => exact ⟨k + 1, by omega, rfl, by go_num, by rw [HD.out]; exact (HOW.out nq).1, (HOW.out nq).2⟩
          · by_cases hk8 : k < 8
            · have hd8 : decide ((k : Int) < 8) = true := by simp; omega
              have HD : Hid (diffS ws nx (k + 1) = diffS ws nx k ++ [k]) := HTK.out (by rw [HDA.out, hxy]; simp [hk8])
              go_wp2
              go_quiet (fail)
              have hq := HOW.out nq
              have HLN : Hid (w1.heap.size ≤ (wr.drewN nq).heap.size) := hq.2.fr.size
              have HQ : Hid (OwnN w1.heap.size (wr.drewN nq) (.slice va (diffS ws nx k).length vc) (diffS ws nx k) ∧ Mem2 w1 gx cx i nx (wr.drewN nq)) := hq
              clear hq
              generalize wr.drewN nq = w5 at HQ HLN
              go_wp2_with (first
                | (at_builtin; refine wpList_append_own _ rfl (.tmp 79) (.tmp 81) 25 rfl w1.heap.size 3 j0 (.int .i64 0) 1 8 Tryz.underlying25 hj0 hy0 hy1 hy2 rfl (by decide) _ _ _ rfl (HQ.out.1.alloc _) ⟨w5.heap.size, 0, none⟩ 1 1 [.int .i64 (k : Int)] rfl rfl (World.news_of_block (new_at _ _ _ rfl)) (by intro u hu; simp at hu; subst hu; rfl) (by unfold maxLen; omega) (by omega) (by have := HLN.out; simp; omega) ?_; intro v2 w6 ho6 hg6 _)
                | fail)
              have M6 := mem_grown HQ.out.2 HQ.out.1 hg6
              go_roundg (i - (k + 1))
              case measure => omega
              case rel => exact ⟨k + 1, by omega, rfl, by go_num, by rw [HD.out]; simpa [OwnN] using ho6, M6⟩
            · have hd8 : decide ((k : Int) < 8) = false := by simp; omega
              by_cases hk106 : 106 ≤ k
              · have hd106 : decide ((106 : Int) ≤ (k : Int)) = true := by simp; omega
                have HD : Hid (diffS ws nx (k + 1) = diffS ws nx k ++ [k]) := HTK.out (by rw [HDA.out, hxy]; simp [hk106])
                go_wp2
                go_quiet (fail)
                have hq := HOW.out nq
                have HLN : Hid (w1.heap.size ≤ (wr.drewN nq).heap.size) := hq.2.fr.size
                have HQ : Hid (OwnN w1.heap.size (wr.drewN nq) (.slice va (diffS ws nx k).length vc) (diffS ws nx k) ∧ Mem2 w1 gx cx i nx (wr.drewN nq)) := hq
                clear hq
                generalize wr.drewN nq = w5 at HQ HLN
                go_wp2_with (first
                  | (at_builtin; refine wpList_append_own _ rfl (.tmp 79) (.tmp 81) 25 rfl w1.heap.size 3 j0 (.int .i64 0) 1 8 Tryz.underlying25 hj0 hy0 hy1 hy2 rfl (by decide) _ _ _ rfl (HQ.out.1.alloc _) ⟨w5.heap.size, 0, none⟩ 1 1 [.int .i64 (k : Int)] rfl rfl (World.news_of_block (new_at _ _ _ rfl)) (by intro u hu; simp at hu; subst hu; rfl) (by unfold maxLen; omega) (by omega) (by have := HLN.out; simp; omega) ?_; intro v2 w6 ho6 hg6 _)
                  | fail)
                have M6 := mem_grown HQ.out.2 HQ.out.1 hg6
                go_roundg (i - (k + 1))
                case measure => omega
                case rel => exact ⟨k + 1, by omega, rfl, by go_num, by rw [HD.out]; simpa [OwnN] using ho6, M6⟩
              · have hd106 : decide ((106 : Int) ≤ (k : Int)) = false := by simp; omega
                have HD : Hid (diffS ws nx (k + 1) = diffS ws nx k) := HSK.out (by rw [HDA.out]; simp [hk8, hk106])
                go_wp2
                go_quiet (fail)
                go_wp2
                go_roundg (i - (k + 1))
                case measure => omega
                case rel => exact ⟨k + 1, by omega, rfl, by go_num, by rw [HD.out]; exact (HOW.out nq).1, (HOW.out nq).2⟩
        · obtain rfl : k = i := by omega
          have G0 := HR1.out.going HF1.out HGW.out M hown
          obtain ⟨ps, hps⟩ : ∃ ps, ps = diffS ws nx k := ⟨_, rfl⟩
          have HPS : Hid (ps = diffS ws nx k) := hps
          have HPS2 : Hid (nextS now = nx ∧ diffS ws nx nx.length = ps) := ⟨HNX.out.symm, by rw [hps, G0.lenx]⟩
          rw [← hps] at G0 HBG
          rw [← hps]
          obtain ⟨D, hD⟩ : ∃ D, D = ps.length := ⟨_, rfl⟩
          have HD : Hid (D = ps.length) := hD
          have hD48 : D ≤ 48 := by rw [hD]; exact HBG.out
          rw [← hD] at G0
          rw [← hD]
          have HPB : Hid (∀ r, r < D → ps.getD r 0 < k) := fun r hr => by
            have hr' : r < ps.length := by omega
            have hm : ps[r] ∈ diffS ws nx k := by rw [← hps]; exact List.getElem_mem _
            have := (diffS_mem.1 hm).1
            simpa [List.getD, hr'] using this
          have hdD : decide ((48 : Int) < (D : Int)) = false := by simp; omega
          have hvD : IntKind.u64.wrap (D : Int) = (D : Int) := by rw [IntKind.wrap_u64]; omega
          have HG0 : Hid (Going w1 hb gw cw k (.slice (some ⟨gn, 0, none⟩) k cn) vs gx cx nx (.slice va D vc) ps vs ws st wr) := G0
          clear hown hdl hD M hps G0
          obtain ⟨wy, rfl⟩ : ∃ wy, wy = wr := ⟨wr, rfl⟩
          go_wp2
          go_loopg [9, 10] D (fun gh v t wx => ∃ (r : Nat) (vs' : Value), r ≤ D ∧ gh = D - r ∧ t = .int .i64 r ∧ Going w1 hb gw cw k (.slice (some ⟨gn, 0, none⟩) k cn) vs gx cx nx (.slice va D vc) ps vs' (recW ws nx ps r) (st ++ recSt nx ps r) wx ∧ Own wy.heap.size wx v (sumW nx ps r) ∧ wy.heap.size ≤ wx.heap.size)
          case atStart =>
            refine ⟨0, vs, by omega, rfl, rfl, ?_, ?_, by simp⟩
            · rw [show st ++ recSt nx ps 0 = st by simp [recSt]]
              exact HG0.out.grow ((Fr.refl _ _).alloc _)
            · rw [show sumW nx ps 0 = [(D : Int)] by rw [HD.out]; rfl]
              exact World.ownsRow_lit wy #[.int .u64 (D : Int)] 1 (Nat.le_refl _) (by decide) rfl
          case round =>
            obtain ⟨r, vs', hrD, rfl, rfl, G, hown, hsz⟩ := hrel
            by_cases hr : r < D
            · have hd : decide ((r : Int) < (D : Int)) = true := by simpa using hr
              have hrl : r < ps.length := by rw [← HD.out]; exact hr
              obtain ⟨gp, rfl⟩ := G.pcell r hrl
              obtain ⟨vwa, vwc, rfl⟩ := own_slice hown
              have hpk := HPB.out r hr
              have HGC : Hid (∀ vs' cur st' w', Going w1 hb gw cw k (.slice (some ⟨gn, 0, none⟩) k cn) vs gx cx nx (.slice (some ⟨gp, 0, none⟩) D vc) ps vs' cur st' w' → w'.cell? ⟨gp, r, none⟩ = some (.int .i64 ((ps.getD r 0 : Nat) : Int)) ∧ w'.cell? ⟨gx, ps.getD r 0, none⟩ = some (.int .u64 (wd nx (ps.getD r 0)))) := fun vs' cur st' w' h => ⟨h.pcellAt r hrl, h.xcell _ hpk⟩
              have hslw : (sumW nx ps r).length ≤ 97 := by rw [sumW_len]; omega
              have hwsz : w1.heap.size ≤ wy.heap.size := HG0.out.fr.size
              have HP1 : Hid (Calls Tryz.prog 132 #[.pointer (some ⟨hb, 0, none⟩), .int .i64 (10 + 2 * (r : Int)), .int .u64 ((ps.getD r 0 : Nat) : Int)] wr fun e w' => e = .returned (.tuple #[]) ∧ ∃ vs4, Going w1 hb gw cw k (.slice (some ⟨gn, 0, none⟩) k cn) vs gx cx nx (.slice (some ⟨gp, 0, none⟩) D vc) ps vs4 ((recW ws nx ps r).set (10 + 2 * r) ((ps.getD r 0 : Nat) : Int)) (st ++ recSt nx ps r ++ [⟨1, ((10 + 2 * r : Nat) : Int), ((ps.getD r 0 : Nat) : Int)⟩]) w' ∧ Own wy.heap.size w' (.slice vwa (sumW nx ps r).length vwc) (sumW nx ps r) ∧ wy.heap.size ≤ w'.heap.size) := by
                have := G.put (by simp [recSt_len]; omega) (10 + 2 * r) ((ps.getD r 0 : Nat) : Int) (by omega)
                rw [show ((10 + 2 * r : Nat) : Int) = 10 + 2 * (r : Int) by push_cast; rfl] at this
                refine this.mono ?_
                rintro e w' ⟨rfl, vs4, h4, hf4⟩
                exact ⟨rfl, vs4, h4, hf4.owns hown (G.kept hown (by decide) (by decide) hwsz), Nat.le_trans hsz hf4.size⟩
              have HP2 : Hid (∀ vs4 w4, Going w1 hb gw cw k (.slice (some ⟨gn, 0, none⟩) k cn) vs gx cx nx (.slice (some ⟨gp, 0, none⟩) D vc) ps vs4 ((recW ws nx ps r).set (10 + 2 * r) ((ps.getD r 0 : Nat) : Int)) (st ++ recSt nx ps r ++ [⟨1, ((10 + 2 * r : Nat) : Int), ((ps.getD r 0 : Nat) : Int)⟩]) w4 → Own wy.heap.size w4 (.slice vwa (sumW nx ps r).length vwc) (sumW nx ps r) → wy.heap.size ≤ w4.heap.size → Calls Tryz.prog 132 #[.pointer (some ⟨hb, 0, none⟩), .int .i64 (11 + 2 * (r : Int)), .int .u64 (wd nx (ps.getD r 0))] w4 fun e w' => e = .returned (.tuple #[]) ∧ ∃ vs5, Going w1 hb gw cw k (.slice (some ⟨gn, 0, none⟩) k cn) vs gx cx nx (.slice (some ⟨gp, 0, none⟩) D vc) ps vs5 (recW ws nx ps (r + 1)) (st ++ recSt nx ps (r + 1)) w' ∧ Own wy.heap.size w' (.slice vwa (sumW nx ps r).length vwc) (sumW nx ps r) ∧ wy.heap.size ≤ w'.heap.size) := fun vs4 w4 h4 ho4 hs4 => by
                have := h4.put (by simp [recSt_len]; omega) (11 + 2 * r) (wd nx (ps.getD r 0)) (by omega)
                rw [show ((11 + 2 * r : Nat) : Int) = 11 + 2 * (r : Int) by push_cast; rfl] at this
                refine this.mono ?_
                rintro e w' ⟨rfl, vs5, h5, hf5⟩
                refine ⟨rfl, vs5, ?_, hf5.owns ho4 (h4.kept ho4 (by decide) (by decide) hwsz), Nat.le_trans hs4 hf5.size⟩
                rw [recSt_succ, ← List.append_assoc, ← List.append_assoc, show ((11 + 2 * r : Nat) : Int) = 11 + 2 * (r : Int) by push_cast; rfl]
                exact h5
              obtain ⟨hcp, _⟩ := HGC.out _ _ _ _ G
              have HSW : Hid (sumW nx ps (r + 1) = sumW nx ps r ++ [((ps.getD r 0 : Nat) : Int), wd nx (ps.getD r 0)]) := sumW_succ nx ps r
              obtain ⟨p, hpp⟩ : ∃ p, p = ps.getD r 0 := ⟨_, rfl⟩
              rw [← hpp] at HGC HP1 HP2 hpk hcp HSW
              obtain ⟨x, hxx⟩ : ∃ x, x = wd nx p := ⟨_, rfl⟩
              rw [← hxx] at HGC HP2 HSW
              obtain ⟨nl, hnl⟩ : ∃ nl, nl = (sumW nx ps r).length := ⟨_, rfl⟩
              rw [← hnl] at HP1 HP2 hslw
              rw [← hnl]
              have HNL : Hid (nl = (sumW nx ps r).length) := hnl
              clear hnl
              have hv1 : IntKind.i64.wrap (2 * (r : Int)) = 2 * (r : Int) := by rw [IntKind.wrap_i64]; omega
              have hv2 : IntKind.i64.wrap (10 + 2 * (r : Int)) = 10 + 2 * (r : Int) := by rw [IntKind.wrap_i64]; omega
              have hv3 : IntKind.i64.wrap (11 + 2 * (r : Int)) = 11 + 2 * (r : Int) := by rw [IntKind.wrap_i64]; omega
              have hvp : IntKind.u64.wrap (p : Int) = (p : Int) := by rw [IntKind.wrap_u64]; omega
              have hp0 : (0 : Int) ≤ (p : Int) := by omega
              have hp1 : (p : Int) < (k : Int) := by omega
              have hr0 : (0 : Int) ≤ (r : Int) := by omega
              have hr1 : (r : Int) < (D : Int) := by omega
              clear G hown hsz hrl hpp hxx
              have HOV : Hid (∀ vs5 cur st' w5 w6, Going w1 hb gw cw k (.slice (some ⟨gn, 0, none⟩) k cn) vs gx cx nx (.slice (some ⟨gp, 0, none⟩) D vc) ps vs5 cur st' w5 → Own wy.heap.size w5 (.slice vwa nl vwc) (sumW nx ps r) → wy.heap.size ≤ w5.heap.size → Fr New w5 w6 → w6.ownsRow wy.heap.size 50 1 (.slice vwa nl vwc) nl ((sumW nx ps r).map (Value.int .u64)) ∧ Going w1 hb gw cw k (.slice (some ⟨gn, 0, none⟩) k cn) vs gx cx nx (.slice (some ⟨gp, 0, none⟩) D vc) ps vs5 cur st' w6) := fun vs5 cur st' w5 w6 h5 o5 s5 hf => by
                have := hf.owns o5 (fun _ _ h => h)
                exact ⟨by rw [HNL.out] at this ⊢; exact this, h5.grow hf⟩
              have HGX : Hid (gx < wy.heap.size) := by
                obtain ⟨_, c, hc⟩ := own_block HG0.out.x rfl
                exact lt_of_block hc
              have HNE2 : Hid (∀ vs5 cur st' w5 w6 w7 v7, Going w1 hb gw cw k (.slice (some ⟨gn, 0, none⟩) k cn) vs gx cx nx (.slice (some ⟨gp, 0, none⟩) D vc) ps vs5 cur st' w5 → Own wy.heap.size w5 (.slice vwa nl vwc) (sumW nx ps r) → wy.heap.size ≤ w5.heap.size → Fr New w5 w6 → w6.grownBy w7 (Value.slice vwa nl vwc).ownBlock → w7.ownsRow wy.heap.size 50 1 v7 (nl + 2) ((sumW nx ps r).map (Value.int .u64) ++ [.int .u64 ((p : Nat) : Int), .int .u64 x]) → Going w1 hb gw cw k (.slice (some ⟨gn, 0, none⟩) k cn) vs gx cx nx (.slice (some ⟨gp, 0, none⟩) D vc) ps vs5 cur st' w7 ∧ Own wy.heap.size w7 v7 (sumW nx ps (r + 1)) ∧ wy.heap.size ≤ w7.heap.size) := fun vs5 cur st' w5 w6 w7 v7 h5 o5 s5 hf g7 o7 => by
                obtain ⟨o6, h6⟩ := HOV.out vs5 cur st' w5 w6 h5 o5 s5 hf
                have hg : Fr (fun k => (Value.slice vwa nl vwc).ownBlock = some k) w6 w7 := (Fr.refl _ _).grown g7 (fun k _ hk => hk)
                refine ⟨h6.beside o6 HGX.out hwsz hg, ?_, Nat.le_trans s5 (Nat.le_trans hf.size hg.size)⟩
                rw [HSW.out]
                unfold Own
                rw [List.map_append, List.length_append, ← HNL.out]
                exact o7
              go_upto_region 25 with (first
                | (go_at_call 132; refine HP1.out.mono ?_; rintro e w4 ⟨rfl, vs4, G4, ho4, hs4⟩; obtain ⟨hc4, hx4⟩ := HGC.out _ _ _ _ G4)
                | fail)
              clear HP1
              go_upto_region 26 with (first
                | (go_at_call 132; refine (HP2.out vs4 w4 G4 ho4 hs4).mono ?_; rintro e w5 ⟨rfl, vs5, G5, ho5, hs5⟩; obtain ⟨hc5, hx5⟩ := HGC.out _ _ _ _ G5)
                | fail)
              have hgp5 : gp < w5.heap.size := World.block_lt_of_cell? w5 _ hc5
              have hgx5 : gx < w5.heap.size := World.block_lt_of_cell? w5 _ hx5
              clear HP2 G4 ho4 hs4 hc4 hx4
              go_region_law (first
                | (refine step_append_lies _ (by rfl) (.tmp 117) (.tmp 130) 43 (by rfl) wy.heap.size 50 i0 (.int .u64 0) 1 8 Tryz.underlying43 hi0 hz0 hz1 hz2 rfl (by decide) (.slice vwa nl vwc) nl _ (by rfl) (HOV.out vs5 _ _ w5 _ G5 ho5 hs5 (by first | exact (Fr.refl New w5).alloc _ | exact (Fr.refl New w5).drew.alloc _ | exact ((Fr.refl New w5).alloc _).drew)).1 ⟨w5.heap.size, 0, none⟩ 2 2 [.int .u64 (p : Int), .int .u64 x] (by rfl) rfl (World.news_of_block (by first | exact Go.Deep.blk_alloc_new w5 _ | exact Go.Deep.blk_alloc_new w5.drew _)) (by intro u hu; simp at hu; rcases hu with rfl | rfl <;> rfl) (by decide) (by unfold maxLen; omega) (by omega) (by simp; omega) _ rfl ?_; intro g7 c7 w7 ho7 hg7 _ _; obtain ⟨G7, O7, S7⟩ := HNE2.out vs5 _ _ w5 _ w7 _ G5 ho5 hs5 (by first | exact (Fr.refl New w5).alloc _ | exact (Fr.refl New w5).drew.alloc _ | exact ((Fr.refl New w5).alloc _).drew) hg7 ho7)
                | fail)
              all_goals
                clear hg7 ho7 G5 ho5 hs5
                go_wp2_with fail
                go_roundg (D - (r + 1))
                case measure => omega
                case rel => exact ⟨r + 1, vs5, by omega, rfl, by go_num, (by first | exact G7 | exact G7.grow (Fr.refl New _).drew), (by first | exact O7 | exact (Fr.refl New _).drew.owns O7 (fun _ _ h => h)), S7⟩
            · obtain rfl : D = r := by omega
              have hdd : decide ((D : Int) < (D : Int)) = false := by simp
              obtain ⟨vwa, vwc, rfl⟩ := own_slice hown
              obtain ⟨gv, rfl⟩ : ∃ gv, vwa = some ⟨gv, 0, none⟩ := by
                rcases hown.2 with ⟨_, hn⟩ | ⟨g', cap', cu', hv, _⟩
                · rw [sumW_len] at hn; omega
                · cases hv; exact ⟨g', rfl⟩
              have HSU : Hid (Calls Tryz.prog 121 #[.slice (some ⟨gv, 0, none⟩) (sumW nx ps D).length vwc] wr fun e w' => e = .returned (.int .u64 (recSum nx ps)) ∧ w' = wr) := by
                have := rsum_any (some ⟨gv, 0, none⟩) _ vwc (sumW nx ps D) wr rfl (by rw [sumW_len]; unfold maxLen; omega) (rowU_own hown)
                rw [show sumL (sumW nx ps D) = recSum nx ps by rw [HD.out]; rfl] at this
                exact this
              obtain ⟨nl, hnl⟩ : ∃ nl, nl = (sumW nx ps D).length := ⟨_, rfl⟩
              rw [← hnl] at HSU
              rw [← hnl]
              clear hnl
              have HA1 : Hid (∀ vs4 w4, Going w1 hb gw cw k (.slice (some ⟨gn, 0, none⟩) k cn) vs gx cx nx (.slice va D vc) ps vs4 (recW ws nx ps D) (st ++ recSt nx ps D) w4 → Calls Tryz.prog 132 #[.pointer (some ⟨hb, 0, none⟩), .int .i64 9, .int .u64 (recSum nx ps)] w4 fun e w' => e = .returned (.tuple #[]) ∧ ∃ vs5, Going w1 hb gw cw k (.slice (some ⟨gn, 0, none⟩) k cn) vs gx cx nx (.slice va D vc) ps vs5 ((recW ws nx ps D).set 9 (recSum nx ps)) (st ++ recSt nx ps D ++ [(⟨1, ((9 : Nat) : Int), recSum nx ps⟩ : St)]) w') := fun vs4 w4 h4 => by
                refine (h4.put (by simp [recSt_len]; omega) 9 (recSum nx ps) (by omega)).mono ?_
                rintro e w' ⟨rfl, vs5, h5, _⟩
                exact ⟨rfl, vs5, h5⟩
              have HA2 : Hid (∀ vs4 w4, Going w1 hb gw cw k (.slice (some ⟨gn, 0, none⟩) k cn) vs gx cx nx (.slice va D vc) ps vs4 ((recW ws nx ps D).set 9 (recSum nx ps)) (st ++ recSt nx ps D ++ [(⟨1, ((9 : Nat) : Int), recSum nx ps⟩ : St)]) w4 → Calls Tryz.prog 133 #[.pointer (some ⟨hb, 0, none⟩)] w4 fun e w' => e = .returned (.tuple #[]) ∧ ∃ vs5, Going w1 hb gw cw k (.slice (some ⟨gn, 0, none⟩) k cn) vs gx cx nx (.slice va D vc) ps vs5 ((recW ws nx ps D).set 9 (recSum nx ps)) (st ++ recSt nx ps D ++ [(⟨1, ((9 : Nat) : Int), recSum nx ps⟩ : St)] ++ [(⟨2, 0, 0⟩ : St)]) w') := fun vs4 w4 h4 => by
                refine (h4.flush (by simp [recSt_len]; omega)).mono ?_
                rintro e w' ⟨rfl, vs5, h5, _⟩
                exact ⟨rfl, vs5, h5⟩
              have HA3 : Hid (∀ vs4 w4, Going w1 hb gw cw k (.slice (some ⟨gn, 0, none⟩) k cn) vs gx cx nx (.slice va D vc) ps vs4 ((recW ws nx ps D).set 9 (recSum nx ps)) (st ++ recSt nx ps D ++ [(⟨1, ((9 : Nat) : Int), recSum nx ps⟩ : St)] ++ [(⟨2, 0, 0⟩ : St)]) w4 → Calls Tryz.prog 132 #[.pointer (some ⟨hb, 0, none⟩), .int .i64 8, .int .u64 ((D : Int))] w4 fun e w' => e = .returned (.tuple #[]) ∧ ∃ vs5, Going w1 hb gw cw k (.slice (some ⟨gn, 0, none⟩) k cn) vs gx cx nx (.slice va D vc) ps vs5 (((recW ws nx ps D).set 9 (recSum nx ps)).set 8 (D : Int)) (st ++ recSt nx ps D ++ [(⟨1, ((9 : Nat) : Int), recSum nx ps⟩ : St)] ++ [(⟨2, 0, 0⟩ : St)] ++ [(⟨1, ((8 : Nat) : Int), (D : Int)⟩ : St)]) w') := fun vs4 w4 h4 => by
                refine (h4.put (by simp [recSt_len]; omega) 8 ((D : Int)) (by omega)).mono ?_
                rintro e w' ⟨rfl, vs5, h5, _⟩
                exact ⟨rfl, vs5, h5⟩
              have HA4 : Hid (∀ vs4 w4, Going w1 hb gw cw k (.slice (some ⟨gn, 0, none⟩) k cn) vs gx cx nx (.slice va D vc) ps vs4 (((recW ws nx ps D).set 9 (recSum nx ps)).set 8 (D : Int)) (st ++ recSt nx ps D ++ [(⟨1, ((9 : Nat) : Int), recSum nx ps⟩ : St)] ++ [(⟨2, 0, 0⟩ : St)] ++ [(⟨1, ((8 : Nat) : Int), (D : Int)⟩ : St)]) w4 → Calls Tryz.prog 133 #[.pointer (some ⟨hb, 0, none⟩)] w4 fun e w' => e = .returned (.tuple #[]) ∧ ∃ vs5, Going w1 hb gw cw k (.slice (some ⟨gn, 0, none⟩) k cn) vs gx cx nx (.slice va D vc) ps vs5 (((recW ws nx ps D).set 9 (recSum nx ps)).set 8 (D : Int)) (st ++ recSt nx ps D ++ [(⟨1, ((9 : Nat) : Int), recSum nx ps⟩ : St)] ++ [(⟨2, 0, 0⟩ : St)] ++ [(⟨1, ((8 : Nat) : Int), (D : Int)⟩ : St)] ++ [(⟨2, 0, 0⟩ : St)]) w') := fun vs4 w4 h4 => by
                refine (h4.flush (by simp [recSt_len]; omega)).mono ?_
                rintro e w' ⟨rfl, vs5, h5, _⟩
                exact ⟨rfl, vs5, h5⟩
              have HS4 : Hid ((st ++ recSt nx ps D ++ [(⟨1, ((9 : Nat) : Int), recSum nx ps⟩ : St)] ++ [(⟨2, 0, 0⟩ : St)] ++ [(⟨1, ((8 : Nat) : Int), (D : Int)⟩ : St)] ++ [(⟨2, 0, 0⟩ : St)]).length ≤ st.length + 101) := by show _ ≤ _; simp [recSt_len]; omega
              have HG4 : Hid (Going w1 hb gw cw k (.slice (some ⟨gn, 0, none⟩) k cn) vs gx cx nx (.slice va D vc) ps vs' (recW ws nx ps D) (st ++ recSt nx ps D) wr) := G
              obtain ⟨S, hS⟩ : ∃ S, S = recSum nx ps := ⟨_, rfl⟩
              obtain ⟨c2, hc2⟩ : ∃ c, c = ((recW ws nx ps D).set 9 (recSum nx ps)).set 8 (D : Int) := ⟨_, rfl⟩
              obtain ⟨s4, hs4⟩ : ∃ c, c = st ++ recSt nx ps D ++ [(⟨1, ((9 : Nat) : Int), recSum nx ps⟩ : St)] ++ [(⟨2, 0, 0⟩ : St)] ++ [(⟨1, ((8 : Nat) : Int), (D : Int)⟩ : St)] ++ [(⟨2, 0, 0⟩ : St)] := ⟨_, rfl⟩
              have HC2 : Hid (c2 = ((recW ws nx ps D).set 9 (recSum nx ps)).set 8 (D : Int) ∧ s4 = st ++ recSt nx ps D ++ [(⟨1, ((9 : Nat) : Int), recSum nx ps⟩ : St)] ++ [(⟨2, 0, 0⟩ : St)] ++ [(⟨1, ((8 : Nat) : Int), (D : Int)⟩ : St)] ++ [(⟨2, 0, 0⟩ : St)]) := ⟨hc2, hs4⟩
              rw [← hc2, ← hs4] at HA4
              rw [← hc2] at HA3
              rw [← hs4] at HS4
              rw [← hS] at HSU
              clear hc2 hs4 hown hsz G
              have HB1 : Hid (∀ w4, w4 = wr → Calls Tryz.prog 132 #[.pointer (some ⟨hb, 0, none⟩), .int .i64 9, .int .u64 S] w4 fun e w' => e = .returned (.tuple #[]) ∧ ∃ vs5, Going w1 hb gw cw k (.slice (some ⟨gn, 0, none⟩) k cn) vs gx cx nx (.slice va D vc) ps vs5 ((recW ws nx ps D).set 9 (recSum nx ps)) (st ++ recSt nx ps D ++ [(⟨1, ((9 : Nat) : Int), recSum nx ps⟩ : St)]) w') := fun w4 e4 => by
                rw [e4, hS]
                exact HA1.out vs' wr HG4.out
              clear HA1 hS
              obtain ⟨x1, hx1⟩ : ∃ c, c = (recW ws nx ps D).set 9 (recSum nx ps) := ⟨_, rfl⟩
              rw [← hx1] at HB1 HA2 HA3
              clear hx1
              obtain ⟨y3, hy3'⟩ : ∃ c, c = st ++ recSt nx ps D ++ [(⟨1, ((9 : Nat) : Int), recSum nx ps⟩ : St)] ++ [(⟨2, 0, 0⟩ : St)] ++ [(⟨1, ((8 : Nat) : Int), (D : Int)⟩ : St)] := ⟨_, rfl⟩
              rw [← hy3'] at HA3 HA4
              clear hy3'
              obtain ⟨y2, hy2'⟩ : ∃ c, c = st ++ recSt nx ps D ++ [(⟨1, ((9 : Nat) : Int), recSum nx ps⟩ : St)] ++ [(⟨2, 0, 0⟩ : St)] := ⟨_, rfl⟩
              rw [← hy2'] at HA2 HA3
              clear hy2'
              obtain ⟨y1, hy1'⟩ : ∃ c, c = st ++ recSt nx ps D ++ [(⟨1, ((9 : Nat) : Int), recSum nx ps⟩ : St)] := ⟨_, rfl⟩
              rw [← hy1'] at HB1 HA2
              clear hy1'
              go_wp2_with (first
                | (go_at_call 121; refine calls_same HSU.out ?_)
                | (go_at_call_of 132 (Value.int .i64 9); refine (HB1.out wr rfl).mono ?_; rintro e w4 ⟨rfl, vs4, G4⟩)
                | (go_at_call 133; refine (HA4.out vs6 w6 G6).mono ?_; rintro e w7 ⟨rfl, vs7, G7⟩)
                | (go_at_call 133; refine (HA2.out vs4 w4 G4).mono ?_; rintro e w5 ⟨rfl, vs5, G5⟩)
                | (go_at_call_of 132 (Value.int .i64 8); refine (HA3.out vs5 w5 G5).mono ?_; rintro e w6 ⟨rfl, vs6, G6⟩)
                | fail)
              have HG7 : Hid (Going w1 hb gw cw k (.slice (some ⟨gn, 0, none⟩) k cn) vs gx cx nx (.slice va D vc) ps vs7 c2 s4 w7) := G7
              clear G4 G5 G6 G7 HB1 HA2 HA3 HA4 HSU HG4
              go_loopg [11] D (fun gh t wx => ∃ (r : Nat) (vs' : Value), r ≤ D ∧ gh = D - r ∧ t = .int .i64 r ∧ Going w1 hb gw cw k (.slice (some ⟨gn, 0, none⟩) k cn) vs gx cx nx (.slice va D vc) ps vs' (layW (c2) nx ps r) (s4 ++ laySt nx ps r) wx)
              case atStart =>
                refine ⟨0, vs7, by omega, rfl, rfl, ?_⟩
                rw [show s4 ++ laySt nx ps 0 = s4 by simp [laySt]]
                exact HG7.out
              case round =>
                clear HG7
                obtain ⟨r, vs8, hrD, rfl, rfl, G⟩ := hrel
                by_cases hr : r < D
                · have hd : decide ((r : Int) < (D : Int)) = true := by simpa using hr
                  have hrl : r < ps.length := by rw [← HD.out]; exact hr
                  obtain ⟨gp, rfl⟩ := G.pcell r hrl
                  have hpk := HPB.out r hr
                  have HGC : Hid (∀ vs' cur st' w', Going w1 hb gw cw k (.slice (some ⟨gn, 0, none⟩) k cn) vs gx cx nx (.slice (some ⟨gp, 0, none⟩) D vc) ps vs' cur st' w' → w'.cell? ⟨gp, r, none⟩ = some (.int .i64 ((ps.getD r 0 : Nat) : Int)) ∧ w'.cell? ⟨gx, ps.getD r 0, none⟩ = some (.int .u64 (wd nx (ps.getD r 0)))) := fun vs' cur st' w' h => ⟨h.pcellAt r hrl, h.xcell _ hpk⟩
                  have HP1 : Hid (∀ w4, Going w1 hb gw cw k (.slice (some ⟨gn, 0, none⟩) k cn) vs gx cx nx (.slice (some ⟨gp, 0, none⟩) D vc) ps vs8 (layW (c2) nx ps r) (s4 ++ laySt nx ps r) w4 → Calls Tryz.prog 132 #[.pointer (some ⟨hb, 0, none⟩), .int .i64 ((ps.getD r 0 : Nat) : Int), .int .u64 (wd nx (ps.getD r 0))] w4 fun e w' => e = .returned (.tuple #[]) ∧ ∃ vs5, Going w1 hb gw cw k (.slice (some ⟨gn, 0, none⟩) k cn) vs gx cx nx (.slice (some ⟨gp, 0, none⟩) D vc) ps vs5 (layW (c2) nx ps (r + 1)) (s4 ++ laySt nx ps (r + 1)) w') := fun w4 h4 => by
                    refine (h4.put (by have := HS4.out; simp [laySt_len]; omega) (ps.getD r 0) (wd nx (ps.getD r 0)) hpk).mono ?_
                    rintro e w' ⟨rfl, vs5, h5, _⟩
                    refine ⟨rfl, vs5, ?_⟩
                    rw [laySt_succ, ← List.append_assoc]
                    exact h5
                  obtain ⟨hcp, hcx⟩ := HGC.out _ _ _ _ G
                  obtain ⟨p, hpp⟩ : ∃ p, p = ps.getD r 0 := ⟨_, rfl⟩
                  rw [← hpp] at HGC HP1 hpk hcp hcx
                  obtain ⟨x, hxx⟩ : ∃ x, x = wd nx p := ⟨_, rfl⟩
                  rw [← hxx] at HGC HP1 hcx
                  have hp0 : (0 : Int) ≤ (p : Int) := by omega
                  have hp1 : (p : Int) < (k : Int) := by omega
                  have hr0 : (0 : Int) ≤ (r : Int) := by omega
                  have hr1 : (r : Int) < (D : Int) := by omega
                  clear hrl hpp hxx
                  go_upto_region 34 with fail
                  go_region_held3 (fun w' => w'.cell? ⟨gp, r, none⟩ = some (.int .i64 (p : Int)) ∧ w'.cell? ⟨gx, p, none⟩ = some (.int .u64 x)) (first | go_keep | exact hkeep2)
                    (first
                      | (go_at_call 132; refine (HP1.out _ (by first | exact G | exact G.grow (Fr.refl New _).drew)).mono ?_; rintro e v1 ⟨rfl, vs9, G9⟩; have hkeep2 : v1.cell? ⟨gp, r, none⟩ = some (.int .i64 (p : Int)) ∧ v1.cell? ⟨gx, p, none⟩ = some (.int .u64 x) := HGC.out _ _ _ _ G9)
                      | fail)
                  all_goals
                    clear hkeep2
                    go_wp2_with fail
                    go_roundg (D - (r + 1))
                    case measure => omega
                    case rel => exact ⟨r + 1, vs9, by omega, rfl, by go_num, (by first | exact G9 | exact G9.grow (Fr.refl New _).drew)⟩
                · obtain rfl : r = D := by omega
                  have hd : decide ((r : Int) < (r : Int)) = false := by simp
                  have HE1 : Hid (∀ vs4 w4, Going w1 hb gw cw k (.slice (some ⟨gn, 0, none⟩) k cn) vs gx cx nx (.slice va r vc) ps vs4 (layW (c2) nx ps r) (s4 ++ laySt nx ps r) w4 → Calls Tryz.prog 133 #[.pointer (some ⟨hb, 0, none⟩)] w4 fun e w' => e = .returned (.tuple #[]) ∧ ∃ vs5, Going w1 hb gw cw k (.slice (some ⟨gn, 0, none⟩) k cn) vs gx cx nx (.slice va r vc) ps vs5 (layW (c2) nx ps r) (s4 ++ laySt nx ps r ++ [(⟨2, 0, 0⟩ : St)]) w') := fun vs4 w4 h4 => by
                    refine (h4.flush (by have := HS4.out; simp [laySt_len]; omega)).mono ?_
                    rintro e w' ⟨rfl, vs5, h5, _⟩
                    exact ⟨rfl, vs5, h5⟩
                  have HE2 : Hid (∀ vs4 w4, Going w1 hb gw cw k (.slice (some ⟨gn, 0, none⟩) k cn) vs gx cx nx (.slice va r vc) ps vs4 (layW (c2) nx ps r) (s4 ++ laySt nx ps r ++ [(⟨2, 0, 0⟩ : St)]) w4 → Calls Tryz.prog 132 #[.pointer (some ⟨hb, 0, none⟩), .int .i64 8, .int .u64 (0)] w4 fun e w' => e = .returned (.tuple #[]) ∧ ∃ vs5, Going w1 hb gw cw k (.slice (some ⟨gn, 0, none⟩) k cn) vs gx cx nx (.slice va r vc) ps vs5 ((layW (c2) nx ps r).set 8 0) (s4 ++ laySt nx ps r ++ [(⟨2, 0, 0⟩ : St)] ++ [(⟨1, ((8 : Nat) : Int), 0⟩ : St)]) w') := fun vs4 w4 h4 => by
                    refine (h4.put (by have := HS4.out; simp [laySt_len]; omega) 8 (0) (by omega)).mono ?_
                    rintro e w' ⟨rfl, vs5, h5, _⟩
                    exact ⟨rfl, vs5, h5⟩
                  have HE3 : Hid (∀ vs4 w4, Going w1 hb gw cw k (.slice (some ⟨gn, 0, none⟩) k cn) vs gx cx nx (.slice va r vc) ps vs4 ((layW (c2) nx ps r).set 8 0) (s4 ++ laySt nx ps r ++ [(⟨2, 0, 0⟩ : St)] ++ [(⟨1, ((8 : Nat) : Int), 0⟩ : St)]) w4 → Calls Tryz.prog 133 #[.pointer (some ⟨hb, 0, none⟩)] w4 fun e w' => e = .returned (.tuple #[]) ∧ ∃ vs5, Going w1 hb gw cw k (.slice (some ⟨gn, 0, none⟩) k cn) vs gx cx nx (.slice va r vc) ps vs5 ((layW (c2) nx ps r).set 8 0) (s4 ++ laySt nx ps r ++ [(⟨2, 0, 0⟩ : St)] ++ [(⟨1, ((8 : Nat) : Int), 0⟩ : St)] ++ [(⟨2, 0, 0⟩ : St)]) w') := fun vs4 w4 h4 => by
                    refine (h4.flush (by have := HS4.out; simp [laySt_len]; omega)).mono ?_
                    rintro e w' ⟨rfl, vs5, h5, _⟩
                    exact ⟨rfl, vs5, h5⟩
                  have HRB : Hid (∀ vs4 w4, Going w1 hb gw cw k (.slice (some ⟨gn, 0, none⟩) k cn) vs gx cx nx (.slice va r vc) ps vs4 ((layW (c2) nx ps r).set 8 0) (s4 ++ laySt nx ps r ++ [(⟨2, 0, 0⟩ : St)] ++ [(⟨1, ((8 : Nat) : Int), 0⟩ : St)] ++ [(⟨2, 0, 0⟩ : St)]) w4 → Calls Tryz.prog 85 #[.pointer (some ⟨hb, 0, none⟩)] w4 fun e w' => e = .returned (.tuple #[]) ∧ ∃ gn' cn', w.heap.size ≤ gn' ∧ RHN hb gw cw gn' cn' k vs4 (commitW ws now) (commitW ws now) (st ++ commitSt ws now) w' ∧ Fr (TurnedH hb gw vs) w w') := fun vs4 w4 h4 => by
                    refine h4.rollback.mono ?_
                    rintro e w' ⟨rfl, gn', cn', q1, q2, q3⟩
                    have e1 : commitW ws now = (layW (c2) nx ps r).set 8 0 := by
                      unfold commitW
                      simp only
                      rw [HC2.out.1, HPS2.out.1, HPS2.out.2, HD.out]
                    have e2 : st ++ commitSt ws now = s4 ++ laySt nx ps r ++ [(⟨2, 0, 0⟩ : St)] ++ [(⟨1, ((8 : Nat) : Int), 0⟩ : St)] ++ [(⟨2, 0, 0⟩ : St)] := by
                      unfold commitSt
                      simp only
                      rw [HC2.out.2, HPS2.out.1, HPS2.out.2, HD.out]
                      simp
                    rw [e1, e2]
                    exact ⟨rfl, gn', cn', Nat.le_trans HF1.out.size q1, q2, (HF1.out.mono (fun _ _ h => h.elim)).trans q3 (fun _ _ h => h)⟩
                  go_wp2_with (first
                    | (go_at_call 133; refine (HE3.out vs2 v2 G2).mono ?_; rintro e v3 ⟨rfl, vs3, G3⟩)
                    | (go_at_call 133; refine (HE1.out vs8 wr G).mono ?_; rintro e v1 ⟨rfl, vs1, G1⟩)
                    | (go_at_call 132; refine (HE2.out vs1 v1 G1).mono ?_; rintro e v2 ⟨rfl, vs2, G2⟩)
                    | (go_at_call 85; refine (HRB.out vs3 v3 G3).mono ?_; rintro e v4 ⟨rfl, gn', cn', q1, q2, q3⟩)
                    | fail)
                  go_ret
                  exact ⟨rfl, vs3, gn', cn', q1, q2, q3, G3.v.imp id (fun h k hk => Nat.le_trans HF1.out.size (h k hk))⟩
end Go.Proofs.YtbagcjlimdilpaaGreat
