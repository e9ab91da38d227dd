/- The walk of the document's Repair. -/
import Derived.Test.YtbagcjlimdilpaaGreatHhJ4
namespace Go.Proofs.YtbagcjlimdilpaaGreat
open Go.RowKit

set_option maxHeartbeats 4000000 in
set_option maxRecDepth 1000000 in
theorem repair_any (a : Option Addr) (cap : Nat) (ws : List Int) (w : World) (hm : ws.length ≤ 1048576) (hU : ∀ z ∈ ws, U z) (hr : RowU w a ws) :
    Calls Tryz.prog 124 #[.slice a ws.length cap] w fun e w' => ∃ v r c, e = .returned (.tuple #[v, .int .i64 c]) ∧ RepairIs ws r c ∧ Own w.heap.size w' v r ∧ Fr New w w' := by
  have HB : Hid (Calls Tryz.prog 127 #[.int .i64 ws.length] w fun e w' => e = .returned (.int .i64 (nblk ws.length)) ∧ w' = w) := blocks_any _ w (by omega)
  by_cases hn : nblk ws.length = 0
  · have HT : Hid (RepairIs ws [] 2) := .inl ⟨hn, rfl, rfl⟩
    rw [hn] at HB
    clear hn hr
    go_enter Tryz.func124, Tryz.ntmps124
    go_wp2_with (go_at_call 127; refine calls_same HB.out ?_)
    go_ret2
    exact ⟨_, [], 2, rfl, HT.out, World.ownsRow_nil _ _ _ _, Fr.refl _ _⟩
  obtain ⟨hlen, hn1, hn2⟩ := nblk_some hn
  obtain ⟨sb, so, rfl, hsb, hcw⟩ := rowU_plain hr (by omega)
  have HRW : Hid (RowU w (some ⟨sb, so, none⟩) ws) := hr
  have HUU : Hid (∀ z ∈ ws, U z) := hU
  have HN0 : Hid (nblk ws.length ≠ 0) := hn
  have HLN : Hid (ws.length = 106 + 8 * nblk ws.length) := hlen
  obtain ⟨n, hnn⟩ : ∃ n, n = nblk ws.length := ⟨_, rfl⟩
  have HNN : Hid (n = nblk ws.length) := hnn
  rw [← hnn] at hn1 hn2 HB
  have h9 : 114 ≤ ws.length := by omega
  have hw1 : IntKind.u64.wrap (n : Int) = n := by rw [IntKind.wrap_u64]; omega
  have hn0 : ((n : Int) == 0) = false := by simp; omega
  obtain ⟨i0, hi0, hz0, hz1, hz2⟩ := info_parts Tryz.info50
  obtain ⟨K, hK⟩ : ∃ K, K = (asksS ws).1 := ⟨_, rfl⟩
  obtain ⟨OK, hOK⟩ : ∃ OK, OK = (asksS ws).2 := ⟨_, rfl⟩
  have HK : Hid (K = (asksS ws).1 ∧ OK = (asksS ws).2) := ⟨hK, hOK⟩
  have hK48 : K ≤ 48 := by rw [hK]; exact asks_le ws
  have HAS : Hid (∀ w1 c g, Mem2 w g c ws.length ws w1 → Calls Tryz.prog 150 #[.slice (some ⟨g, 0, none⟩) ws.length c] w1 fun e w' => e = .returned (.tuple #[.int .i64 K, .bool OK]) ∧ Fr New w1 w') := by
    intro w1 c g M
    rw [hK, hOK]
    exact asks_any _ c ws w1 hm (by omega) hU M.rowU
  have HOA : Hid (∀ i, i < K → okAt ws.length (wd ws (10 + 2 * i)) = true) := by rw [hK]; exact fun i hi => asks_ok hi
  clear hlen hn hnn hr hcw hU hK hOK
  go_enter Tryz.func124, Tryz.ntmps124
  go_wp2_with (first
    | (go_at_call 127; refine calls_same HB.out ?_)
    | (at_builtin; refine wpList_append_lies _ rfl (.tmp 25) (.tmp 26) 43 rfl w.heap.size 50 i0 (.int .u64 0) 1 8 Tryz.underlying43 hi0 hz0 hz1 hz2 rfl (by decide) _ _ _ rfl (emptyU w) ⟨sb, so, none⟩ ws.length cap (ws.map (Value.int .u64)) rfl (by simp) (copy_news HRW.out _) (ints_oneU ws) (by omega) (by unfold maxLen; omega) (by omega) (by simp) _ rfl ?_; intro g c w1 hown1 hg1 _ _; have M1 : Mem2 w g c ws.length ws w1 := copy_mem hown1 hg1; clear hown1 hg1)
    | (go_at_call 150; refine (HAS.out w1 c g M1).mono ?_; rintro e w2 ⟨rfl, hf2⟩; have M2 := M1.grow hf2)
    | fail)
  clear M1 hf2 HAS
  go_loopg [8] K (fun gh t wr => ∃ i : Nat, i ≤ K ∧ gh = K - i ∧ t = .int .i64 i ∧ Mem2 w g c ws.length (if OK then doneS ws i else ws) wr)
  case atStart => exact ⟨0, by omega, rfl, rfl, by cases OK <;> exact M2⟩
  case round =>
    obtain ⟨i, hiK, rfl, rfl, M⟩ := hrel
    clear M2
    by_cases hgo : i < K ∧ OK = true
    · obtain ⟨hi, rfl⟩ := hgo
      have hd : decide ((i : Int) < (K : Int)) = true := by simp; omega
      simp only [if_true] at M
      have hca := M.cell (10 + 2 * i) (by omega)
      have hcb := M.cell (11 + 2 * i) (by omega)
      rw [doneS_log HUU.out (fun j hj => HOA.out j (by omega)) (by omega) (by omega)] at hca hcb
      have hoa := HOA.out i hi
      have hxU := wd_U HUU.out (10 + 2 * i)
      have hnx := M.put (wd ws (10 + 2 * i)).toNat (wd ws (11 + 2 * i))
      rw [done_set] at hnx
      obtain ⟨x, hx⟩ : ∃ x, x = wd ws (10 + 2 * i) := ⟨_, rfl⟩
      obtain ⟨y, hy⟩ : ∃ y, y = wd ws (11 + 2 * i) := ⟨_, rfl⟩
      rw [← hx] at hca hoa hxU hnx
      rw [← hy] at hcb hnx
      obtain ⟨hxl, hx8⟩ := okAt_iff.1 hoa
      obtain ⟨k, rfl⟩ := Int.eq_ofNat_of_zero_le hxU.1
      rw [Int.toNat_natCast] at hnx
      have hck := M.cell k (by omega)
      have hfk := M.free k
      have hk0 : (0 : Int) ≤ (k : Int) := by omega
      have hk1 : (k : Int) < (ws.length : Int) := by omega
      have hneA : k ≠ 10 + 2 * i := by omega
      have hneB : k ≠ 11 + 2 * i := by omega
      have HNX : Hid (Mem2 _ _ _ _ _ _) := hnx
      clear hx hy hoa hx8 hxU hnx M
      go_wp2
      go_region
      all_goals
        go_wp2
        go_roundg (K - (i + 1))
        case measure => omega
        case rel => exact ⟨i + 1, by omega, rfl, by go_num, HNX.out.grow ((Fr.refl _ _).drew)⟩
    · obtain ⟨X, HXs, M'⟩ : ∃ X, Hid (X.set 8 0 = loggedS ws) ∧ Mem2 w g c ws.length X wr := ⟨_, by
        show _ = _
        unfold loggedS
        rw [← HK.out.1, ← HK.out.2]
        cases OK with
        | false => rfl
        | true =>
          have : i = K := by
            rcases Nat.lt_or_ge i K with h | h
            · exact absurd ⟨h, rfl⟩ hgo
            · omega
          rw [this], M⟩
      have hcase : (decide ((i : Int) < (K : Int)) = false ∧ OK = true ∧ K ≤ i) ∨ (decide ((i : Int) < (K : Int)) = false ∧ OK = false ∧ K ≤ i) ∨ (decide ((i : Int) < (K : Int)) = true ∧ OK = false ∧ i < K) := by
        by_cases h : i < K
        · refine .inr (.inr ⟨by simp; omega, ?_, h⟩)
          cases hO : OK with
          | false => rfl
          | true => exact absurd ⟨h, hO⟩ hgo
        · cases hO : OK with
          | false => exact .inr (.inl ⟨by simp; omega, rfl, by omega⟩)
          | true => exact .inl ⟨by simp; omega, rfl, by omega⟩
      have hXl : X.length = ws.length := M'.len
      have M8 := M'.put 8 0
      rw [HXs.out] at M8
      have c0 := M'.cell 0 (by omega)
      have c1 := M'.cell 1 (by omega)
      have c8 := M'.cell 8 (by omega)
      have f8 := M'.free 8
      have hx0 : wd (loggedS ws) 0 = wd X 0 := by rw [← HXs.out, wd_set (by omega), if_neg (by omega)]
      have hx1 : wd (loggedS ws) 1 = wd X 1 := by rw [← HXs.out, wd_set (by omega), if_neg (by omega)]
      obtain ⟨x0, hy0⟩ : ∃ x, x = wd X 0 := ⟨_, rfl⟩
      obtain ⟨x1, hy1⟩ : ∃ x, x = wd X 1 := ⟨_, rfl⟩
      obtain ⟨x8, hy8⟩ : ∃ x, x = wd X 8 := ⟨_, rfl⟩
      rw [← hy0] at c0 hx0
      rw [← hy1] at c1 hx1
      rw [← hy8] at c8
      have HX01 : Hid (wd (loggedS ws) 0 = x0 ∧ wd (loggedS ws) 1 = x1) := ⟨hx0, hx1⟩
      have HXL : Hid (X.length = ws.length) := hXl
      clear hx0 hx1 hy0 hy1 hy8 hgo M M' hXl
      have M8' : ∃ W, Hid (W = wr.setCell ⟨g, 8, none⟩ (.int .u64 0)) ∧ Mem2 w g c ws.length (loggedS ws) W := ⟨_, rfl, M8⟩
      by_cases t0 : x0 = 20261114
      case neg =>
        have HT : Hid (RepairIs ws [] 3) := .inr ⟨HN0.out, .inl ⟨fun hh => t0 (by rw [← HX01.out.1]; exact hh.1), rfl, rfl⟩⟩
        have ht : (x0 != 20261114) = true := by simpa using t0
        have hfr := M8.fr
        clear M8' M8
        rcases hcase with ⟨hd, rfl, hik⟩ | ⟨hd, rfl, hik⟩ | ⟨hd, rfl, hik⟩
        all_goals
          go_wp2
          go_ret2
          exact ⟨_, [], 3, rfl, HT.out, World.ownsRow_nil _ _ _ _, hfr⟩
      case pos =>
      by_cases t1 : x1 = n
      case neg =>
        have HT : Hid (RepairIs ws [] 3) := .inr ⟨HN0.out, .inl ⟨fun hh => t1 (by rw [← HX01.out.2, HNN.out]; exact hh.2), rfl, rfl⟩⟩
        have ht : (x1 != (n : Int)) = true := by simpa using t1
        have ht0 : (x0 != 20261114) = false := by simpa using t0
        have hfr := M8.fr
        clear M8' M8
        rcases hcase with ⟨hd, rfl, hik⟩ | ⟨hd, rfl, hik⟩ | ⟨hd, rfl, hik⟩
        all_goals
          go_wp2
          go_ret2
          exact ⟨_, [], 3, rfl, HT.out, World.ownsRow_nil _ _ _ _, hfr⟩
      case pos =>
      have HHO : Hid (headOk ws) := ⟨by rw [HX01.out.1]; exact t0, by rw [HX01.out.2, t1, HNN.out]⟩
      have ht0 : (x0 != 20261114) = false := by simpa using t0
      have ht1 : (x1 != (n : Int)) = false := by simpa using t1
      obtain ⟨S1, hS1⟩ : ∃ S1, S1 = loggedS ws := ⟨_, rfl⟩
      rw [← hS1] at M8
      have HS1 : Hid (S1 = loggedS ws) := hS1
      have HSL : Hid (S1.length = ws.length) := M8.len
      have HNS : Hid (nblk S1.length ≠ 0) := by rw [HSL.out]; exact HN0.out
      clear hS1 M8' HB HRW
      rcases hcase with ⟨hd, rfl, hik⟩ | ⟨hd, rfl, hik⟩ | ⟨hd, rfl, hik⟩
      all_goals
        go_wp2_with (first
          | (go_at_call 126; refine (walk_mem M8 HN0.out).mono ?_; rintro e w3 ⟨vl0, vb, rfl, _, hob, hf3⟩; have M3 := M8.grow hf3; clear M8)
          | fail)
        obtain ⟨ab, cb, rfl⟩ := own_slice hob
        have hbl := bads_len S1
        go_loopg [11] (bads S1).length (fun gh t wr => ∃ (i : Nat) (cur : List Int), i ≤ (bads S1).length ∧ gh = (bads S1).length - i ∧ t = .int .i64 i ∧ Zeroed S1 cur (fun q => q ∈ (bads S1).take i) ∧ Mem2 w g c ws.length cur wr ∧ OwnN 0 wr (.slice ab (bads S1).length cb) (bads S1))
        case atStart => exact ⟨0, S1, by omega, rfl, rfl, zeroed_self S1 (by simp), M3, hob⟩
        case round =>
          clear M3 hob
          obtain ⟨i, cur, hib, rfl, rfl, hz, M, hob⟩ := hrel
          by_cases hi : i < (bads S1).length
          · obtain ⟨gv, cv, hv, _, _⟩ := hob.form (by omega)
            cases hv
            have hcp := hob.cellAt i (by omega)
            obtain ⟨p, hp⟩ : ∃ p, p = (bads S1)[i] := ⟨_, rfl⟩
            have hpl := bads_lt HNS.out (show p ∈ bads S1 by rw [hp]; exact List.getElem_mem _)
            rw [HSL.out] at hpl
            have hcp' : wr.cell? ⟨gv, i, none⟩ = some (.int .i64 (p : Int)) := hcp.trans (by rw [hp]; simp [hi])
            have hnz : Zeroed S1 (cur.set p 0) (fun q => q ∈ (bads S1).take (i + 1)) := (hz.set (by rw [HSL.out]; exact hpl.2)).congr (fun q => by
              rw [List.take_succ_eq_append_getElem hi, ← hp]; simp)
            have hcw := M.cell p hpl.2
            have hfw := M.free p
            have hM2 := M.put p 0
            have hob2 := own_put M p (.int .u64 0) hob (by decide)
            have hp1 : (p : Int) < (ws.length : Int) := by omega
            clear hcp hp hz M hob
            go_wp2
            go_roundg ((bads S1).length - (i + 1))
            case measure => omega
            case rel => exact ⟨i + 1, _, by omega, rfl, by go_num, hnz, hM2, hob2⟩
          · obtain rfl : i = (bads S1).length := by omega
            rw [List.take_length] at hz
            clear hob
            obtain ⟨l, hl⟩ : ∃ l, l = objs cur := ⟨_, rfl⟩
            have HLl : Hid (l = objs cur) := hl
            have HZ1 : Hid (Zeroed S1 cur (fun q => q ∈ bads S1)) := hz
            have HCL : Hid (cur.length = ws.length) := M.len
            have hll : l.length ≤ 32 := by rw [hl]; exact objs_len cur
            have HBO : Hid (∀ o ∈ l, o.block ≤ 1048576 ∧ o.span ≤ 4 ∧ o.ptrs < 32) := by
              rw [hl]; exact fun o ho => by have := objs_in ho; have := nblk_le cur.length; exact ⟨by omega, by omega, by omega⟩
            have HIN : Hid (∀ o ∈ l, 106 + 8 * (o.block + o.span) ≤ ws.length ∧ o.ptrs < 8 * o.span) := by
              rw [hl, ← HCL.out]; exact within_objs cur
            have HW4 : Hid (Calls Tryz.prog 126 #[.slice (some ⟨g, 0, none⟩) ws.length c] wr fun e w' => ∃ vl vb, e = .returned (.tuple #[vl, vb]) ∧ OwnO 0 w' vl l ∧ OwnN 0 w' vb (bads cur) ∧ Fr New wr w') := by
              rw [hl]; exact walk_mem M HN0.out
            have HW5 : Hid (∀ W vl, Mem2 w g c ws.length cur W → OwnO 0 W vl l → Calls Tryz.prog 149 #[.slice (some ⟨g, 0, none⟩) ws.length c, vl] W fun e w' => ∃ out : List Bool, e = .returned (.slice (some ⟨W.heap.size, 0, none⟩) l.length l.length) ∧ BRow w' W.heap.size out ∧ out.length = l.length ∧ (∀ i, out[i]? = some true ↔ Reach cur l i) ∧ Fr New W w') := by
              rw [hl]; exact fun W vl M' ho => reached_mem M' hm (by omega) ho
            clear hl hz
            go_wp2_with (first
              | (go_at_call 126; refine HW4.out.mono ?_; rintro e w4 ⟨vl, vb4, rfl, hol, _, hf4⟩; have M4 := M.grow hf4; obtain ⟨av, cv, rfl⟩ := own_slice hol)
              | (go_at_call 149; refine (HW5.out w4 _ M4 hol).mono ?_; rintro e w5 ⟨out, rfl, hrow, holen, hreach, hf5⟩; have H5 : Hold w g c ws.length cur (.slice av l.length cv) l w4.heap.size out w5 := ⟨M4.grow hf5, hf5.owns hol (fun _ _ h => h), hrow⟩; have HRE : Hid (∀ i, out[i]? = some true ↔ Reach cur l i) := hreach; have HOL : Hid (out.length = l.length) := holen; clear hreach holen hrow)
              | fail)
            clear hol M4 hf4 hf5 M HW4 HW5
            obtain ⟨gb, hgb⟩ : ∃ gb, gb = w4.heap.size := ⟨_, rfl⟩
            rw [← hgb] at H5 ⊢
            clear hgb
            go_loopg [15] 4 (fun gh t wr => ∃ (r : Nat) (cu : List Int), r ≤ 4 ∧ gh = 4 - r ∧ t = .int .i64 r ∧ Zeroed cur cu (rootZ cur l r) ∧ Hold w g c ws.length cu (.slice av l.length cv) l gb out wr)
            case atStart => exact ⟨0, cur, by omega, rfl, rfl, zeroed_self cur rootZ_zero, H5⟩
            case round =>
              clear H5
              obtain ⟨r, cu, hr4, rfl, rfl, hz, H⟩ := hrel
              by_cases hr : r < 4
              · have hc : wr.cell? ⟨g, 3 + r, none⟩ = some (.int .u64 (wd cu (3 + r))) := H.mem.cell (3 + r) (by omega)
                have hfz := H.mem.free (3 + r)
                have HF : Hid (Calls Tryz.prog 130 #[.slice av l.length cv, .int .u64 (wd cu (3 + r))] wr fun e w' => e = .returned (.int .i64 (findI l (wd cu (3 + r)))) ∧ w' = wr) := find_any _ l _ wr (lies_own H.obs (by omega) HBO.out)
                rcases hx : idx l (wd cu (3 + r)) with _ | k
                · have hnz := (hz.hit (l := l) (q := 3 + r) (by rw [HCL.out]; omega) hx).congr rootZ_succ
                  rw [findI_none hx] at HF
                  have hput := H.put (3 + r) 0
                  clear hx hz H
                  go_wp2_with (go_at_call 130; refine calls_same HF.out ?_)
                  go_roundg (4 - (r + 1))
                  case measure => omega
                  case rel => exact ⟨r + 1, _, by omega, rfl, by go_num, hnz, hput⟩
                · have hnz := (hz.miss (l := l) (q := 3 + r) hx).congr rootZ_succ
                  rw [findI_some hx] at HF
                  clear hx hz
                  go_wp2_with (go_at_call 130; refine calls_same HF.out ?_)
                  go_roundg (4 - (r + 1))
                  case measure => omega
                  case rel => exact ⟨r + 1, _, by omega, rfl, by go_num, hnz, H⟩
              · obtain rfl : r = 4 := by omega
                go_wp2
                obtain ⟨W4, hW4, hz4, H4⟩ : ∃ cu', cu' = cu ∧ Zeroed cur cu' (fun q => rootZ cur l 4 q ∨ ptrZ cur l 0 q) ∧ Hold w g c ws.length cu' (.slice av l.length cv) l gb out wr := ⟨cu, rfl, hz.congr (fun q => ⟨.inl, fun h => h.resolve_right (ptrZ_zero q)⟩), H⟩
                clear hW4 hz H cu
                go_loopg [16] l.length (fun gh t wr => ∃ (i : Nat) (cu : List Int), i ≤ l.length ∧ gh = l.length - i ∧ t = .int .i64 i ∧ Zeroed cur cu (fun q => rootZ cur l 4 q ∨ ptrZ cur l i q) ∧ Hold w g c ws.length cu (.slice av l.length cv) l gb out wr)
                case atStart => exact ⟨0, W4, by omega, rfl, rfl, hz4, H4⟩
                case round =>
                  clear hz4 H4
                  obtain ⟨i, cu, hil, rfl, rfl, hz, H⟩ := hrel
                  by_cases hi : i < l.length
                  · obtain ⟨hb1, hb2, hb3⟩ := HBO.out l[i] (List.getElem_mem _)
                    obtain ⟨hw1', hw2'⟩ := HIN.out l[i] (List.getElem_mem _)
                    have hio : i < out.length := by rw [HOL.out]; exact hi
                    have hsp1 : Reach cur l i → ∀ q, (ptrZ cur l i q ∨ ptrZ1 cur l l[i] (l[i]).ptrs q) ↔ ptrZ cur l (i + 1) q := fun hr q => ptrZ_yes hi hr q
                    have hoa := fun (W : World) (cu : List Int) (H : Hold w g c ws.length cu (.slice av l.length cv) l gb out W) => H.objAt i hi
                    obtain ⟨o, ho⟩ : ∃ o, o = l[i] := ⟨_, rfl⟩
                    rw [← ho] at hb1 hb2 hb3 hw1' hw2' hsp1 hoa
                    have HSP : Hid (Reach cur l i → ∀ q, (ptrZ cur l i q ∨ ptrZ1 cur l o o.ptrs q) ↔ ptrZ cur l (i + 1) q) := hsp1
                    have HOA2 : Hid (∀ (W : World) (cu : List Int), Hold w g c ws.length cu (.slice av l.length cv) l gb out W → ∃ gl, av = some ⟨gl, 0, none⟩ ∧ W.cell? ⟨gl, i * 3, none⟩ = some (.int .i64 o.block) ∧ W.cell? ⟨gl, i * 3 + 1, none⟩ = some (.int .i64 o.span) ∧ W.cell? ⟨gl, i * 3 + 2, none⟩ = some (.int .i64 o.ptrs)) := hoa
                    clear ho hsp1 hoa
                    obtain ⟨gl, rfl, _, _, _⟩ := HOA2.out wr cu H
                    rcases hoi : out[i] with _ | _
                    · have hnx : Zeroed cur cu (fun q => rootZ cur l 4 q ∨ ptrZ cur l (i + 1) q) := hz.congr (fun q => or_congr Iff.rfl (ptrZ_no (fun hr => by have := (HRE.out i).2 hr; rw [List.getElem?_eq_getElem hio, hoi] at this; cases this) q))
                      have HCI : Hid (∀ W, Hold w g c ws.length cu (.slice (some ⟨gl, 0, none⟩) l.length cv) l gb out W → W.cell? ⟨gb, i, none⟩ = some (.bool false)) := fun W h => (h.marks.cell i hio).trans (by rw [hoi])
                      clear hoi hz
                      go_wp2
                      go_loopg [17] 0 (fun gh t wr => gh = 0 ∧ t = .int .i64 0 ∧ Hold w g c ws.length cu (.slice (some ⟨gl, 0, none⟩) l.length cv) l gb out wr)
                      case atStart => exact ⟨rfl, rfl, H⟩
                      case round =>
                        clear H
                        obtain ⟨rfl, rfl, H⟩ := hrel
                        have hci := HCI.out _ H
                        go_wp2
                        go_roundg (l.length - (i + 1))
                        case measure => omega
                        case rel => exact ⟨i + 1, cu, by omega, rfl, by go_num, hnx, H⟩
                    · have HR : Hid (Reach cur l i) := (HRE.out i).1 ((List.getElem?_eq_getElem hio).trans (by rw [hoi]))
                      have HCI : Hid (∀ cu W, Hold w g c ws.length cu (.slice (some ⟨gl, 0, none⟩) l.length cv) l gb out W → W.cell? ⟨gb, i, none⟩ = some (.bool true)) := fun cu W h => (h.marks.cell i hio).trans (by rw [hoi])
                      have hz0 : Zeroed cur cu (fun q => (rootZ cur l 4 q ∨ ptrZ cur l i q) ∨ ptrZ1 cur l o 0 q) := hz.congr (fun q => ⟨.inl, fun h => h.resolve_right (ptrZ1_zero q)⟩)
                      clear hoi hz
                      go_wp2
                      go_loopg [17] o.ptrs (fun gh t wr => ∃ (p : Nat) (cu : List Int), p ≤ o.ptrs ∧ gh = o.ptrs - p ∧ t = .int .i64 p ∧ Zeroed cur cu (fun q => (rootZ cur l 4 q ∨ ptrZ cur l i q) ∨ ptrZ1 cur l o p q) ∧ Hold w g c ws.length cu (.slice (some ⟨gl, 0, none⟩) l.length cv) l gb out wr)
                      case atStart => exact ⟨0, cu, by omega, rfl, rfl, hz0, H⟩
                      case round =>
                        clear H hz0 cu
                        obtain ⟨p, cu, hpp, rfl, rfl, hz, H⟩ := hrel
                        have hci := HCI.out _ _ H
                        obtain ⟨gl', hgl, e0, e1, e2⟩ := HOA2.out _ _ H
                        cases hgl
                        by_cases hp : p < o.ptrs
                        · have hd : decide ((p : Int) < (o.ptrs : Int)) = true := by simp; omega
                          have HPL : Hid (∀ W, Fr New wr W → Calls Tryz.prog 129 #[.agg #[.int .i64 o.block, .int .i64 o.span, .int .i64 o.ptrs], .int .i64 p] W fun e w' => e = .returned (.int .i64 (106 + 8 * (o.block : Int) + 1 + p)) ∧ Fr New W w') := fun W _ => place_any o p W hb1 (by omega) (by omega)
                          have HH : Hid (∀ W, Fr New wr W → Hold w g c ws.length cu (.slice (some ⟨gl, 0, none⟩) l.length cv) l gb out W) := fun W hf => H.grow hf
                          obtain ⟨h, hh⟩ : ∃ h, h = wd cu (106 + 8 * o.block + 1 + p) := ⟨_, rfl⟩
                          have HCE : Hid (∀ W, Fr New wr W → W.cell? ⟨gl, i * 3, none⟩ = some (.int .i64 o.block) ∧ W.cell? ⟨gl, i * 3 + 1, none⟩ = some (.int .i64 o.span) ∧ W.cell? ⟨gl, i * 3 + 2, none⟩ = some (.int .i64 o.ptrs) ∧ W.cell? ⟨g, 106 + 8 * o.block + 1 + p, none⟩ = some (.int .u64 h) ∧ W.frozen? ⟨g, 106 + 8 * o.block + 1 + p, none⟩ = false) := by
                            intro W hf
                            obtain ⟨gl', hgl, e0, e1, e2⟩ := HOA2.out _ _ (HH.out W hf)
                            cases hgl
                            exact ⟨e0, e1, e2, by rw [hh]; exact (HH.out W hf).mem.cell _ (by omega), (HH.out W hf).mem.free _⟩
                          have HFI : Hid (∀ W, Fr New wr W → Calls Tryz.prog 130 #[.slice (some ⟨gl, 0, none⟩) l.length cv, .int .u64 h] W fun e w' => e = .returned (.int .i64 (findI l h)) ∧ w' = W) := fun W hf => find_any _ l _ W (lies_own (HH.out W hf).obs (by omega) HBO.out)
                          have hfw : Fr New wr wr := Fr.refl _ _
                          have hpl : (106 + 8 * o.block + 1 + p) < cur.length := by rw [HCL.out]; omega
                          clear e0 e1 e2 H
                          obtain ⟨e0, e1, e2, _, _⟩ := HCE.out _ hfw
                          rcases hx : idx l h with _ | k
                          · have hnz : Zeroed cur (cu.set (106 + 8 * o.block + 1 + p) 0) (fun q => (rootZ cur l 4 q ∨ ptrZ cur l i q) ∨ ptrZ1 cur l o (p + 1) q) := (hz.hit (l := l) hpl (by rw [← hh]; exact hx)).congr (fun q => by rw [or_assoc]; exact or_congr Iff.rfl (ptrZ1_succ q))
                            have HF2 : Hid (∀ W, Fr New wr W → Calls Tryz.prog 130 #[.slice (some ⟨gl, 0, none⟩) l.length cv, .int .u64 h] W fun e w' => e = .returned (.int .i64 (-1)) ∧ w' = W) := by rw [← findI_none hx]; exact HFI.out
                            clear hx hh hz HFI
                            go_wp2_with (first
                              | (go_at_call 129; refine (HPL.out _ hfw).mono ?_; rintro e W ⟨rfl, hf2⟩; replace hfw := hfw.same hf2; clear hf2; obtain ⟨e0, e1, e2, hcw, hfz⟩ := HCE.out _ hfw)
                              | (go_at_call 130; refine calls_same (HF2.out _ hfw) ?_)
                              | fail)
                            have hput := (HH.out _ hfw).put (106 + 8 * o.block + 1 + p) 0
                            go_roundg (o.ptrs - (p + 1))
                            case measure => omega
                            case rel => exact ⟨p + 1, _, by omega, rfl, by go_num, hnz, hput⟩
                          · have hnz : Zeroed cur cu (fun q => (rootZ cur l 4 q ∨ ptrZ cur l i q) ∨ ptrZ1 cur l o (p + 1) q) := (hz.miss (l := l) (q := 106 + 8 * o.block + 1 + p) (by rw [← hh]; exact hx)).congr (fun q => by rw [or_assoc]; exact or_congr Iff.rfl (ptrZ1_succ q))
                            have HF2 : Hid (∀ W, Fr New wr W → Calls Tryz.prog 130 #[.slice (some ⟨gl, 0, none⟩) l.length cv, .int .u64 h] W fun e w' => e = .returned (.int .i64 k) ∧ w' = W) := by rw [← findI_some hx]; exact HFI.out
                            clear hx hh hz HFI
                            go_wp2_with (first
                              | (go_at_call 129; refine (HPL.out _ hfw).mono ?_; rintro e W ⟨rfl, hf2⟩; replace hfw := hfw.same hf2; clear hf2; obtain ⟨e0, e1, e2, hcw, hfz⟩ := HCE.out _ hfw)
                              | (go_at_call 130; refine calls_same (HF2.out _ hfw) ?_)
                              | fail)
                            have hput := HH.out _ hfw
                            go_roundg (o.ptrs - (p + 1))
                            case measure => omega
                            case rel => exact ⟨p + 1, _, by omega, rfl, by go_num, hnz, hput⟩
                        · have hd : decide ((p : Int) < (o.ptrs : Int)) = false := by simp; omega
                          obtain rfl : p = o.ptrs := by omega
                          have hnx : Zeroed cur cu (fun q => rootZ cur l 4 q ∨ ptrZ cur l (i + 1) q) := hz.congr (fun q => by rw [or_assoc]; exact or_congr Iff.rfl (HSP.out HR.out q))
                          clear hz
                          go_wp2
                          go_roundg (l.length - (i + 1))
                          case measure => omega
                          case rel => exact ⟨i + 1, cu, by omega, rfl, by go_num, hnx, H⟩
                  · obtain rfl : i = l.length := by omega
                    go_wp2
                    obtain ⟨W5, hz5, H5⟩ : ∃ cu', Zeroed cur cu' (fun q => (rootZ cur l 4 q ∨ ptrZ cur l l.length q) ∨ leakZ cur l 0 q) ∧ Hold w g c ws.length cu' (.slice av l.length cv) l gb out wr := ⟨cu, hz.congr (fun q => ⟨.inl, fun h => h.resolve_right (leakZ_zero q)⟩), H⟩
                    clear hz H cu
                    go_loopg [18] l.length (fun gh t wr => ∃ (i : Nat) (cu : List Int), i ≤ l.length ∧ gh = l.length - i ∧ t = .int .i64 i ∧ Zeroed cur cu (fun q => (rootZ cur l 4 q ∨ ptrZ cur l l.length q) ∨ leakZ cur l i q) ∧ Hold w g c ws.length cu (.slice av l.length cv) l gb out wr)
                    case atStart => exact ⟨0, W5, by omega, rfl, rfl, hz5, H5⟩
                    case round =>
                      clear hz5 H5 hi
                      obtain ⟨i, cu, hil, rfl, rfl, hz, H⟩ := hrel
                      by_cases hi : i < l.length
                      · obtain ⟨hb1, hb2, hb3⟩ := HBO.out l[i] (List.getElem_mem _)
                        obtain ⟨hw1', hw2'⟩ := HIN.out l[i] (List.getElem_mem _)
                        have hio : i < out.length := by rw [HOL.out]; exact hi
                        have hsp1 : ¬ Reach cur l i → ∀ q, (leakZ cur l i q ∨ leakZ1 l[i] (l[i]).span q) ↔ leakZ cur l (i + 1) q := fun hr q => leakZ_yes hi hr q
                        have hoa := fun (W : World) (cu : List Int) (H : Hold w g c ws.length cu (.slice av l.length cv) l gb out W) => H.objAt i hi
                        obtain ⟨o, ho⟩ : ∃ o, o = l[i] := ⟨_, rfl⟩
                        rw [← ho] at hb1 hb2 hb3 hw1' hw2' hsp1 hoa
                        have HSP : Hid (¬ Reach cur l i → ∀ q, (leakZ cur l i q ∨ leakZ1 o o.span q) ↔ leakZ cur l (i + 1) q) := hsp1
                        have HOA2 : Hid (∀ (W : World) (cu : List Int), Hold w g c ws.length cu (.slice av l.length cv) l gb out W → ∃ gl, av = some ⟨gl, 0, none⟩ ∧ W.cell? ⟨gl, i * 3, none⟩ = some (.int .i64 o.block) ∧ W.cell? ⟨gl, i * 3 + 1, none⟩ = some (.int .i64 o.span) ∧ W.cell? ⟨gl, i * 3 + 2, none⟩ = some (.int .i64 o.ptrs)) := hoa
                        clear ho hsp1 hoa
                        obtain ⟨gl, rfl, _, _, _⟩ := HOA2.out wr cu H
                        rcases hoi : out[i] with _ | _
                        · have HR : Hid (¬ Reach cur l i) := fun hr => by have := (HRE.out i).2 hr; rw [List.getElem?_eq_getElem hio, hoi] at this; cases this
                          have HCI : Hid (∀ cu W, Hold w g c ws.length cu (.slice (some ⟨gl, 0, none⟩) l.length cv) l gb out W → W.cell? ⟨gb, i, none⟩ = some (.bool false)) := fun cu W h => (h.marks.cell i hio).trans (by rw [hoi])
                          have hz0 : Zeroed cur cu (fun q => ((rootZ cur l 4 q ∨ ptrZ cur l l.length q) ∨ leakZ cur l i q) ∨ leakZ1 o 0 q) := hz.congr (fun q => ⟨.inl, fun h => h.resolve_right (leakZ1_zero q)⟩)
                          clear hoi hz
                          go_wp2
                          go_loopg [19] o.span (fun gh t wr => ∃ (b : Nat) (cu : List Int), b ≤ o.span ∧ gh = o.span - b ∧ t = .int .i64 b ∧ Zeroed cur cu (fun q => ((rootZ cur l 4 q ∨ ptrZ cur l l.length q) ∨ leakZ cur l i q) ∨ leakZ1 o b q) ∧ Hold w g c ws.length cu (.slice (some ⟨gl, 0, none⟩) l.length cv) l gb out wr)
                          case atStart => exact ⟨0, cu, by omega, rfl, rfl, hz0, H⟩
                          case round =>
                            clear H hz0 cu
                            obtain ⟨b, cu, hbb, rfl, rfl, hz, H⟩ := hrel
                            have hci := HCI.out _ _ H
                            obtain ⟨gl', hgl, e0, e1, e2⟩ := HOA2.out _ _ H
                            cases hgl
                            by_cases hb : b < o.span
                            · have hd : decide ((b : Int) < (o.span : Int)) = true := by simp; omega
                              have hpl : (106 + 8 * (o.block + b)) < cur.length := by rw [HCL.out]; omega
                              have hnz : Zeroed cur (cu.set (106 + 8 * (o.block + b)) 0) (fun q => ((rootZ cur l 4 q ∨ ptrZ cur l l.length q) ∨ leakZ cur l i q) ∨ leakZ1 o (b + 1) q) := (hz.set hpl).congr (fun q => by rw [or_assoc]; exact or_congr Iff.rfl (leakZ1_succ q))
                              have hcw := H.mem.cell (106 + 8 * (o.block + b)) (by omega)
                              have hfz := H.mem.free (106 + 8 * (o.block + b))
                              have hput := H.put (106 + 8 * (o.block + b)) 0
                              clear hz H
                              go_wp2
                              go_roundg (o.span - (b + 1))
                              case measure => omega
                              case rel => exact ⟨b + 1, _, by omega, rfl, by go_num, hnz, hput⟩
                            · have hd : decide ((b : Int) < (o.span : Int)) = false := by simp; omega
                              obtain rfl : b = o.span := by omega
                              have hnx : Zeroed cur cu (fun q => (rootZ cur l 4 q ∨ ptrZ cur l l.length q) ∨ leakZ cur l (i + 1) q) := hz.congr (fun q => by rw [or_assoc]; exact or_congr Iff.rfl (HSP.out HR.out q))
                              clear hz
                              go_wp2
                              go_roundg (l.length - (i + 1))
                              case measure => omega
                              case rel => exact ⟨i + 1, cu, by omega, rfl, by go_num, hnx, H⟩
                        · have hnx : Zeroed cur cu (fun q => (rootZ cur l 4 q ∨ ptrZ cur l l.length q) ∨ leakZ cur l (i + 1) q) := hz.congr (fun q => or_congr Iff.rfl (leakZ_no ((HRE.out i).1 ((List.getElem?_eq_getElem hio).trans (by rw [hoi]))) q))
                          have HCI : Hid (∀ W, Hold w g c ws.length cu (.slice (some ⟨gl, 0, none⟩) l.length cv) l gb out W → W.cell? ⟨gb, i, none⟩ = some (.bool true)) := fun W h => (h.marks.cell i hio).trans (by rw [hoi])
                          clear hoi hz
                          go_wp2
                          go_loopg [19] 0 (fun gh t wr => gh = 0 ∧ t = .int .i64 0 ∧ Hold w g c ws.length cu (.slice (some ⟨gl, 0, none⟩) l.length cv) l gb out wr)
                          case atStart => exact ⟨rfl, rfl, H⟩
                          case round =>
                            clear H
                            obtain ⟨rfl, rfl, H⟩ := hrel
                            have hci := HCI.out _ H
                            go_wp2
                            go_roundg (l.length - (i + 1))
                            case measure => omega
                            case rel => exact ⟨i + 1, cu, by omega, rfl, by go_num, hnx, H⟩
                      · obtain rfl : i = l.length := by omega
                        have HSE : Hid (Calls Tryz.prog 131 #[.slice (some ⟨g, 0, none⟩) ws.length c] wr fun e w' => e = .returned (.tuple #[]) ∧ w' = wr.setCell ⟨g, 7, none⟩ (.int .u64 (sumL (cu.take 7)))) := seal_mem H.mem (by omega) hm
                        have M7 := H.mem.put 7 (sumL (cu.take 7))
                        have HT : Hid (RepairIs ws (cu.set 7 (sumL (cu.take 7))) 0) := .inr ⟨HN0.out, .inr ⟨HHO.out, rfl, cur, cu, by rw [← HS1.out]; exact HZ1.out, by rw [← HLl.out]; exact hz, rfl⟩⟩
                        clear hz H
                        go_wp2_with (go_at_call 131; refine HSE.out.mono ?_; rintro e w7 ⟨rfl, rfl⟩)
                        go_ret2
                        exact ⟨_, _, 0, rfl, HT.out, by unfold Own; rw [M7.len]; exact M7.own, M7.fr⟩
end Go.Proofs.YtbagcjlimdilpaaGreat
