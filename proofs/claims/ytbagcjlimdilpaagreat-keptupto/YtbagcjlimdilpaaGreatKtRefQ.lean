/- The walk of the document's Open. -/
import Derived.Test.YtbagcjlimdilpaaGreatKtJ8
import Derived.Deep.RegionHeld3
import Derived.Deep.CutRange
namespace Go.Proofs.YtbagcjlimdilpaaGreat
open Go.RowKit

theorem Opening.flush {w : World} {hb gw cw L : Nat} {vs : Value} {cur : List Int} {st : List St} {wr : World} (h : Opening w hb gw cw L vs cur st wr) (hl : st.length ≤ 1048576) :
    Calls Tryz.prog 133 #[.pointer (some ⟨hb, 0, none⟩)] wr fun e w' => e = .returned (.tuple #[]) ∧ ∃ vs', Opening w hb gw cw L vs' cur (st ++ [⟨2, 0, 0⟩]) w' := by
  refine (flush_any hb gw cw L _ vs cur st wr h.g hl).mono ?_
  rintro e w' ⟨rfl, vs', h1, h2, h3⟩
  exact ⟨rfl, vs', h.next h1 h2 h3⟩
theorem Opening.put {w : World} {hb gw cw L : Nat} {vs : Value} {cur : List Int} {st : List St} {wr : World} (h : Opening w hb gw cw L vs cur st wr) (hl : st.length ≤ 1048576) (q : Nat) (y : Int) (hq : q < L) :
    Calls Tryz.prog 132 #[.pointer (some ⟨hb, 0, none⟩), .int .i64 q, .int .u64 y] wr fun e w' => e = .returned (.tuple #[]) ∧ ∃ vs', Opening w hb gw cw L vs' (cur.set q y) (st ++ [⟨1, q, y⟩]) w' := by
  refine (put_doc hb gw cw L _ vs cur st q y wr h.g hq hl).mono ?_
  rintro e w' ⟨rfl, vs', h1, h2, h3⟩
  exact ⟨rfl, vs', h.next h1 h2 h3⟩
theorem Opening.check {w : World} {hb gw cw L : Nat} {vs : Value} {cur : List Int} {st : List St} {wr : World} (h : Opening w hb gw cw L vs cur st wr) (hl : L ≤ 1048576) :
    Calls Tryz.prog 123 #[.slice (some ⟨gw, 0, none⟩) L cw] wr fun e w' => ∃ c p, e = .returned (.tuple #[.int .i64 c, .int .i64 p]) ∧ CheckIs cur c p ∧ Opening w hb gw cw L vs cur st w' := by
  have hc : L ≤ cw := by
    rcases h.g.ownw.2 with ⟨hv, _⟩ | ⟨g', cap, cu, hv, _, _, hle, _⟩
    · cases hv
    · cases hv; exact hle
  have := check_any (some ⟨gw, 0, none⟩) cw cur wr (by rw [h.g.lenw]; exact hl) (by rw [h.g.lenw]; exact hc) h.g.rowU
  rw [h.g.lenw] at this
  refine this.mono ?_
  rintro e w' ⟨c, p, rfl, h1, h2⟩
  exact ⟨c, p, rfl, h1, h.grow h2⟩
/-- the end: the words, and the words as they are now -/
def Opened (w : World) (hb gw cw L : Nat) (vs : Value) (cur : List Int) (st : List St) (w' : World) : Prop := ∃ gn cn, RHG hb gw cw L (.slice (some ⟨gn, 0, none⟩) L cn) vs cur st w' ∧ w'.ownsRow 0 50 1 (.slice (some ⟨gn, 0, none⟩) L cn) L (cur.map (Value.int .u64)) ∧ gw ≠ gn ∧ w.heap.size ≤ gn ∧ Fr New w w'
theorem Opening.rollback {w : World} {hb gw cw L : Nat} {vs : Value} {cur : List Int} {st : List St} {wr : World} (h : Opening w hb gw cw L vs cur st wr) :
    Calls Tryz.prog 85 #[.pointer (some ⟨hb, 0, none⟩)] wr fun e w' => e = .returned (.tuple #[]) ∧ Opened w hb gw cw L vs cur st w' := by
  refine (rollback_any hb gw cw L _ vs cur st wr h.g).mono ?_
  rintro e w' ⟨rfl, gn, cn, h0, h1, h2, h3⟩
  refine ⟨rfl, gn, cn, h1, h2, ?_, Nat.le_trans h.fr.size h0, h.fr.trans h3 (fun j hj ht => ?_)⟩
  · have := h.words.2.2; omega
  · have := h.b; omega

set_option maxHeartbeats 4000000 in
set_option maxRecDepth 100000 in
theorem open_doc (a : Option Addr) (cap : Nat) (ws : List Int) (w : World) (hm : ws.length ≤ 1048576) (hU : ∀ z ∈ ws, U z) (hr : RowU w a ws) :
    Calls Tryz.prog 125 #[.slice a ws.length cap] w fun e w' => Fr New w w' ∧ ((∃ c, e = .returned (.tuple #[.pointer none, .int .i64 c]) ∧ OpenErr ws c) ∨
      (OpenOk ws ∧ ∃ hb gw cw gn cn vs, e = .returned (.tuple #[.pointer (some ⟨hb, 0, none⟩), .int .i64 0]) ∧ RHG hb gw cw ws.length (.slice (some ⟨gn, 0, none⟩) ws.length cn) vs (openW ws) (openSt ws) w' ∧
        w'.ownsRow 0 50 1 (.slice (some ⟨gn, 0, none⟩) ws.length cn) ws.length ((openW ws).map (Value.int .u64)) ∧ gw ≠ gn ∧ w.heap.size ≤ hb ∧ w.heap.size ≤ gw ∧ w.heap.size ≤ gn ∧ ∀ k, vs.ownBlock = some k → w.heap.size ≤ k)) := by
  have HB : Hid (Calls Tryz.prog 127 #[.int .i64 ws.length] w fun e w' => e = .returned (.int .i64 (nblk ws.length)) ∧ w' = w) := blocks_any _ w (by omega)
  by_cases hn : nblk ws.length = 0
  · have HT : Hid (OpenErr ws 2) := .inl ⟨hn, rfl⟩
    rw [hn] at HB
    clear hn hr
    go_enter Tryz.func125, Tryz.ntmps125
    go_wp2_with (go_at_call 127; refine calls_same HB.out ?_)
    go_ret2
    exact ⟨Fr.refl _ _, .inl ⟨2, rfl, HT.out⟩⟩
  obtain ⟨hlen, hn1, hn2⟩ := nblk_some hn
  obtain ⟨sb, so, rfl, hsb, _⟩ := rowU_plain hr (by omega)
  obtain ⟨i0, hi0, hz0, hz1, hz2⟩ := info_parts Tryz.info50
  have HRW : Hid (RowU w (some ⟨sb, so, none⟩) ws) := hr
  have HCM : Hid (∀ (w2 : World) (g c : Nat), w2.ownsRow w.heap.size 50 1 (.slice (some ⟨g, 0, none⟩) (0 + ws.length) c) (0 + ws.length) ([] ++ ws.map (Value.int .u64)) → (w.alloc (.cells #[] 50)).grownBy w2 (Value.slice (some ⟨w.heap.size, 0, none⟩) 0 0).ownBlock → Mem2 w g c ws.length ws w2) := fun w2 g c h1 h2 => copy_mem h1 h2
  have HAS : Hid (∀ g c w2, RowU w2 (some ⟨g, 0, none⟩) ws → Calls Tryz.prog 150 #[.slice (some ⟨g, 0, none⟩) ws.length c] w2 fun e w' => e = .returned (.tuple #[.int .i64 (asksS ws).1, .bool (asksS ws).2]) ∧ Fr New w2 w') := fun g c w2 hr => asks_any _ c ws w2 (by omega) (by omega) hU hr
  have HN : Hid (nblk ws.length ≠ 0) := hn
  have HUU : Hid (∀ z ∈ ws, U z) := hU
  have hk48 := asks_le ws
  have HOK : Hid (∀ i, i < (asksS ws).1 → okAt ws.length (wd ws (10 + 2 * i)) = true) := fun i hi => asks_ok hi
  obtain ⟨L, hL⟩ : ∃ L, L = ws.length := ⟨_, rfl⟩
  have HL : Hid (L = ws.length) := hL
  have hL1 : 114 ≤ L := by omega
  have hL2 : L ≤ 362 := by omega
  obtain ⟨n, hnn⟩ : ∃ n, n = nblk ws.length := ⟨_, rfl⟩
  rw [← hnn] at HB hn1 hn2
  obtain ⟨k, hkk⟩ : ∃ k, k = (asksS ws).1 := ⟨_, rfl⟩
  obtain ⟨ok, hok⟩ : ∃ ok, ok = (asksS ws).2 := ⟨_, rfl⟩
  have HKO : Hid (k = (asksS ws).1 ∧ ok = (asksS ws).2) := ⟨hkk, hok⟩
  rw [← hL] at HB HCM HAS HOK ⊢
  rw [← hkk] at hk48 HAS HOK
  rw [← hok] at HAS
  have hnz : ((n : Int) == 0) = false := by simp; omega
  clear hlen hn hr hU hL hnn hkk hok
  go_enter Tryz.func125, Tryz.ntmps125
  go_upto_region 5 with (first
    | (go_at_call 127; refine calls_same HB.out ?_)
    | (at_builtin; refine wpList_append_lies _ rfl (.tmp 16) (.tmp 17) 43 rfl w.heap.size 50 i0 (.int .u64 0) 1 8 Tryz.underlying43 hi0 hz0 hz1 hz2 rfl (by decide) _ _ _ rfl (emptyU w) ⟨sb, so, none⟩ L cap (ws.map (Value.int .u64)) rfl (by simp [HL.out]) (copy_news HRW.out _) (ints_oneU ws) (by omega) (by unfold maxLen; omega) (by omega) (by simp) _ rfl ?_; intro gw cw w2 hown2 hg2 _ _; have M2 : Mem2 w gw cw L ws w2 := HCM.out w2 gw cw hown2 hg2; clear hown2 hg2)
    | fail)
  have HO0 : Hid (Opening w w2.heap.size gw cw L (.slice none 0 0) ws [] (w2.alloc (.cells #[.slice (some ⟨gw, 0, none⟩) L cw, .slice none 0 0, .slice none 0 0] 141))) :=
    have hf : Fr New w2 (w2.alloc (.cells #[.slice (some ⟨gw, 0, none⟩) L cw, .slice none 0 0, .slice none 0 0] 141)) := (Fr.refl _ _).alloc _
    ⟨⟨Go.Deep.blk_alloc_new w2 _, hf.owns (own_zero M2.own) (fun _ _ h => h), World.ownsRow_nil _ _ _ _, M2.len, by rw [HL.out]; exact HN.out⟩, M2.fr.same hf, fun k hk => by simp [Value.ownBlock] at hk, M2.fr.size, M2.base⟩
  have hw0 := HO0.out.words.1
  have hwb := HO0.out.words.2.1
  have hrow : RowU _ _ _ := HO0.out.g.rowU
  have HRO : Hid (RowU (w2.alloc (.cells #[.slice (some ⟨gw, 0, none⟩) L cw, .slice none 0 0, .slice none 0 0] 141)) (some ⟨gw, 0, none⟩) ws) := hrow
  obtain ⟨hb, hhb⟩ : ∃ hb, hb = w2.heap.size := ⟨_, rfl⟩
  rw [← hhb] at HO0 hw0 hwb ⊢
  clear hrow
  generalize (w2.alloc (.cells #[.slice (some ⟨gw, 0, none⟩) L cw, .slice none 0 0, .slice none 0 0] 141)) = w3 at HO0 hw0 hwb HRO ⊢
  clear M2 hhb
  cases ok with
  | false =>
    have HT : Hid (OpenErr ws 4) := .inr ⟨HN.out, .inl ⟨HKO.out.2.symm, rfl⟩⟩
    go_wp2_with (go_at_call 150; refine (HAS.out gw cw w3 HRO.out).mono ?_; rintro e w4 ⟨rfl, hf4⟩)
    go_ret2
    exact ⟨(HO0.out.grow hf4).fr, .inl ⟨4, rfl, HT.out⟩⟩
  | true =>
    go_upto_if 32 with (go_at_call 150; refine (HAS.out gw cw w3 HRO.out).mono ?_; rintro e w4 ⟨rfl, hf4⟩)
    have HO1 : Hid (Opening w hb gw cw L (.slice none 0 0) ws [] w4) := HO0.out.grow hf4
    clear HO0 hw0 hwb hf4 HAS HRO
    go_cut [8] from 32 to 64 (fun _ wx => ∃ vs, Opening w hb gw cw L vs (openW ws) (openSt ws) wx)
    case first =>
      rcases Nat.eq_zero_or_pos k with rfl | hk
      · go_wp2_with fail
        go_meet
        case rel => exact ⟨_, by unfold openW openSt; rw [← HKO.out.1]; exact HO1.out⟩
      · have hdk : decide ((0 : Int) < (k : Int)) = true := by simpa using hk
        rw [show decide (0 < k) = true by simpa using hk]
        have HEN : Hid (openW ws = (doneS ws k).set 8 0 ∧ openSt ws = putsS ws k ++ [⟨2, 0, 0⟩] ++ [⟨1, ((8 : Nat) : Int), 0⟩] ++ [⟨2, 0, 0⟩]) := by
          unfold openW openSt
          rw [← HKO.out.1, if_neg (by omega), if_neg (by omega)]
          exact ⟨rfl, rfl⟩
        go_wp2_with fail
        go_loopg [8] k (fun gh t wr => ∃ (i : Nat) (vs : Value), i ≤ k ∧ gh = k - i ∧ t = .int .i64 i ∧ Opening w hb gw cw L vs (doneS ws i) (putsS ws i) wr)
        case atStart => exact ⟨0, _, by omega, rfl, rfl, HO1.out⟩
        case round =>
          clear HO1
          obtain ⟨i, vs, hik, rfl, rfl, hop⟩ := hrel
          have hw0 := hop.words.1
          have hwb := hop.words.2.1
          have hwg := hop.words.2.2
          by_cases hi : i < k
          · have hd : decide ((i : Int) < (k : Int)) = true := by simpa using hi
            have hca := hop.cell (10 + 2 * i) (by omega)
            have hcb := hop.cell (11 + 2 * i) (by omega)
            have hlg : ∀ j q, j ≤ k → 8 ≤ q → q < 106 → wd (doneS ws j) q = wd ws q := fun j q hj h8 h106 => doneS_log HUU.out (fun j' hj' => by rw [← HL.out]; exact HOK.out j' (by omega)) h8 h106
            rw [hlg i _ (by omega) (by omega) (by omega)] at hca hcb
            have hoa := HOK.out i hi
            have hxU := wd_U HUU.out (10 + 2 * i)
            have HNX : Hid (∀ W', Fr New wr W' → ∀ q : Nat, (q : Int) = wd ws (10 + 2 * i) → q < L → Calls Tryz.prog 132 #[.pointer (some ⟨hb, 0, none⟩), .int .i64 q, .int .u64 (wd ws (11 + 2 * i))] W' fun e w' => e = .returned (.tuple #[]) ∧ ∃ vs', Opening w hb gw cw L vs' (doneS ws (i + 1)) (putsS ws (i + 1)) w' ∧ w'.cell? ⟨gw, 10 + 2 * i, none⟩ = some (.int .u64 (wd ws (10 + 2 * i))) ∧ w'.cell? ⟨gw, 11 + 2 * i, none⟩ = some (.int .u64 (wd ws (11 + 2 * i))) ∧ w'.cell? ⟨hb, 0, none⟩ = some (.slice (some ⟨gw, 0, none⟩) L cw)) := fun W' hf q hq hql => by
              refine ((hop.grow hf).put (by rw [putsS_len]; omega) q (wd ws (11 + 2 * i)) hql).mono ?_
              rintro e w' ⟨rfl, vs', h'⟩
              have e1 : (doneS ws i).set q (wd ws (11 + 2 * i)) = doneS ws (i + 1) := by
                show _ = (doneS ws i).set (wd ws (10 + 2 * i)).toNat (wd ws (11 + 2 * i))
                rw [← hq, Int.toNat_natCast]
              rw [e1, hq, ← putsS_succ] at h'
              refine ⟨rfl, vs', h', ?_, ?_, h'.words.1⟩
              · rw [h'.cell _ (by omega), hlg (i + 1) _ (by omega) (by omega) (by omega)]
              · rw [h'.cell _ (by omega), hlg (i + 1) _ (by omega) (by omega) (by omega)]
            obtain ⟨x, hx⟩ : ∃ x, x = wd ws (10 + 2 * i) := ⟨_, rfl⟩
            obtain ⟨y, hy⟩ : ∃ y, y = wd ws (11 + 2 * i) := ⟨_, rfl⟩
            rw [← hx] at hca hoa hxU HNX
            rw [← hy] at hcb HNX
            obtain ⟨hxl, hx8⟩ := okAt_iff.1 hoa
            obtain ⟨q, rfl⟩ := Int.eq_ofNat_of_zero_le hxU.1
            have HPU : Hid (∀ W', Fr New wr W' → Calls Tryz.prog 132 #[.pointer (some ⟨hb, 0, none⟩), .int .i64 q, .int .u64 y] W' fun e w' => e = .returned (.tuple #[]) ∧ ∃ vs', Opening w hb gw cw L vs' (doneS ws (i + 1)) (putsS ws (i + 1)) w' ∧ w'.cell? ⟨gw, 10 + 2 * i, none⟩ = some (.int .u64 q) ∧ w'.cell? ⟨gw, 11 + 2 * i, none⟩ = some (.int .u64 y) ∧ w'.cell? ⟨hb, 0, none⟩ = some (.slice (some ⟨gw, 0, none⟩) L cw)) := fun W' hf => HNX.out W' hf q rfl (by omega)
            have hq0 : (0 : Int) ≤ (q : Int) := by omega
            have hq1 : (q : Int) < (L : Int) := by omega
            have hv1 : IntKind.i64.wrap (2 * (i : Int)) = 2 * (i : Int) := by rw [IntKind.wrap_i64]; omega
            have hv2 : IntKind.i64.wrap (10 + 2 * (i : Int)) = 10 + 2 * (i : Int) := by rw [IntKind.wrap_i64]; omega
            have hv3 : IntKind.i64.wrap (11 + 2 * (i : Int)) = 11 + 2 * (i : Int) := by rw [IntKind.wrap_i64]; omega
            have hv4 : (10 + 2 * (i : Int)).toNat = 10 + 2 * i := by omega
            have hv5 : (11 + 2 * (i : Int)).toNat = 11 + 2 * i := by omega
            have hv6 : (0 : Int) ≤ 10 + 2 * (i : Int) := by omega
            have hv7 : (0 : Int) ≤ 11 + 2 * (i : Int) := by omega
            have hv8 : 10 + 2 * (i : Int) < (L : Int) := by omega
            have hv9 : 11 + 2 * (i : Int) < (L : Int) := by omega
            have hvq : IntKind.i64.wrap (q : Int) = (q : Int) := by rw [IntKind.wrap_i64]; omega
            clear hx hy hoa hx8 hxU hop hlg HNX
            go_upto_region 12 with fail
            go_region_held3 (fun w' => w'.cell? ⟨hb, 0, none⟩ = some (.slice (some ⟨gw, 0, none⟩) L cw) ∧ w'.cell? ⟨gw, 10 + 2 * i, none⟩ = some (.int .u64 q) ∧ w'.cell? ⟨gw, 11 + 2 * i, none⟩ = some (.int .u64 y)) (first | go_keep | exact hkeep2)
              (first
                | (go_at_call 132; refine (HPU.out _ (by first | exact (Fr.refl New wr).drew | exact Fr.refl New wr)).mono ?_; rintro e w7 ⟨rfl, vs7, hop7, hk71, hk72, hk70⟩; have hkeep2 : w7.cell? ⟨hb, 0, none⟩ = some (.slice (some ⟨gw, 0, none⟩) L cw) ∧ w7.cell? ⟨gw, 10 + 2 * i, none⟩ = some (.int .u64 q) ∧ w7.cell? ⟨gw, 11 + 2 * i, none⟩ = some (.int .u64 y) := ⟨hk70, hk71, hk72⟩))
            all_goals
              go_wp2_with fail
              go_roundg (k - (i + 1))
              case measure => omega
              case rel => exact ⟨i + 1, _, by omega, rfl, by go_num, hop7⟩
          · obtain rfl : i = k := by omega
            have HF1 : Hid (Calls Tryz.prog 133 #[.pointer (some ⟨hb, 0, none⟩)] wr fun e w' => e = .returned (.tuple #[]) ∧ ∃ vs', Opening w hb gw cw L vs' (doneS ws i) (putsS ws i ++ [⟨2, 0, 0⟩]) w') := hop.flush (by rw [putsS_len]; omega)
            have HF2 : Hid (∀ vs' w', Opening w hb gw cw L vs' (doneS ws i) (putsS ws i ++ [⟨2, 0, 0⟩]) w' → Calls Tryz.prog 132 #[.pointer (some ⟨hb, 0, none⟩), .int .i64 ((8 : Nat) : Int), .int .u64 0] w' fun e w' => e = .returned (.tuple #[]) ∧ ∃ vs', Opening w hb gw cw L vs' ((doneS ws i).set 8 0) (putsS ws i ++ [⟨2, 0, 0⟩] ++ [⟨1, ((8 : Nat) : Int), 0⟩]) w') := fun vs' w' h' => h'.put (by simp [putsS_len]; omega) 8 0 (by omega)
            have HF3 : Hid (∀ vs' w', Opening w hb gw cw L vs' ((doneS ws i).set 8 0) (putsS ws i ++ [⟨2, 0, 0⟩] ++ [⟨1, ((8 : Nat) : Int), 0⟩]) w' → Calls Tryz.prog 133 #[.pointer (some ⟨hb, 0, none⟩)] w' fun e w' => e = .returned (.tuple #[]) ∧ ∃ vs', Opening w hb gw cw L vs' (openW ws) (openSt ws) w') := fun vs' w' h' => by
              rw [HEN.out.1, HEN.out.2]
              exact h'.flush (by simp [putsS_len]; omega)
            clear hop
            go_wp2_with (first
              | (go_at_call 133; refine HF1.out.mono ?_; rintro e w5 ⟨rfl, vs5, h5⟩)
              | (go_at_call 132; refine (HF2.out vs5 w5 h5).mono ?_; rintro e w6 ⟨rfl, vs6, h6⟩)
              | (go_at_call 133; refine (HF3.out vs6 w6 h6).mono ?_; rintro e w7 ⟨rfl, vs7, h7⟩)
              | fail)
            go_meet
            case rel => exact ⟨vs7, h7⟩
    case rest =>
      obtain ⟨vs, hop⟩ := hcut
      have HCK : Hid (Calls Tryz.prog 123 #[.slice (some ⟨gw, 0, none⟩) L cw] wc fun e w' => ∃ c p, e = .returned (.tuple #[.int .i64 c, .int .i64 p]) ∧ CheckIs (openW ws) c p ∧ Opening w hb gw cw L vs (openW ws) (openSt ws) w') := hop.check (by omega)
      have hw0 := hop.words.1
      have hwb := hop.words.2.1
      clear hop
      go_upto_region 17 with (go_at_call 123; refine HCK.out.mono ?_; rintro e w5 ⟨c, p, rfl, hch, hop5⟩)
      have HCH : Hid (CheckIs (openW ws) c p) := hch
      have HRB : Hid (Calls Tryz.prog 85 #[.pointer (some ⟨hb, 0, none⟩)] w5 fun e w' => e = .returned (.tuple #[]) ∧ Opened w hb gw cw L vs (openW ws) (openSt ws) w') := hop5.rollback
      have HF5 : Hid (Fr New w w5) := hop5.fr
      have HBS : Hid (w.heap.size ≤ hb ∧ w.heap.size ≤ gw ∧ ∀ k, vs.ownBlock = some k → w.heap.size ≤ k) := ⟨hop5.b, hop5.w', hop5.v⟩
      clear hch hop5 HCK
      by_cases hc0 : c = 0
      · subst hc0
        have HT : Hid (OpenOk ws) := ⟨HN.out, HKO.out.2.symm, 0, p, HCH.out, .inl rfl⟩
        go_wp2_with (go_at_call 85; refine HRB.out.mono ?_; rintro e w6 ⟨rfl, hod⟩)
        go_ret2
        obtain ⟨gn, cn, h1, h2, h3, h4, h5⟩ := hod
        exact ⟨h5, .inr ⟨HT.out, hb, gw, cw, gn, cn, vs, rfl, h1, h2, h3, HBS.out.1, HBS.out.2.1, h4, HBS.out.2.2⟩⟩
      · have hd0 : (c != 0) = true := by simpa using hc0
        by_cases hc8 : c = 8
        · subst hc8
          have HT : Hid (OpenOk ws) := ⟨HN.out, HKO.out.2.symm, 8, p, HCH.out, .inr rfl⟩
          go_wp2_with (go_at_call 85; refine HRB.out.mono ?_; rintro e w6 ⟨rfl, hod⟩)
          go_ret2
          obtain ⟨gn, cn, h1, h2, h3, h4, h5⟩ := hod
          exact ⟨h5, .inr ⟨HT.out, hb, gw, cw, gn, cn, vs, rfl, h1, h2, h3, HBS.out.1, HBS.out.2.1, h4, HBS.out.2.2⟩⟩
        · have hd8 : (c != 8) = true := by simpa using hc8
          have HT : Hid (OpenErr ws c) := .inr ⟨HN.out, .inr ⟨HKO.out.2.symm, hc0, hc8, p, HCH.out⟩⟩
          go_wp2_with fail
          go_ret2
          exact ⟨HF5.out, .inl ⟨c, rfl, HT.out⟩⟩
end Go.Proofs.YtbagcjlimdilpaaGreat
