/- Texts that follow one another, joined. -/
import Derived.Test.YtbagcjlimdilpaaGreatKtJ8
import Derived.Test.YtbagcjlimdilpaaGreatKtJ2
/- The walk of the program's Walk with Room's closure, and of Room. -/
namespace Go.Proofs.YtbagcjlimdilpaaGreat
open Go.RowKit Go.Maps

theorem roomF_end {ws : List Int} {s n b : Nat} (r : RoomS) (h : ¬ b < n) : ∀ f, roomF ws s n f b r = r := by
  intro f
  cases f with
  | zero => rfl
  | succ f => rw [roomF, if_neg h]
theorem roomF_fuel {ws : List Int} {s n : Nat} : ∀ (f f' b : Nat) (r : RoomS), n - b ≤ f → n - b ≤ f' → roomF ws s n f b r = roomF ws s n f' b r := by
  intro f
  induction f with
  | zero => intro f' b r h1 h2; rw [roomF_end r (by omega), roomF_end r (by omega)]
  | succ f ih =>
    intro f' b r h1 h2
    by_cases hb : b < n
    · cases f' with
      | zero => omega
      | succ f' =>
        rw [roomF, roomF, if_pos hb, if_pos hb]
        rcases hs : slotAt ws b with _ | _ | o
        · exact ih f' (b + 1) _ (by omega) (by omega)
        · exact ih f' (b + 1) _ (by omega) (by omega)
        · have := (slot_obs hs).2.1
          exact ih f' (b + o.span) _ (by omega) (by omega)
    · rw [roomF_end r hb, roomF_end r hb]
/-- what the search finds -/
def roomS (ws : List Int) (s n b : Nat) (r : RoomS) : RoomS := roomF ws s n (n - b) b r
theorem room_step_free {ws : List Int} {s n b : Nat} (r : RoomS) (hb : b < n) (hs : slotAt ws b = none) : roomS ws s n b r = roomS ws s n (b + 1) (r.free1 s b) := by
  unfold roomS
  rw [show n - b = n - (b + 1) + 1 by omega, roomF, if_pos hb, hs]
theorem room_step_bad {ws : List Int} {s n b : Nat} (r : RoomS) (hb : b < n) (hs : slotAt ws b = some none) : roomS ws s n b r = roomS ws s n (b + 1) r.other := by
  unfold roomS
  rw [show n - b = n - (b + 1) + 1 by omega, roomF, if_pos hb, hs]
theorem room_step_ob {ws : List Int} {s n b : Nat} {o : Ob} (r : RoomS) (hb : b < n) (hs : slotAt ws b = some (some o)) : roomS ws s n b r = roomS ws s n (b + o.span) r.other := by
  unfold roomS
  rw [show n - b = n - (b + 1) + 1 by omega, roomF, if_pos hb, hs]
  have := (slot_obs hs).2.1
  exact roomF_fuel _ _ _ _ (by omega) (by omega)
theorem room_end {ws : List Int} {s n b : Nat} (r : RoomS) (h : ¬ b < n) : roomS ws s n b r = r := roomF_end r h _

/-- what the walk keeps -/
structure Walk4 (w0 : World) (ws : List Int) (s n b : Nat) (wr : World) : Prop where
  r : ∃ r, RoomAt w0 s r wr ∧ roomS ws s n 0 ⟨0, none⟩ = roomS ws s n b r ∧ r.free ≤ b
set_option maxHeartbeats 2000000 in
set_option maxRecDepth 100000 in
theorem walk4_any (w0 : World) (t : Nat) (x : Value) (fL fR : Nat) (y : Value) (L n s : Nat) (ws : List Int) (w : World) (hL : ws.length = L) (hn : L = 106 + 8 * n) (hn32 : n ≤ 32) (hs1 : 1 ≤ s) (hs4 : s ≤ 4) (hrow : RowAt w0 t x fL fR y ws) (hW : RoomAt w0 s ⟨0, none⟩ w) :
    Calls Tryz.prog 115 #[.iface t x, .func (.func 116) #[] #[.pointer (some ⟨w0.heap.size + 3, 0, none⟩), .pointer (some ⟨w0.heap.size, 0, none⟩), .pointer (some ⟨w0.heap.size + 2, 0, none⟩), .pointer (some ⟨w0.heap.size + 1, 0, none⟩)]] w fun e w' => e = .returned (.tuple #[]) ∧ RoomAt w0 s (roomS ws s n 0 ⟨0, none⟩) w' := by
  have HB : Hid (∀ w, Calls Tryz.prog 95 #[.int .i64 (L : Int)] w fun e w' => e = .returned (.int .i64 (n : Int)) ∧ w' = w) := fun w => by
    have := lblocks_any L w (by omega) (by omega)
    rwa [show (L - 106) / 8 = n by omega] at this
  have HF : Hid (∀ b, b < n → ∀ wr, Fr New w0 wr → Calls Tryz.prog 148 #[Value.iface t x, .int .i64 ((b + 1 : Nat) : Int), .int .i64 (n : Int)] wr fun e w' => e = .returned (slotV (slotAt ws b) b) ∧ Fr New wr w') := fun b hb wr hf => find_thing t x fL fR y L n b ws wr hL hn hn32 hb (hrow.grow hf)
  have HL : Hid (ws.length = 106 + 8 * n) := hL.trans hn
  have hm := hrow.mlen w hW.nw
  have hcf := hrow.clen
  have HLN : Hid (Calls Tryz.prog fL #[y] w fun e w'' => e = .returned (.int .i64 L) ∧ w'' = w) := by rw [← hL]; exact hrow.len w hW.nw
  have hL1 : L ≤ 362 := by omega
  clear hL hn hrow
  go_enter Tryz.func115, Tryz.ntmps115
  go_wp2_with (first
    | (go_at_call 95; refine calls_same (HB.out _) ?_)
    | (refine calls_same HLN.out ?_))
  go_loopg [5] n (fun gh t wr => ∃ b, b ≤ n ∧ gh = n - b ∧ t = .int .i64 ((b + 1 : Nat) : Int) ∧ Walk4 w0 ws s n b wr)
  case atStart => exact ⟨0, by omega, rfl, rfl, ⟨_, hW, rfl, Nat.le_refl _⟩⟩
  case round =>
    clear hW hm
    obtain ⟨b, hbn, rfl, rfl, ⟨r, hR, hall, hfb⟩⟩ := hrel
    obtain ⟨B, hB⟩ : ∃ B : Nat, B = b + 1 := ⟨_, rfl⟩
    have hlt3 := lt_of_block hR.fr
    by_cases hb : b < n
    · have HO := HF.out b hb wr hR.nw
      have HO' : Hid (Calls Tryz.prog 148 #[Value.iface t x, .int .i64 (B : Int), .int .i64 (n : Int)] wr fun e w' => e = .returned (slotV (slotAt ws b) b) ∧ Fr New wr w') := by rw [hB]; exact HO
      clear HO
      rw [← hB]
      have HBB : Hid (B = b + 1) := hB
      have hBn : B ≤ n := by omega
      clear hB
      rcases hs : slotAt ws b with _ | _ | o
      · rw [hs] at HO'
        have HO2 : Hid (Calls Tryz.prog 148 #[Value.iface t x, .int .i64 (B : Int), .int .i64 (n : Int)] wr fun e w' => e = .returned (.agg #[.int .i64 0, .int .i64 B, .int .i64 1, .int .i64 0]) ∧ Fr New wr w') := by rw [HBB.out]; rw [HBB.out] at HO'; exact HO'.out
        have HT : Hid (∀ w1, Fr New wr w1 → Calls Tryz.prog 116 (roomCaps w0 (.agg #[.int .i64 0, .int .i64 (B : Int), .int .i64 1, .int .i64 0])) w1 fun e w' => e = .returned (.tuple #[]) ∧ Walk4 w0 ws s n (b + 1) w' ∧ Fr (TRoom w0) w1 w') := fun w1 hf => by
          rw [HBB.out]
          refine (room_free w0 s r b w1 (hR.grow hf) hs1 hs4 (by omega) hfb).mono ?_
          rintro e w' ⟨rfl, hR', hf'⟩
          exact ⟨rfl, ⟨_, hR', hall.trans (room_step_free r hb hs), by simp only [RoomS.free1]; omega⟩, hf'⟩
        clear hs HO' hall hR
        go_wp2_with (first
          | (go_at_call 148; refine HO2.out.mono ?_; rintro e w1 ⟨rfl, hf1⟩)
          | (go_at_call 116; refine (HT.out _ (hf1.alloc _)).mono ?_; rintro e w2 ⟨rfl, hw2, hk2⟩; obtain ⟨hct, hzt⟩ := block_cells (hk2.heap (k := w1.heap.size) (Go.Deep.blk_alloc_new w1 _) (by have := hf1.size; unfold TRoom; omega)))
          | fail)
        go_roundg (n - (b + 1))
        case measure => omega
        case rel => exact ⟨b + 1, by omega, rfl, by rw [HBB.out]; go_num, hw2⟩
      · rw [hs] at HO'
        have HO2 : Hid (Calls Tryz.prog 148 #[Value.iface t x, .int .i64 (B : Int), .int .i64 (n : Int)] wr fun e w' => e = .returned (.agg #[.int .i64 2, .int .i64 B, .int .i64 1, .int .i64 0]) ∧ Fr New wr w') := by rw [HBB.out]; rw [HBB.out] at HO'; exact HO'.out
        have HT : Hid (∀ w1, Fr New wr w1 → Calls Tryz.prog 116 (roomCaps w0 (.agg #[.int .i64 2, .int .i64 (B : Int), .int .i64 1, .int .i64 0])) w1 fun e w' => e = .returned (.tuple #[]) ∧ Walk4 w0 ws s n (b + 1) w' ∧ Fr (TRoom w0) w1 w') := fun w1 hf => by
          refine (room_other w0 s r 2 B 1 0 (by decide) w1 (hR.grow hf)).mono ?_
          rintro e w' ⟨rfl, hR', hf'⟩
          exact ⟨rfl, ⟨_, hR', hall.trans (room_step_bad r hb hs), by simp only [RoomS.other]; omega⟩, hf'⟩
        clear hs HO' hall hR
        go_wp2_with (first
          | (go_at_call 148; refine HO2.out.mono ?_; rintro e w1 ⟨rfl, hf1⟩)
          | (go_at_call 116; refine (HT.out _ (hf1.alloc _)).mono ?_; rintro e w2 ⟨rfl, hw2, hk2⟩; obtain ⟨hct, hzt⟩ := block_cells (hk2.heap (k := w1.heap.size) (Go.Deep.blk_alloc_new w1 _) (by have := hf1.size; unfold TRoom; omega)))
          | fail)
        go_roundg (n - (b + 1))
        case measure => omega
        case rel => exact ⟨b + 1, by omega, rfl, by rw [HBB.out]; go_num, hw2⟩
      · have hso := slot_obs hs
        rw [hs] at HO'
        obtain ⟨ob, osp, op⟩ := o
        obtain ⟨hob, hs1', hs4', hp, hle⟩ := hso
        simp only at hob hs1' hs4' hp hle
        obtain rfl : b = ob := hob.symm
        have hle' : b + osp ≤ n := by rw [HL.out] at hle; omega
        have HO2 : Hid (Calls Tryz.prog 148 #[Value.iface t x, .int .i64 (B : Int), .int .i64 (n : Int)] wr fun e w' => e = .returned (.agg #[.int .i64 1, .int .i64 B, .int .i64 osp, .int .i64 op]) ∧ Fr New wr w') := by rw [HBB.out]; rw [HBB.out] at HO'; exact HO'.out
        have HT : Hid (∀ w1, Fr New wr w1 → Calls Tryz.prog 116 (roomCaps w0 (.agg #[.int .i64 1, .int .i64 (B : Int), .int .i64 osp, .int .i64 op])) w1 fun e w' => e = .returned (.tuple #[]) ∧ Walk4 w0 ws s n (b + osp) w' ∧ Fr (TRoom w0) w1 w') := fun w1 hf => by
          refine (room_other w0 s r 1 B osp op (by decide) w1 (hR.grow hf)).mono ?_
          rintro e w' ⟨rfl, hR', hf'⟩
          exact ⟨rfl, ⟨_, hR', hall.trans (room_step_ob r hb hs), by simp only [RoomS.other]; omega⟩, hf'⟩
        clear hs HO' hall hR hle
        go_wp2_with (first
          | (go_at_call 148; refine HO2.out.mono ?_; rintro e w1 ⟨rfl, hf1⟩)
          | (go_at_call 116; refine (HT.out _ (hf1.alloc _)).mono ?_; rintro e w2 ⟨rfl, hw2, hk2⟩; obtain ⟨hct, hzt⟩ := block_cells (hk2.heap (k := w1.heap.size) (Go.Deep.blk_alloc_new w1 _) (by have := hf1.size; unfold TRoom; omega)))
          | fail)
        go_roundg (n - (b + osp))
        case measure => omega
        case rel => exact ⟨b + osp, by omega, rfl, by rw [HBB.out]; go_num, hw2⟩
    · have HE : Hid (roomS ws s n 0 ⟨0, none⟩ = r) := hall.trans (room_end r hb)
      have hBn : n < B := by omega
      rw [← hB]
      clear hall hB
      go_wp2
      go_end0
      rw [HE.out]
      exact ⟨rfl, hR⟩
/-- what Room tells -/
def roomV (o : Option Nat) : Value := .tuple #[.int .i64 (foundN o : Int), .bool o.isSome]
set_option maxHeartbeats 1000000 in
set_option maxRecDepth 100000 in
theorem room_row (t : Nat) (x : Value) (fL fR : Nat) (y : Value) (n s : Nat) (ws : List Int) (w : World) (hn : nblk ws.length = n) (hn0 : n ≠ 0) (hs1 : 1 ≤ s) (hs4 : s ≤ 4) (hrow : RowAt w t x fL fR y ws) :
    Calls Tryz.prog 68 #[.iface t x, .int .i64 (s : Int)] w fun e w' => e = .returned (roomV (roomS ws s n 0 ⟨0, none⟩).found) ∧ Fr New w w' := by
  obtain ⟨hlen, hn1, hn2⟩ := nblk_some (len := ws.length) (by omega)
  rw [hn] at hlen hn1 hn2
  have HWK : Hid (∀ W, RoomAt w s ⟨0, none⟩ W → Calls Tryz.prog 115 #[.iface t x, .func (.func 116) #[] #[.pointer (some ⟨w.heap.size + 3, 0, none⟩), .pointer (some ⟨w.heap.size, 0, none⟩), .pointer (some ⟨w.heap.size + 2, 0, none⟩), .pointer (some ⟨w.heap.size + 1, 0, none⟩)]] W fun e w' => e = .returned (.tuple #[]) ∧ RoomAt w s (roomS ws s n 0 ⟨0, none⟩) w') := fun W hW => walk4_any w t x fL fR y ws.length n s ws W rfl hlen hn2 hs1 hs4 hrow hW
  obtain ⟨R, hR⟩ : ∃ R, R = roomS ws s n 0 ⟨0, none⟩ := ⟨_, rfl⟩
  rw [← hR] at HWK ⊢
  have hmf : ∀ (fn : Fn) (first cap : Array Value) (w : World), (Instr.makeFunc fn first cap).run Tryz.prog w = .ok (.func fn first cap) w := fun _ _ _ _ => rfl
  have HS0 : Hid (RoomAt w s ⟨0, none⟩ ((((w.alloc (.cells #[.int .i64 (s : Int)] 3)).alloc (.cells #[.int .i64 0] 3)).alloc (.cells #[.bool false] 4)).alloc (.cells #[.int .i64 0] 3))) := by
    refine ⟨?_, ?_, ?_, ?_, (((Fr.refl _ _).alloc _).alloc _).alloc _ |>.alloc _⟩
    · rw [Go.Deep.blk_alloc_lt _ _ _ (by first | (simp; omega) | simp), Go.Deep.blk_alloc_lt _ _ _ (by first | (simp; omega) | simp), Go.Deep.blk_alloc_lt _ _ _ (by simp)]; exact Go.Deep.blk_alloc_new w _
    · rw [Go.Deep.blk_alloc_lt _ _ _ (by first | (simp; omega) | simp), Go.Deep.blk_alloc_lt _ _ _ (by simp)]; exact new_at2 w _ _
    · rw [Go.Deep.blk_alloc_lt _ _ _ (by simp)]; exact new_at _ _ _ (by simp)
    · exact new_at _ _ _ (by simp)
  clear hlen hn hn0 hrow hR
  go_enter Tryz.func68, Tryz.ntmps68
  go_upto_region 3 with (go_at_call 115; refine (HWK.out _ HS0.out).mono ?_; rintro e w1 ⟨rfl, hS⟩)
  have hb0 : w1.cell? ⟨w.heap.size + 1, 0, none⟩ = some (.int .i64 (foundN R.found : Int)) := ((block_cells hS.bl).1 0).trans rfl
  have hb1 : w1.cell? ⟨w.heap.size + 2, 0, none⟩ = some (.bool R.found.isSome) := ((block_cells hS.ok).1 0).trans rfl
  have z1 := (block_cells hS.bl).2 0
  have z2 := (block_cells hS.ok).2 0
  obtain ⟨a1, ha1⟩ : ∃ a, a = w.heap.size + 1 := ⟨_, rfl⟩
  obtain ⟨a2, ha2⟩ : ∃ a, a = w.heap.size + 2 := ⟨_, rfl⟩
  have n12 : ¬ a1 = a2 := by omega
  have n21 : ¬ a2 = a1 := by omega
  have hl3 := lt_of_block hS.fr
  have l1 : a1 < w1.heap.size := by omega
  have l2 : a2 < w1.heap.size := by omega
  have hF : ∀ u v : Value, Fr New w ((w1.setCell ⟨a1, 0, none⟩ u).setCell ⟨a2, 0, none⟩ v) := fun u v => (hS.nw.setCell (p := ⟨a1, 0, none⟩) (fun h => by simp only at h; omega) u).setCell (p := ⟨a2, 0, none⟩) (fun h => by simp only at h; omega) v
  rw [← ha1] at hb0 z1
  rw [← ha2] at hb1 z2
  rw [← ha1, show a1 + 1 = a2 by omega]
  clear ha1 ha2 hl3
  go_region
  all_goals (try go_wp2)
  all_goals exact bodyPost_ret (v := roomV R.found) (by simp [results, Tryz.results68, go_sem, roomV, hb0, hb1]) rfl ⟨rfl, by first | exact hF _ _ | exact (hF _ _).drew⟩
end Go.Proofs.YtbagcjlimdilpaaGreat
/- What Room finds, as mathematics. -/
namespace Go.Proofs.YtbagcjlimdilpaaGreat

/-- what the search knows, at block b -/
structure RoomInv (l : List Ob) (s b : Nat) (r : RoomS) : Prop where
  le : r.free ≤ b
  run : ∀ c, b - r.free ≤ c → c < b → ¬ Cov l c
  stop : r.free = b ∨ Cov l (b - r.free - 1)
  no : r.found = none → ∀ c, c + s ≤ b → ¬ RowFree l s c
  yes : ∀ c, r.found = some c → c + s ≤ b ∧ RowFree l s c ∧ ∀ c', c' < c → ¬ RowFree l s c'
/-- no object goes over b -/
def Edge (l : List Ob) (b : Nat) : Prop := ∀ o ∈ l, ¬ (o.block < b ∧ b < o.block + o.span)
theorem RoomInv.free1 {l : List Ob} {s b : Nat} {r : RoomS} (h : RoomInv l s b r) (_hs : 1 ≤ s) (hc : ¬ Cov l b) : RoomInv l s (b + 1) (r.free1 s b) := by
  obtain ⟨f, fd⟩ := r
  obtain ⟨h1, h2, h3, h4, h5⟩ := h
  simp only at h1 h2 h3 h4 h5
  unfold RoomS.free1
  refine ⟨by simp only; omega, fun c hc1 hc2 => ?_, ?_, ?_, ?_⟩
  · simp only at hc1
    by_cases hcb : c = b
    · subst hcb; exact hc
    · exact h2 c (by omega) (by omega)
  · simp only
    rcases h3 with h3 | h3
    · exact .inl (by omega)
    · exact .inr (by rw [show b + 1 - (f + 1) - 1 = b - f - 1 by omega]; exact h3)
  · simp only
    intro hf c hcs hr
    split at hf
    · cases hf
    · next hq =>
      by_cases hcb : c + s ≤ b
      · exact h4 hf c hcb hr
      · rcases (show f + 1 < s ∨ f + 1 = s ∨ s ≤ f by omega) with hx | hx | hx
        · rcases h3 with h3 | h3
          · omega
          · exact hr (b - f - 1 - c) (by omega) (by rw [show c + (b - f - 1 - c) = b - f - 1 by omega]; exact h3)
        · exact hq ⟨hx, hf⟩
        · exact h4 hf (b - s) (by omega) (fun j hj => h2 _ (by omega) (by omega))
  · simp only
    intro c hf
    split at hf
    · next hq =>
      cases hf
      refine ⟨by omega, fun j hj => ?_, fun c' hc' hr => ?_⟩
      · by_cases hjb : b + 1 - s + j = b
        · rw [hjb]; exact hc
        · exact h2 _ (by omega) (by omega)
      · exact h4 hq.2 c' (by omega) hr
    · obtain ⟨h6, h7, h8⟩ := h5 c hf
      exact ⟨by omega, h7, h8⟩
theorem RoomInv.other {l : List Ob} {s b : Nat} {r : RoomS} (h : RoomInv l s b r) (hs : 1 ≤ s) {o : Ob} (ho : o ∈ l) (hb : o.block = b) (h1 : 1 ≤ o.span) : RoomInv l s (b + o.span) r.other := by
  obtain ⟨f, fd⟩ := r
  obtain ⟨_, _, _, h4, h5⟩ := h
  simp only at h4 h5
  unfold RoomS.other
  refine ⟨by simp only; omega, fun c hc1 hc2 => by simp only at hc1; omega, .inr ⟨o, ho, by simp only; omega, by simp only; omega⟩, ?_, ?_⟩
  · simp only
    intro hf c hcs hr
    by_cases hcb : c + s ≤ b
    · exact h4 hf c hcb hr
    · exact hr (s - 1) (by omega) ⟨o, ho, by omega, by omega⟩
  · simp only
    intro c hf
    obtain ⟨h6, h7, h8⟩ := h5 c hf
    exact ⟨by omega, h7, h8⟩
theorem room_inv {ws : List Int} {n s : Nat} {l : List Ob} (hl : ws.length = 106 + 8 * n) (ht : TilesF ws n 0 l) (hs : 1 ≤ s) : ∀ (k b : Nat) (r : RoomS), n - b ≤ k → b ≤ n → Edge l b → RoomInv l s b r → RoomInv l s n (roomS ws s n b r) := by
  intro k
  induction k with
  | zero =>
    intro b r hk hbn _ h
    obtain rfl : b = n := by omega
    rw [room_end r (by omega)]
    exact h
  | succ k ih =>
    intro b r hk hbn he h
    by_cases hb : b < n
    · by_cases hc : Cov l b
      · obtain ⟨o, ho, h1, h2⟩ := hc
        have hob : o.block = b := by have := he o ho; omega
        have hsl := ht.slot hl ho
        rw [hob] at hsl
        obtain ⟨_, f1, f2, f3, f4, f5⟩ := ht.fits o ho
        rw [room_step_ob r hb hsl]
        refine ih (b + o.span) _ (by omega) (by omega) (fun o' ho' hh => ?_) (h.other hs ho hob f1)
        rcases pair_mem ht.apart ho ho' with rfl | hx | hx
        · omega
        · omega
        · have := (ht.fits o' ho').2.1; omega
      · have hz := ht.free b (by omega) hb (fun o ho hh => hc ⟨o, ho, hh⟩)
        rw [room_step_free r hb (slot_free hz)]
        refine ih (b + 1) _ (by omega) (by omega) (fun o' ho' hh => ?_) (h.free1 hs hc)
        exact hc ⟨o', ho', by omega, by omega⟩
    · obtain rfl : b = n := by omega
      rw [room_end r (by omega)]
      exact h
/-- Room finds the first row of so many free blocks -/
theorem room_found {ws : List Int} {n s : Nat} {l : List Ob} (hl : ws.length = 106 + 8 * n) (ht : TilesF ws n 0 l) (hs : 1 ≤ s) :
    ((roomS ws s n 0 ⟨0, none⟩).found = none ∧ ∀ c, ¬ FreeRow l n s c) ∨ ∃ c, (roomS ws s n 0 ⟨0, none⟩).found = some c ∧ FreeRow l n s c ∧ ∀ c', c' < c → ¬ FreeRow l n s c' := by
  have h := room_inv hl ht hs n 0 ⟨0, none⟩ (by omega) (by omega) (fun o _ hh => by omega) ⟨Nat.le_refl _, (fun c h1 h2 => by omega), .inl rfl, (fun _ c hc => by omega), fun c hc => by cases hc⟩
  have h1 : ∀ o ∈ l, 1 ≤ o.span := fun o ho => (ht.fits o ho).2.1
  rcases hf : (roomS ws s n 0 ⟨0, none⟩).found with _ | c
  · exact .inl ⟨rfl, fun c hc => h.no hf c hc.1 ((rowFree_apart hs h1).2 hc.2)⟩
  · obtain ⟨h2, h3, h4⟩ := h.yes c hf
    exact .inr ⟨c, rfl, ⟨h2, (rowFree_apart hs h1).1 h3⟩, fun c' hc' hfr => h4 c' hc' ((rowFree_apart hs h1).2 hfr.2)⟩
end Go.Proofs.YtbagcjlimdilpaaGreat
