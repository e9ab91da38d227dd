/- Texts that follow one another, joined. -/
import Derived.Test.YtbagcjlimdilpaaGreatKtJ6
import Derived.Test.YtbagcjlimdilpaaGreatKtJ1
import Derived.Test.YtbagcjlimdilpaaGreatKtJ2
import Derived.Test.YtbagcjlimdilpaaGreatKtJ7
import Derived.Test.YtbagcjlimdilpaaGreatKtPgC
import Derived.Test.YtbagcjlimdilpaaGreatKtRefE
import Derived.Deep.RegionHeld3
import Derived.Deep.CutRange
/- The walk of the document's Alloc. -/
namespace Go.Proofs.YtbagcjlimdilpaaGreat
open Go.RowKit

/-- s blocks from b on are free -/
def FreeRow (l : List Ob) (n s b : Nat) : Prop := b + s ≤ n ∧ ∀ o ∈ l, o.block + o.span ≤ b ∨ b + s ≤ o.block
/-- the places of s blocks from b on -/
def blockZ (b s q : Nat) : Prop := 106 + 8 * b ≤ q ∧ q < 106 + 8 * b + s
def argOk (s p : Int) : Prop := 1 ≤ s ∧ s ≤ 4 ∧ 0 ≤ p ∧ p ≤ 8 * s - 1
/-- what Alloc makes -/
def AllocIs (now : List Int) (s p : Int) (r : List Int) (h c : Int) : Prop :=
  (¬ argOk s p ∧ r = now ∧ h = 0 ∧ c = 1) ∨
  (argOk s p ∧ (∀ b, ¬ FreeRow (objs now) (nblk now.length) s.toNat b) ∧ r = now ∧ h = 0 ∧ c = 11) ∨
  (argOk s p ∧ ∃ b z, FreeRow (objs now) (nblk now.length) s.toNat b ∧ (∀ b', b' < b → ¬ FreeRow (objs now) (nblk now.length) s.toNat b') ∧ Zeroed now z (blockZ b (8 * s.toNat)) ∧ r = z.set (106 + 8 * b) (1000000 + 100 * s + p) ∧ h = ((b + 1 : Nat) : Int) ∧ c = 0)
theorem alloc_one {now r r' : List Int} {s p h h' c c' : Int} (a : AllocIs now s p r h c) (a' : AllocIs now s p r' h' c') : r = r' ∧ h = h' ∧ c = c' := by
  rcases a with ⟨h1, rfl, rfl, rfl⟩ | ⟨h1, h2, rfl, rfl, rfl⟩ | ⟨h1, b, z, h2, h3, h4, rfl, rfl, rfl⟩
  · rcases a' with ⟨_, rfl, rfl, rfl⟩ | ⟨g1, _⟩ | ⟨g1, _⟩
    · exact ⟨rfl, rfl, rfl⟩
    · exact absurd g1 h1
    · exact absurd g1 h1
  · rcases a' with ⟨g1, _⟩ | ⟨_, _, rfl, rfl, rfl⟩ | ⟨_, b', _, g2, _⟩
    · exact absurd h1 g1
    · exact ⟨rfl, rfl, rfl⟩
    · exact absurd g2 (h2 b')
  · rcases a' with ⟨g1, _⟩ | ⟨_, g2, _⟩ | ⟨_, b', z', g2, g3, g4, rfl, rfl, rfl⟩
    · exact absurd h1 g1
    · exact absurd h2 (g2 b)
    · have e : b = b' := by
        rcases Nat.lt_or_ge b b' with h | h
        · exact absurd h2 (g3 b h)
        · rcases Nat.lt_or_ge b' b with h' | h'
          · exact absurd g2 (h3 b' h')
          · omega
      subst e
      obtain rfl := h4.one g4
      exact ⟨rfl, rfl, rfl⟩
theorem blockZ_zero (b q : Nat) : ¬ blockZ b 0 q := fun h => by unfold blockZ at h; omega
theorem blockZ_succ (b s q : Nat) : (blockZ b s q ∨ q = 106 + 8 * b + s) ↔ blockZ b (s + 1) q := by unfold blockZ; omega

set_option maxHeartbeats 8000000 in
set_option maxRecDepth 100000 in
theorem ralloc_any (hb gn cn L : Nat) (vw vs : Value) (now : List Int) (s p : Int) (w : World) (h : RH hb gn cn L vw vs now w) :
    Calls Tryz.prog 75 #[.pointer (some ⟨hb, 0, none⟩), .int .i64 s, .int .i64 p] w fun e w' => ∃ r hd c, e = .returned (.tuple #[.int .i64 hd, .int .i64 c]) ∧ AllocIs now s p r hd c ∧ RH hb gn cn L vw vs r w' ∧ Fr (fun k => k = gn) w w' := by
  obtain ⟨hl1, hl2, hl3⟩ := h.lens
  have hbw : hb < w.heap.size := lt_of_block h.blk
  have hc1 : w.cell? ⟨hb, 1, none⟩ = some (.slice (some ⟨gn, 0, none⟩) L cn) := ((block_cells h.blk).1 1).trans rfl
  have HRH : Hid (RH hb gn cn L vw vs now w) := h
  by_cases hs1 : s < 1
  · have HT : Hid (AllocIs now s p now 0 1) := .inl ⟨fun ha => by have := ha.1; omega, rfl, rfl, rfl⟩
    have hd : decide (s < 1) = true := by simpa using hs1
    go_enter Tryz.func75, Tryz.ntmps75
    go_wp2
    go_ret2
    exact ⟨now, 0, 1, rfl, HT.out, h, Fr.refl _ _⟩
  have hd1 : decide (s < 1) = false := by simpa using hs1
  by_cases hs4 : 4 < s
  · have HT : Hid (AllocIs now s p now 0 1) := .inl ⟨fun ha => by have := ha.2.1; omega, rfl, rfl, rfl⟩
    have hd : decide (4 < s) = true := by simpa using hs4
    go_enter Tryz.func75, Tryz.ntmps75
    go_wp2
    go_ret2
    exact ⟨now, 0, 1, rfl, HT.out, h, Fr.refl _ _⟩
  have hd2 : decide (4 < s) = false := by simpa using hs4
  by_cases hp0 : p < 0
  · have HT : Hid (AllocIs now s p now 0 1) := .inl ⟨fun ha => by have := ha.2.2.1; omega, rfl, rfl, rfl⟩
    have hd : decide (p < 0) = true := by simpa using hp0
    go_enter Tryz.func75, Tryz.ntmps75
    go_wp2
    go_ret2
    exact ⟨now, 0, 1, rfl, HT.out, h, Fr.refl _ _⟩
  have hd3 : decide (p < 0) = false := by simpa using hp0
  by_cases hp8 : 8 * s - 1 < p
  · have HT : Hid (AllocIs now s p now 0 1) := .inl ⟨fun ha => by have := ha.2.2.2; omega, rfl, rfl, rfl⟩
    have hd : decide (8 * s - 1 < p) = true := by simpa using hp8
    go_enter Tryz.func75, Tryz.ntmps75
    go_wp2
    go_ret2
    exact ⟨now, 0, 1, rfl, HT.out, h, Fr.refl _ _⟩
  have hd4 : decide (8 * s - 1 < p) = false := by simpa using hp8
  have HAR : Hid (argOk s p) := ⟨by omega, by omega, by omega, by omega⟩
  obtain ⟨sn, rfl⟩ := Int.eq_ofNat_of_zero_le (show 0 ≤ s by omega)
  obtain ⟨pn, rfl⟩ := Int.eq_ofNat_of_zero_le (show 0 ≤ p by omega)
  have hsn1 : 1 ≤ sn := by omega
  have hsn4 : sn ≤ 4 := by omega
  have hpn : pn < 32 := by omega
  have HNO : Hid ((∀ b, ¬ FreeRow (objs now) (nblk L) sn b) → AllocIs now sn pn now 0 11) := fun hh => .inr (.inl ⟨HAR.out, by rw [h.len]; simpa using hh, rfl, rfl, rfl⟩)
  have HYES : Hid (∀ b z, FreeRow (objs now) (nblk L) sn b → (∀ b', b' < b → ¬ FreeRow (objs now) (nblk L) sn b') → Zeroed now z (blockZ b (8 * sn)) → AllocIs now sn pn (z.set (106 + 8 * b) (1000000 + 100 * (sn : Int) + pn)) ((b + 1 : Nat) : Int) 0) := fun b z h1 h2 h3 => .inr (.inr ⟨HAR.out, b, z, by rw [h.len]; simpa using h1, by rw [h.len]; simpa using h2, by simpa using h3, rfl, rfl, rfl⟩)
  have HWK : Hid (Calls Tryz.prog 126 #[.slice (some ⟨gn, 0, none⟩) L cn] w fun e w' => ∃ vl vb, e = .returned (.tuple #[vl, vb]) ∧ LiesO w' vl (objs now) ∧ Fr New w w') := h.walk
  have HBL : Hid (∀ w, Calls Tryz.prog 127 #[.int .i64 L] w fun e w' => e = .returned (.int .i64 (nblk L)) ∧ w' = w) := fun w => blocks_any L w (by omega)
  have HLN : Hid (L = 106 + 8 * nblk L ∧ now.length = L) := ⟨(nblk_some h.n0).1, h.len⟩
  have hnb := nblk_le L
  obtain ⟨n, hn⟩ : ∃ n, n = nblk L := ⟨_, rfl⟩
  obtain ⟨l, hl⟩ : ∃ l, l = objs now := ⟨_, rfl⟩
  rw [← hn] at HNO HYES HBL HLN hnb
  rw [← hl] at HNO HYES HWK
  clear hn hl hs1 hs4 hp0 hp8 h
  go_enter Tryz.func75, Tryz.ntmps75
  go_wp2_with (first
    | (go_at_call 126; refine HWK.out.mono ?_; rintro e w2 ⟨vl, vb, rfl, hlo, hf2⟩; have hc2 := hf2.cell hc1 id; have hRH2 := HRH.out.fr hf2)
    | (go_at_call 127; refine calls_same (HBL.out w2) ?_)
    | fail)
  obtain ⟨av, cv, rfl, hll, hbo, hcl⟩ := hlo
  have HC : Hid (0 < l.length → ∃ g, av = some ⟨g, 0, none⟩ ∧ ∀ i (hi : i < l.length), w2.cell? ⟨g, i * 3, none⟩ = some (.int .i64 (l[i]).block) ∧ w2.cell? ⟨g, i * 3 + 1, none⟩ = some (.int .i64 (l[i]).span)) := by
    intro hp
    obtain ⟨g, e, _, hc⟩ := hcl hp
    exact ⟨g, e, fun i hi => ⟨(hc i hi).1, (hc i hi).2.1⟩⟩
  have HBO : Hid (∀ o ∈ l, o.block ≤ 1048576 ∧ o.span ≤ 4) := fun o ho => ⟨(hbo o ho).1, (hbo o ho).2.1⟩
  clear hcl hbo
  go_loopg [11] (n + 1) (fun gh t wr => ∃ b j : Nat, b ≤ n + 1 ∧ gh = n + 1 - b ∧ t = .int .i64 b ∧ wr = w2.drewN j ∧ ∀ b', b' < b → ¬ FreeRow l n sn b')
  case atStart => exact ⟨0, 0, by omega, rfl, rfl, rfl, fun b' hb' => by omega⟩
  case round =>
    obtain ⟨b, jd, hbn, rfl, rfl, rfl, hno⟩ := hrel
    have HNB : Hid (∀ b', b' < b → ¬ FreeRow l n sn b') := hno
    clear hno
    by_cases hbf : b + sn ≤ n
    · have hdb : decide ((b : Int) + (sn : Int) ≤ (n : Int)) = true := by simp; omega
      go_wp2
      go_loopg [12, 13] l.length (fun gh t12 t13 wr => ∃ (i j : Nat) (fr : Bool), i ≤ l.length ∧ gh = l.length - i ∧ t12 = .bool fr ∧ t13 = .int .i64 i ∧ wr = w2.drewN j ∧ (fr = true ↔ ∀ i' (hi' : i' < l.length), i' < i → (l[i']).block + (l[i']).span ≤ b ∨ b + sn ≤ (l[i']).block))
      case atStart => exact ⟨0, jd, true, by omega, rfl, rfl, rfl, rfl, ⟨fun _ i' _ h => by omega, fun _ => rfl⟩⟩
      case round =>
        obtain ⟨i, j, fr, hil, rfl, rfl, rfl, rfl, hiff⟩ := hrel
        have HIF : Hid (fr = true ↔ ∀ i' (hi' : i' < l.length), i' < i → (l[i']).block + (l[i']).span ≤ b ∨ b + sn ≤ (l[i']).block) := hiff
        clear hiff
        by_cases hi : i < l.length
        · have hdi : decide ((i : Int) < (l.length : Int)) = true := by simp; omega
          have hi0 : (0 : Int) ≤ (i : Int) := by omega
          have hi1 : (i : Int) < (l.length : Int) := by omega
          obtain ⟨g, rfl, hcells⟩ := HC.out (by omega)
          obtain ⟨e0, e1⟩ := hcells i hi
          obtain ⟨hb1, hb2⟩ := HBO.out l[i] (List.getElem_mem _)
          obtain ⟨ob, hob⟩ : ∃ ob, ob = (l[i]).block := ⟨_, rfl⟩
          obtain ⟨os, hos⟩ : ∃ os, os = (l[i]).span := ⟨_, rfl⟩
          have HOB : Hid (ob = (l[i]).block ∧ os = (l[i]).span) := ⟨hob, hos⟩
          rw [← hob] at e0 hb1
          rw [← hos] at e1 hb2
          clear hcells hob hos
          have hwa : IntKind.i64.wrap ((ob : Int) + (os : Int)) = (ob : Int) + os := by rw [IntKind.wrap_i64]; omega
          have hwb : IntKind.i64.wrap ((b : Int) + (sn : Int)) = (b : Int) + sn := by rw [IntKind.wrap_i64]; omega
          cases fr with
          | false =>
            have HN : Hid ((false = true) ↔ ∀ i' (hi' : i' < l.length), i' < i + 1 → (l[i']).block + (l[i']).span ≤ b ∨ b + sn ≤ (l[i']).block) := by
              refine ⟨fun h => (by cases h), fun hh => HIF.out.2 (fun i' hi' h => hh i' hi' (by omega))⟩
            go_wp2
            go_quiet (fail)
            go_wp2
            go_roundg (l.length - (i + 1))
            case measure => omega
            case rel => exact ⟨i + 1, j + nq, false, by omega, rfl, rfl, by go_num, rfl, HN.out⟩
          | true =>
            by_cases hA : ob + os ≤ b
            · have hda : decide ((ob : Int) + (os : Int) ≤ (b : Int)) = true := by simp; omega
              have HN : Hid ((true = true) ↔ ∀ i' (hi' : i' < l.length), i' < i + 1 → (l[i']).block + (l[i']).span ≤ b ∨ b + sn ≤ (l[i']).block) := by
                refine ⟨fun _ i' hi' h => ?_, fun _ => rfl⟩
                rcases Nat.lt_or_ge i' i with h' | h'
                · exact HIF.out.1 rfl i' hi' h'
                · obtain rfl : i' = i := by omega
                  left; rw [← HOB.out.1, ← HOB.out.2]; exact hA
              go_wp2
              go_quiet (fail)
              go_wp2
              go_roundg (l.length - (i + 1))
              case measure => omega
              case rel => exact ⟨i + 1, j + nq, true, by omega, rfl, rfl, by go_num, rfl, by simpa using HN.out⟩
            · have hda : decide ((ob : Int) + (os : Int) ≤ (b : Int)) = false := by simp; omega
              by_cases hB : b + sn ≤ ob
              · have hdb2 : decide ((b : Int) + (sn : Int) ≤ (ob : Int)) = true := by simp; omega
                have HN : Hid ((true = true) ↔ ∀ i' (hi' : i' < l.length), i' < i + 1 → (l[i']).block + (l[i']).span ≤ b ∨ b + sn ≤ (l[i']).block) := by
                  refine ⟨fun _ i' hi' h => ?_, fun _ => rfl⟩
                  rcases Nat.lt_or_ge i' i with h' | h'
                  · exact HIF.out.1 rfl i' hi' h'
                  · obtain rfl : i' = i := by omega
                    right; rw [← HOB.out.1]; exact hB
                go_wp2
                go_quiet (fail)
                go_wp2
                go_roundg (l.length - (i + 1))
                case measure => omega
                case rel => exact ⟨i + 1, j + nq, true, by omega, rfl, rfl, by go_num, rfl, by simpa using HN.out⟩
              · have hdb2 : decide ((b : Int) + (sn : Int) ≤ (ob : Int)) = false := by simp; omega
                have HN : Hid ((false = true) ↔ ∀ i' (hi' : i' < l.length), i' < i + 1 → (l[i']).block + (l[i']).span ≤ b ∨ b + sn ≤ (l[i']).block) := by
                  refine ⟨fun h => (by cases h), fun hh => ?_⟩
                  have := hh i hi (by omega)
                  rw [← HOB.out.1, ← HOB.out.2] at this
                  omega
                go_wp2
                go_quiet (fail)
                go_wp2
                go_roundg (l.length - (i + 1))
                case measure => omega
                case rel => exact ⟨i + 1, j + nq, false, by omega, rfl, rfl, by go_num, rfl, HN.out⟩
        · obtain rfl : i = l.length := by omega
          have hdi : decide ((l.length : Int) < (l.length : Int)) = false := by simp
          cases fr with
          | false =>
            have HNF : Hid (¬ FreeRow l n sn b) := fun hf => by
              have := HIF.out.2 (fun i' hi' _ => hf.2 _ (List.getElem_mem hi'))
              cases this
            go_wp2
            go_roundg (n + 1 - (b + 1))
            case measure => omega
            case rel => exact ⟨b + 1, j, by omega, rfl, by go_num, rfl, fun b' hb' => by
              rcases Nat.lt_or_ge b' b with h' | h'
              · exact HNB.out b' h'
              · obtain rfl : b' = b := by omega
                exact HNF.out⟩
          | true =>
            have HFR : Hid (FreeRow l n sn b) := ⟨hbf, fun o ho => by
              obtain ⟨i', hi', rfl⟩ := List.getElem_of_mem ho
              exact HIF.out.1 rfl i' hi' hi'⟩
            have hR3 : RH hb gn cn L vw vs now (w2.drewN j) := hRH2.fr ((Fr.refl _ _).drewN _)
            have hF3 : Fr (fun k => k = gn) w (w2.drewN j) := ((Fr.refl _ _).same hf2).drewN _
            go_wp2
            go_loopg [14] (8 * sn) (fun gh t wr => ∃ (i : Nat) (cur : List Int), i ≤ 8 * sn ∧ gh = 8 * sn - i ∧ t = .int .i64 i ∧ RH hb gn cn L vw vs cur wr ∧ Fr (fun k => k = gn) w wr ∧ Zeroed now cur (blockZ b i))
            case atStart => exact ⟨0, now, by omega, rfl, rfl, hR3, hF3, zeroed_self now (blockZ_zero b)⟩
            case round =>
              clear hR3 hF3
              obtain ⟨i, cur, his, rfl, rfl, hR, hF, hZ⟩ := hrel
              have hcc : wr.cell? ⟨hb, 1, none⟩ = some (.slice (some ⟨gn, 0, none⟩) L cn) := ((block_cells hR.blk).1 1).trans rfl
              have hLn := HLN.out.1
              have hbL : 106 + 8 * b + 8 * sn ≤ L := by omega
              clear hLn
              by_cases hi : i < 8 * sn
              · have hdi : decide ((i : Int) < 8 * (sn : Int)) = true := by simp; omega
                have hcq := hR.cell (106 + 8 * b + i) (by omega)
                have hfq := hR.free (106 + 8 * b + i)
                have hput := hR.put (106 + 8 * b + i) 0
                have hZn : Zeroed now (cur.set (106 + 8 * b + i) 0) (blockZ b (i + 1)) := (hZ.set (by rw [HLN.out.2]; omega)).congr (fun q => blockZ_succ b i q)
                have hFn := hF.setCell (p := ⟨gn, 106 + 8 * b + i, none⟩) (fun _ => rfl) (.int .u64 0)
                go_wp2
                go_roundg (8 * sn - (i + 1))
                case measure => omega
                case rel => exact ⟨i + 1, _, by omega, rfl, by go_num, hput, hFn, hZn⟩
              · obtain rfl : i = 8 * sn := by omega
                have hdi : decide (8 * (sn : Int) < 8 * (sn : Int)) = false := by simp
                have HT := HYES.out b cur HFR.out HNB.out hZ
                have hcq := hR.cell (106 + 8 * b) (by omega)
                have hfq := hR.free (106 + 8 * b)
                have hput := hR.put (106 + 8 * b) (1000000 + 100 * (sn : Int) + pn)
                have hFn := hF.setCell (p := ⟨gn, 106 + 8 * b, none⟩) (fun _ => rfl) (.int .u64 (1000000 + 100 * (sn : Int) + pn))
                have hwu : IntKind.u64.wrap (1000000 + 100 * (sn : Int) + (pn : Int)) = 1000000 + 100 * (sn : Int) + pn := by rw [IntKind.wrap_u64]; omega
                have HTT : Hid (AllocIs now sn pn (cur.set (106 + 8 * b) (1000000 + 100 * (sn : Int) + pn)) ((b + 1 : Nat) : Int) 0) := HT
                clear HT
                go_wp2
                go_ret2
                exact ⟨_, ((b + 1 : Nat) : Int), 0, by go_num, HTT.out, hput, hFn⟩
    · have hdb : decide ((b : Int) + (sn : Int) ≤ (n : Int)) = false := by simp; omega
      have HT : Hid (AllocIs now sn pn now 0 11) := HNO.out (fun b' hf => by
        rcases Nat.lt_or_ge b' b with h' | h'
        · exact HNB.out b' h' hf
        · have := hf.1; omega)
      go_wp2
      go_ret2
      exact ⟨now, 0, 11, rfl, HT.out, hRH2.fr ((Fr.refl _ _).drewN _), ((Fr.refl _ _).same hf2).drewN _⟩
end Go.Proofs.YtbagcjlimdilpaaGreat
/- The walk of the document's Write. -/
namespace Go.Proofs.YtbagcjlimdilpaaGreat
open Go.RowKit

/-- what Write makes -/
def writeS (now : List Int) (n i v : Int) : List Int × Int := match idx (objs now) n with
  | none => (now, 9)
  | some k => if i < 0 ∨ 8 * (((objs now).getD k ⟨0, 0, 0⟩).span : Int) - 1 ≤ i then (now, 1)
    else if i < ((objs now).getD k ⟨0, 0, 0⟩).ptrs ∧ v ≠ 0 ∧ idx (objs now) v = none then (now, 7) else (now.set (pl ((objs now).getD k ⟨0, 0, 0⟩) i.toNat) v, 0)

set_option maxHeartbeats 4000000 in
set_option maxRecDepth 100000 in
theorem rwrite_any (hb gn cn L : Nat) (vw vs : Value) (now : List Int) (n i v : Int) (w : World) (h0 : -9223372036854775808 ≤ n) (h1 : n ≤ 9223372036854775807) (h : RH hb gn cn L vw vs now w) :
    Calls Tryz.prog 78 #[.pointer (some ⟨hb, 0, none⟩), .int .i64 n, .int .i64 i, .int .u64 v] w fun e w' => e = .returned (.int .i64 (writeS now n i v).2) ∧ RH hb gn cn L vw vs (writeS now n i v).1 w' ∧ Fr (fun k => k = gn) w w' := by
  have HH : Hid (Calls Tryz.prog 128 #[.pointer (some ⟨hb, 0, none⟩), .int .i64 n] w fun e w' => e = .returned (handleV (objs now) n) ∧ Fr New w w') := handle_any hb gn cn L vw vs now n w h0 h1 h
  obtain ⟨hl1, hl2, hl3⟩ := h.lens
  have hbw : hb < w.heap.size := lt_of_block h.blk
  have HWK : Hid (∀ w1, Fr New w w1 → Calls Tryz.prog 126 #[.slice (some ⟨gn, 0, none⟩) L cn] w1 fun e w' => ∃ vl vb, e = .returned (.tuple #[vl, vb]) ∧ LiesO w' vl (objs now) ∧ Fr New w1 w') := fun w1 hf => (h.fr hf).walk
  unfold writeS
  rcases hx : idx (objs now) n with _ | k
  · rw [handleV_none hx] at HH
    clear hx
    go_enter Tryz.func78, Tryz.ntmps78
    go_wp2_with (go_at_call 128; refine HH.out.mono ?_; rintro e w1 ⟨rfl, hf1⟩)
    go_ret
    exact ⟨rfl, h.fr (hf1.alloc _), ((Fr.refl _ _).same hf1).alloc _⟩
  · have hk := idx_lt hx
    rw [handleV_some hx hk] at HH
    have hin := objs_in (List.getElem_mem hk)
    have hnb := nblk_le now.length
    have hgd : (objs now).getD k ⟨0, 0, 0⟩ = (objs now)[k] := by simp [List.getD, hk]
    dsimp only
    rw [hgd]
    rw [h.len] at hin
    obtain ⟨o, ho⟩ : ∃ o, o = (objs now)[k] := ⟨_, rfl⟩
    rw [← ho] at HH hin ⊢
    obtain ⟨b, sp, pt⟩ := o
    simp only at HH hin ⊢
    obtain ⟨g1, g2, g3, g4, g5⟩ := hin
    clear hx hgd ho
    by_cases hi0 : i < 0
    · rw [if_pos (.inl hi0)]
      have hd : decide (i < 0) = true := by simpa using hi0
      go_enter Tryz.func78, Tryz.ntmps78
      go_wp2_with (go_at_call 128; refine HH.out.mono ?_; rintro e w1 ⟨rfl, hf1⟩)
      go_ret
      exact ⟨rfl, h.fr (hf1.alloc _), ((Fr.refl _ _).same hf1).alloc _⟩
    · have hd : decide (i < 0) = false := by simpa using hi0
      by_cases hi8 : 8 * (sp : Int) - 1 ≤ i
      · rw [if_pos (.inr hi8)]
        have hd8 : decide (8 * (sp : Int) - 1 ≤ i) = true := by simpa using hi8
        go_enter Tryz.func78, Tryz.ntmps78
        go_wp2_with (go_at_call 128; refine HH.out.mono ?_; rintro e w1 ⟨rfl, hf1⟩)
        go_ret
        exact ⟨rfl, h.fr (hf1.alloc _), ((Fr.refl _ _).same hf1).alloc _⟩
      · rw [if_neg (by omega)]
        obtain ⟨j, rfl⟩ := Int.eq_ofNat_of_zero_le (show 0 ≤ i by omega)
        simp only [Int.toNat_natCast]
        have hd8 : decide (8 * (sp : Int) - 1 ≤ (j : Int)) = false := by simp; omega
        have HPL : Hid (∀ w9, Calls Tryz.prog 129 #[.agg #[.int .i64 b, .int .i64 sp, .int .i64 pt], .int .i64 j] w9 fun e w' => e = .returned (.int .i64 ((pl ⟨b, sp, pt⟩ j : Nat) : Int)) ∧ Fr New w9 w') := fun w9 => by
          have := place_any ⟨b, sp, pt⟩ j w9 (by simp only; omega) (by omega) (by omega)
          rwa [show (106 + 8 * (b : Int) + 1 + (j : Int)) = ((pl ⟨b, sp, pt⟩ j : Nat) : Int) by unfold pl; simp only; omega] at this
        have hq : pl ⟨b, sp, pt⟩ j < L := by unfold pl; simp only; omega
        obtain ⟨q, hqq⟩ : ∃ q, q = pl ⟨b, sp, pt⟩ j := ⟨_, rfl⟩
        rw [← hqq] at HPL hq ⊢
        have HCW : Hid (∀ w1, Fr New w w1 → w1.cell? ⟨hb, 1, none⟩ = some (.slice (some ⟨gn, 0, none⟩) L cn) ∧ w1.cell? ⟨gn, q, none⟩ = some (.int .u64 (wd now q)) ∧ w1.frozen? ⟨gn, q, none⟩ = false ∧ hb < w1.heap.size ∧ gn < w1.heap.size ∧ gn < w.heap.size) := fun w1 hf => by
          have h' := h.fr hf
          obtain ⟨_, _, hcc⟩ := own_block h'.own rfl
          obtain ⟨_, _, hc0⟩ := own_block h.own rfl
          exact ⟨((block_cells h'.blk).1 1).trans rfl, h'.cell q hq, h'.free _, lt_of_block h'.blk, lt_of_block hcc, lt_of_block hc0⟩
        have hq0 : (0 : Int) ≤ (q : Int) := by omega
        have hq1 : (q : Int) < (L : Int) := by omega
        obtain ⟨l, hl⟩ : ∃ l, l = objs now := ⟨_, rfl⟩
        rw [← hl] at HWK ⊢
        clear hqq hl
        by_cases hjp : j < pt
        · have hdp : decide ((j : Int) < (pt : Int)) = true := by simp; omega
          by_cases hv : v = 0
          · subst hv
            rw [if_neg (by simp)]
            go_enter Tryz.func78, Tryz.ntmps78
            go_upto_region 9 with (first
              | (go_at_call 128; refine HH.out.mono ?_; rintro e w1 ⟨rfl, hf1⟩; obtain ⟨c1, c2, c3, c4, c5, c6⟩ := HCW.out w1 hf1)
              | (go_at_call 126; refine (HWK.out _ (hf1.alloc _)).mono ?_; rintro e w2 ⟨vl, vb, rfl, hlo, hf2⟩; obtain ⟨hcx, hzx⟩ := block_cells (hf2.heap (k := w1.heap.size) (Go.Deep.blk_alloc_new w1 _) id); have hf2' : Fr New w w2 := (hf1.alloc _).same hf2; obtain ⟨e1, e2, e3, e4, e5, e6⟩ := HCW.out w2 hf2'; have hs12 : w1.heap.size < w2.heap.size := lt_of_block (hf2.heap (k := w1.heap.size) (Go.Deep.blk_alloc_new w1 _) id))
              | fail)
            go_region_with (first
              | (go_at_call 129; refine (HPL.out _).mono ?_; rintro e w3 ⟨rfl, hf3⟩; have hf3' : Fr New w w3 := (by first | exact hf2'.same hf3 | exact hf2'.drew.same hf3); obtain ⟨d1, d2, d3, d4, d5, d6⟩ := HCW.out w3 hf3'))
            all_goals (try go_wp2_with fail)
            all_goals
              go_ret
              exact ⟨rfl, by first | exact (h.fr hf3').put q 0 | exact ((h.fr hf3').put q 0).fr (Fr.refl _ _).drew, by first | exact ((Fr.refl (fun k => k = gn) w).same hf3').setCell (p := ⟨gn, q, none⟩) (fun _ => rfl) _ | exact (((Fr.refl (fun k => k = gn) w).same hf3').setCell (p := ⟨gn, q, none⟩) (fun _ => rfl) _).drew⟩
          · have hdv : (v != 0) = true := by simpa using hv
            rcases hy : idx l v with _ | y
            · rw [if_pos ⟨by omega, hv, rfl⟩]
              have hfi := findI_none hy
              have HFI : Hid (∀ u w1, LiesO w1 u l → Calls Tryz.prog 130 #[u, .int .u64 v] w1 fun e w' => e = .returned (.int .i64 (-1)) ∧ w' = w1) := fun u w1 hu => by rw [← hfi]; exact find_any u l v w1 hu
              clear hfi hy
              go_enter Tryz.func78, Tryz.ntmps78
              go_wp2_with (first
                | (go_at_call 128; refine HH.out.mono ?_; rintro e w1 ⟨rfl, hf1⟩; obtain ⟨c1, c2, c3, c4, c5, c6⟩ := HCW.out w1 hf1)
                | (go_at_call 126; refine (HWK.out _ (hf1.alloc _)).mono ?_; rintro e w2 ⟨vl, vb, rfl, hlo, hf2⟩; obtain ⟨hcx, hzx⟩ := block_cells (hf2.heap (k := w1.heap.size) (Go.Deep.blk_alloc_new w1 _) id); have hf2' : Fr New w w2 := (hf1.alloc _).same hf2; obtain ⟨e1, e2, e3, e4, e5, e6⟩ := HCW.out w2 hf2'; have hs12 : w1.heap.size < w2.heap.size := lt_of_block (hf2.heap (k := w1.heap.size) (Go.Deep.blk_alloc_new w1 _) id))
                | (go_at_call 130; refine calls_same (HFI.out vl w2 hlo) ?_)
                | fail)
              go_ret
              exact ⟨rfl, h.fr hf2', (Fr.refl _ _).same hf2'⟩
            · rw [if_neg (by simp)]
              have hfi := findI_some hy
              have HFI : Hid (∀ u w1, LiesO w1 u l → Calls Tryz.prog 130 #[u, .int .u64 v] w1 fun e w' => e = .returned (.int .i64 y) ∧ w' = w1) := fun u w1 hu => by rw [← hfi]; exact find_any u l v w1 hu
              clear hfi hy
              go_enter Tryz.func78, Tryz.ntmps78
              go_upto_region 9 with (first
                | (go_at_call 128; refine HH.out.mono ?_; rintro e w1 ⟨rfl, hf1⟩; obtain ⟨c1, c2, c3, c4, c5, c6⟩ := HCW.out w1 hf1)
                | (go_at_call 126; refine (HWK.out _ (hf1.alloc _)).mono ?_; rintro e w2 ⟨vl, vb, rfl, hlo, hf2⟩; obtain ⟨hcx, hzx⟩ := block_cells (hf2.heap (k := w1.heap.size) (Go.Deep.blk_alloc_new w1 _) id); have hf2' : Fr New w w2 := (hf1.alloc _).same hf2; obtain ⟨e1, e2, e3, e4, e5, e6⟩ := HCW.out w2 hf2'; have hs12 : w1.heap.size < w2.heap.size := lt_of_block (hf2.heap (k := w1.heap.size) (Go.Deep.blk_alloc_new w1 _) id))
                | (go_at_call 130; refine calls_same (HFI.out vl w2 hlo) ?_)
                | fail)
              go_region_with (first
                | (go_at_call 129; refine (HPL.out _).mono ?_; rintro e w3 ⟨rfl, hf3⟩; have hf3' : Fr New w w3 := (by first | exact hf2'.same hf3 | exact hf2'.drew.same hf3); obtain ⟨d1, d2, d3, d4, d5, d6⟩ := HCW.out w3 hf3'))
              all_goals (try go_wp2_with fail)
              all_goals
                go_ret
                exact ⟨rfl, by first | exact (h.fr hf3').put q v | exact ((h.fr hf3').put q v).fr (Fr.refl _ _).drew, by first | exact ((Fr.refl (fun k => k = gn) w).same hf3').setCell (p := ⟨gn, q, none⟩) (fun _ => rfl) _ | exact (((Fr.refl (fun k => k = gn) w).same hf3').setCell (p := ⟨gn, q, none⟩) (fun _ => rfl) _).drew⟩
        · have hdp : decide ((j : Int) < (pt : Int)) = false := by simp; omega
          rw [if_neg (by omega)]
          go_enter Tryz.func78, Tryz.ntmps78
          go_upto_region 9 with (first
            | (go_at_call 128; refine HH.out.mono ?_; rintro e w1 ⟨rfl, hf1⟩; obtain ⟨c1, c2, c3, c4, c5, c6⟩ := HCW.out w1 hf1)
            | (go_at_call 126; refine (HWK.out _ (hf1.alloc _)).mono ?_; rintro e w2 ⟨vl, vb, rfl, hlo, hf2⟩; obtain ⟨hcx, hzx⟩ := block_cells (hf2.heap (k := w1.heap.size) (Go.Deep.blk_alloc_new w1 _) id); have hf2' : Fr New w w2 := (hf1.alloc _).same hf2; obtain ⟨e1, e2, e3, e4, e5, e6⟩ := HCW.out w2 hf2'; have hs12 : w1.heap.size < w2.heap.size := lt_of_block (hf2.heap (k := w1.heap.size) (Go.Deep.blk_alloc_new w1 _) id))
            | fail)
          go_region_with (first
            | (go_at_call 129; refine (HPL.out _).mono ?_; rintro e w3 ⟨rfl, hf3⟩; have hf3' : Fr New w w3 := (by first | exact hf2'.same hf3 | exact hf2'.drew.same hf3); obtain ⟨d1, d2, d3, d4, d5, d6⟩ := HCW.out w3 hf3'))
          all_goals (try go_wp2_with fail)
          all_goals
            go_ret
            exact ⟨rfl, by first | exact (h.fr hf3').put q v | exact ((h.fr hf3').put q v).fr (Fr.refl _ _).drew, by first | exact ((Fr.refl (fun k => k = gn) w).same hf3').setCell (p := ⟨gn, q, none⟩) (fun _ => rfl) _ | exact (((Fr.refl (fun k => k = gn) w).same hf3').setCell (p := ⟨gn, q, none⟩) (fun _ => rfl) _).drew⟩
end Go.Proofs.YtbagcjlimdilpaaGreat
/- Walks of the program's Places and Copy of changes. -/
namespace Go.Proofs.YtbagcjlimdilpaaGreat
open Go.RowKit Go.Maps Go.Sort Go.Shelf

theorem sort_int (m : Nat) : AnyZI.SortsIn Tryz.prog Tryz.sortedA_ren Fence.wide m :=
  ⟨fun blk off cap ss W hH hblk hsz => callsIn_wide.2 (AnyM.slices_Sort_int Tryz.sortA blk off cap ss W hH hblk hsz),
   fun p cap W => callsIn_wide.2 (AnyM.slices_Sort_int_none Tryz.sortA p cap W)⟩
theorem difP_sorted (ws now : List Int) : ((difP ws now).map (fun q : Nat => (q : Int))).Pairwise (fun a b => a ≤ b) := by
  refine List.Pairwise.map _ (fun a b h => Int.ofNat_le.2 h) ?_
  exact List.Pairwise.filter _ (List.Pairwise.imp (fun h => Nat.le_of_lt h) (List.pairwise_lt_range))
theorem sort_keys {w : World} {mb n : Nat} {D : DataW Unit} {ws now : List Int} (h : w.ownsMap Tryz.prog 3 (plainElem Tryz.prog 50) mb n D) (hd : DiffIs D ws now) {ss : List Int} (hs : ss.Perm (intKeys D)) : ss.mergeSort (fun x y => decide (x ≤ y)) = (difP ws now).map (fun q : Nat => (q : Int)) := by
  rw [show ss.mergeSort (fun x y => decide (x ≤ y)) = ((difP ws now).map (fun q : Nat => (q : Int))).mergeSort (fun x y => decide (x ≤ y)) from mergeSort_of_perm_i (hs.trans (keys_perm' h hd).symm)]
  refine List.mergeSort_of_pairwise ?_
  exact (difP_sorted ws now).imp (fun h => by simpa using h)
set_option maxHeartbeats 1000000 in
theorem places_any (cb tb mb : Nat) (ws now : List Int) (w : World) (hc : ChgIs w cb tb mb ws now) (hl : ws.length ≤ 1048576) :
    Calls Tryz.prog 102 #[.pointer (some ⟨cb, 0, none⟩)] w fun e w' => ∃ v, e = .returned v ∧ w'.ownsRow w.heap.size 3 1 v (difP ws now).length ((difP ws now).map (fun q : Nat => Value.int .i64 (q : Int))) ∧ Fr New w w' := by
  have hmp := hc.map
  obtain ⟨D, hown, hd⟩ := hc.mp
  have hsz : Maps.size D ≤ 1048576 := by rw [diff_size hown hd]; have := difP_len ws now; omega
  have HSK : Hid (∀ ss : List Int, ss.Perm (intKeys D) → ss.mergeSort (fun x y => decide (x ≤ y)) = (difP ws now).map (fun q : Nat => (q : Int)) ∧ ss.length = (difP ws now).length) := fun ss hs => ⟨sort_keys hown hd hs, by rw [(hs.trans (keys_perm' hown hd).symm).length_eq, List.length_map]⟩
  refine (callsIn_wide (n := 6)).1 ?_
  have hbl := hown.lt
  have hseq : SeqGives Fence.wide 2 Tryz.prog 155 #[.pointer (some ⟨w.heap.size, 0, none⟩)] encZ (fun ss => ss.Perm (intKeys D)) (Maps.size D) (w.alloc (.cells #[.map (some mb)] 166)) :=
    AnyZI.keys_gives (ρ := Tryz.keysA_ren) { Tryz.keysA with } Fence.wide _ trivial rfl (by omega) w.heap.size mb _ D _ (by simp) (by simp) (by
      obtain ⟨es, clock, hb, Ft, hs, hD⟩ := hown
      exact ⟨es, clock, (Below.heap_alloc _ _ mb hbl).trans hb, Ft, hs, hD⟩)
  have cK : ∀ mb W, CallsIn Fence.wide 5 Tryz.prog 143 #[.map mb] W fun e w' => e = .returned (.func (.func 155) #[] #[.pointer (some ⟨W.heap.size, 0, none⟩)]) ∧ w' = W.alloc (.cells #[.map mb] 166) := fun mb W => AnyZI.keys_in Tryz.keysA Fence.wide 5 trivial rfl mb W
  have cS := AnyZI.sorted_in Tryz.sortedA Fence.wide 5 trivial trivial trivial trivial rfl (by omega) (sort_int _) (enters_of Tryz.func154 (by kernel_rfl) rfl) 155 #[.pointer (some ⟨w.heap.size, 0, none⟩)] trivial (enters_of Tryz.func155 (by kernel_rfl) rfl) _ _ (by unfold maxLen; omega) (by omega) _ hseq
  change CallsIn _ _ Tryz.prog 142 _ _ _ at cS
  have hfK : Fence.wide.fn 143 := trivial
  have hfS : Fence.wide.fn 142 := trivial
  clear hc hown hd hsz
  refine callsIn_of_wp Tryz.func102 rfl trivial ?_ rfl
  simp only [Tryz.ntmps102, List.size_toArray, List.length_cons, List.length_nil, Nat.reduceAdd, Nat.reduceSub, Array.replicate_succ, Array.replicate_zero, List.push_toArray, List.append_toArray, List.nil_append, List.cons_append]
  gi_wp2_with (first
    | (gi_at_call 143; refine (cK _ _).mono ?_; rintro e w' ⟨rfl, rfl⟩)
    | (gi_at_call 142; refine cS.mono ?_; rintro e w' ⟨v, ss, rfl, hS, hrow, hnil, hb⟩))
  go_ret
  obtain ⟨h1, h2⟩ := HSK.out ss hS
  refine ⟨v, rfl, ?_, ?_⟩
  · rw [h1, h2, List.map_map] at hrow
    exact ownsRow_base_a hrow (by simp)
  · exact (Fr.ofBelow (((Below.refl _ w).alloc (Nat.le_refl _) _).trans (hb.mono (by simp)))).mono (fun j hj h => by omega)
end Go.Proofs.YtbagcjlimdilpaaGreat
/- Walks of the program's Copy of changes, Next of a head. -/
namespace Go.Proofs.YtbagcjlimdilpaaGreat
open Go.RowKit Go.Maps

theorem clone_any (mb : Nat) (es : Array MapEntry) (clock : Nat) (w : World) (hb : w.heap[mb]? = some (.map es clock)) :
    Calls Tryz.prog 156 #[.map (some mb)] w fun e w' => e = .returned (.map (some w.heap.size)) ∧ w' = w.alloc (.map es clock) := AnyW.maps_Clone Tryz.cloneA mb es clock w hb
set_option maxRecDepth 100000 in
theorem ccopy_any (cb tb mb : Nat) (ws now : List Int) (w : World) (hc : ChgIs w cb tb mb ws now) :
    Calls Tryz.prog 144 #[.pointer (some ⟨cb, 0, none⟩)] w fun e w' => ∃ cb' mb', e = .returned (.pointer (some ⟨cb', 0, none⟩)) ∧ ChgIs w' cb' tb mb' ws now ∧ w.heap.size ≤ cb' ∧ w.heap.size ≤ mb' ∧ Fr New w w' := by
  have hbl := hc.below
  have hmp := hc.map
  have hlt : cb < w.heap.size := lt_of_block hc.cg
  obtain ⟨D, ⟨es, clock, hb, r⟩, hd⟩ := hc.mp
  have HCL : Hid (Calls Tryz.prog 156 #[.map (some mb)] w fun e w' => e = .returned (.map (some w.heap.size)) ∧ w' = w.alloc (.map es clock)) := clone_any mb es clock w hb
  have HCD : Hid (Calls Tryz.prog 156 #[.map (some mb)] w.drew fun e w' => e = .returned (.map (some w.heap.size)) ∧ w' = w.drew.alloc (.map es clock)) := clone_any mb es clock w.drew hb
  have HF : Hid (∀ W, (W = w ∨ W = w.drew) → ChgIs ((W.alloc (.map es clock)).alloc (.cells #[.iface 97 (.pointer (some ⟨tb, 0, none⟩)), .map (some w.heap.size)] 168)) (w.heap.size + 1) tb w.heap.size ws now ∧ Fr New w ((W.alloc (.map es clock)).alloc (.cells #[.iface 97 (.pointer (some ⟨tb, 0, none⟩)), .map (some w.heap.size)] 168))) := fun W hW => by
    have hs : W.heap.size = w.heap.size := by rcases hW with rfl | rfl <;> rfl
    have hf : Fr New w W := by
      rcases hW with rfl | rfl
      · exact Fr.refl _ _
      · exact (Fr.refl _ _).drew
    refine ⟨⟨?_, ⟨D, ⟨es, clock, ?_, r⟩, hd⟩, hc.len, hc.un⟩, (hf.alloc _).alloc _⟩
    · exact new_at _ _ _ (by simp [hs])
    · rw [Go.Deep.blk_alloc_lt _ _ _ (by simp [hs]), ← hs]
      exact (MapKept.heap_alloc W _).1
  clear hc hb r hd
  go_enter Tryz.func144, Tryz.ntmps144
  go_upto_region 1 with fail
  go_region_with (first
    | (go_at_call 156; refine HCL.out.mono ?_; rintro e w2 ⟨rfl, rfl⟩)
    | (go_at_call 156; refine HCD.out.mono ?_; rintro e w2 ⟨rfl, rfl⟩))
  all_goals (try go_wp2_with fail)
  all_goals
    go_ret
    first
      | exact ⟨_, _, rfl, (HF.out w (.inl rfl)).1, by omega, Nat.le_refl _, (HF.out w (.inl rfl)).2⟩
      | exact ⟨_, _, rfl, (HF.out w.drew (.inr rfl)).1, by omega, Nat.le_refl _, (HF.out w.drew (.inr rfl)).2⟩
      | exact ⟨_, _, rfl, (HF.out w (.inl rfl)).1.fr ((Fr.refl New _).drew) id id, by omega, Nat.le_refl _, (HF.out w (.inl rfl)).2.drew⟩
      | exact ⟨_, _, rfl, (HF.out w.drew (.inr rfl)).1.fr ((Fr.refl New _).drew) id id, by omega, Nat.le_refl _, (HF.out w.drew (.inr rfl)).2.drew⟩
set_option maxRecDepth 100000 in
theorem next_any (x0 x1 x2 x3 x4 x5 x6 x7 : Int) (w : World) :
    Calls Tryz.prog 145 #[.agg #[.int .u64 x0, .int .u64 x1, .int .u64 x2, .int .u64 x3, .int .u64 x4, .int .u64 x5, .int .u64 x6, .int .u64 x7]] w fun e w' =>
      e = .returned (.agg #[.int .u64 x0, .int .u64 x1, .int .u64 (IntKind.u64.wrap (x2 + 1)), .int .u64 x3, .int .u64 x4, .int .u64 x5, .int .u64 x6, .int .u64 (sumL [x0, x1, IntKind.u64.wrap (x2 + 1), x3, x4, x5, x6])]) ∧ Fr New w w' := by
  have HS : Hid (∀ y w, Calls Tryz.prog 112 #[.agg #[.int .u64 x0, .int .u64 x1, .int .u64 y, .int .u64 x3, .int .u64 x4, .int .u64 x5, .int .u64 x6, .int .u64 x7]] w fun e w' => e = .returned (.agg #[.int .u64 x0, .int .u64 x1, .int .u64 y, .int .u64 x3, .int .u64 x4, .int .u64 x5, .int .u64 x6, .int .u64 (sumL [x0, x1, y, x3, x4, x5, x6])]) ∧ Fr New w w') := fun y w => sealed_any x0 x1 y x3 x4 x5 x6 x7 w
  go_enter Tryz.func145, Tryz.ntmps145
  go_wp2_with (go_at_call 112; refine (HS.out _ _).mono ?_; rintro e w1 ⟨rfl, hf1⟩; obtain ⟨hcc, hzz⟩ := block_cells (hf1.heap (k := w.heap.size + 1) (new_at2 w _ _) id))
  refine bodyPost_ret (v := .agg #[.int .u64 x0, .int .u64 x1, .int .u64 (IntKind.u64.wrap (x2 + 1)), .int .u64 x3, .int .u64 x4, .int .u64 x5, .int .u64 x6, .int .u64 (sumL [x0, x1, IntKind.u64.wrap (x2 + 1), x3, x4, x5, x6])]) (by simp [results, Tryz.results145, go_sem, hcc]) rfl ⟨rfl, ?_⟩
  have hf : Fr New w w1 := (((Fr.refl _ _).alloc _).alloc _).same hf1
  iterate 8 refine Fr.setCell ?_ (fun h => absurd h (by simp)) _
  exact hf
end Go.Proofs.YtbagcjlimdilpaaGreat
/- The document's Open: what it answers, and a heap while it is opened. -/
namespace Go.Proofs.YtbagcjlimdilpaaGreat
open Go.RowKit

/-- the words of a heap that is opened, and its stores -/
def openW (ws : List Int) : List Int := if (asksS ws).1 = 0 then ws else (doneS ws (asksS ws).1).set 8 0
def putsS (ws : List Int) (i : Nat) : List St := (List.range i).map (fun j => ⟨1, wd ws (10 + 2 * j), wd ws (11 + 2 * j)⟩)
theorem putsS_succ (ws : List Int) (i : Nat) : putsS ws (i + 1) = putsS ws i ++ [⟨1, wd ws (10 + 2 * i), wd ws (11 + 2 * i)⟩] := by simp [putsS, List.range_succ]
theorem putsS_len (ws : List Int) (i : Nat) : (putsS ws i).length = i := by simp [putsS]
def openSt (ws : List Int) : List St := if (asksS ws).1 = 0 then [] else putsS ws (asksS ws).1 ++ [⟨2, 0, 0⟩] ++ [⟨1, 8, 0⟩] ++ [⟨2, 0, 0⟩]
def OpenErr (ws : List Int) (c : Int) : Prop := (nblk ws.length = 0 ∧ c = 2) ∨ (nblk ws.length ≠ 0 ∧ (((asksS ws).2 = false ∧ c = 4) ∨ ((asksS ws).2 = true ∧ c ≠ 0 ∧ c ≠ 8 ∧ ∃ p, CheckIs (openW ws) c p)))
def OpenOk (ws : List Int) : Prop := nblk ws.length ≠ 0 ∧ (asksS ws).2 = true ∧ ∃ c p, CheckIs (openW ws) c p ∧ (c = 0 ∨ c = 8)
theorem open_not {ws : List Int} {c : Int} (h : OpenErr ws c) (h' : OpenOk ws) : False := by
  obtain ⟨h1, h2, c', p', h3, h4⟩ := h'
  rcases h with ⟨g1, _⟩ | ⟨_, ⟨g2, _⟩ | ⟨_, g3, g4, p, g5⟩⟩
  · exact h1 g1
  · rw [h2] at g2; cases g2
  · obtain ⟨rfl, _⟩ := told_one g5 h3
    rcases h4 with h4 | h4
    · exact g3 h4
    · exact g4 h4

/-- a heap that is being opened: all of it is new -/
structure Opening (w : World) (hb gw cw L : Nat) (vs : Value) (cur : List Int) (st : List St) (wr : World) : Prop where
  g : RHG hb gw cw L (.slice none 0 0) vs cur st wr
  fr : Fr New w wr
  v : ∀ k, vs.ownBlock = some k → w.heap.size ≤ k
  b : w.heap.size ≤ hb
  w' : w.heap.size ≤ gw
theorem Opening.grow {w : World} {hb gw cw L : Nat} {vs : Value} {cur : List Int} {st : List St} {wr wx : World} (h : Opening w hb gw cw L vs cur st wr) (hf : Fr New wr wx) : Opening w hb gw cw L vs cur st wx := ⟨h.g.fr hf, h.fr.same hf, h.v, h.b, h.w'⟩
theorem Opening.next {w : World} {hb gw cw L : Nat} {vs vs' : Value} {cur cur' : List Int} {st st' : List St} {wr wx : World} (h : Opening w hb gw cw L vs cur st wr) (g : RHG hb gw cw L (.slice none 0 0) vs' cur' st' wx) (hf : Fr (TurnedH hb gw vs) wr wx) (hv : vs'.ownBlock = vs.ownBlock ∨ ∀ k, vs'.ownBlock = some k → wr.heap.size ≤ k) : Opening w hb gw cw L vs' cur' st' wx := by
  refine ⟨g, h.fr.trans hf (fun j hj ht => ?_), fun k hk => ?_, h.b, h.w'⟩
  · rcases ht with rfl | rfl | ht
    · have := h.b; omega
    · have := h.w'; omega
    · have := h.v j ht; omega
  · rcases hv with hv | hv
    · exact h.v k (by rw [← hv]; exact hk)
    · have := hv k hk; have := h.fr.size; omega
theorem Opening.cell {w : World} {hb gw cw L : Nat} {vs : Value} {cur : List Int} {st : List St} {wr : World} (h : Opening w hb gw cw L vs cur st wr) (q : Nat) (hq : q < L) : wr.cell? ⟨gw, q, none⟩ = some (.int .u64 (wd cur q)) := by
  have hq' : q < cur.length := by rw [h.g.lenw]; exact hq
  rw [h.g.ownw.cellAt q (by omega)]
  unfold wd
  simp [hq', List.getD]
theorem Opening.words {w : World} {hb gw cw L : Nat} {vs : Value} {cur : List Int} {st : List St} {wr : World} (h : Opening w hb gw cw L vs cur st wr) : wr.cell? ⟨hb, 0, none⟩ = some (.slice (some ⟨gw, 0, none⟩) L cw) ∧ hb < wr.heap.size ∧ gw < wr.heap.size := by
  obtain ⟨_, c, hc⟩ := own_block h.g.ownw rfl
  exact ⟨((block_cells h.g.blk).1 0).trans rfl, lt_of_block h.g.blk, lt_of_block hc⟩

end Go.Proofs.YtbagcjlimdilpaaGreat
/- Walks of the program's Header, Room's closure, Walk with it, Room. -/
namespace Go.Proofs.YtbagcjlimdilpaaGreat
open Go.RowKit Go.Maps

theorem header_any (s p : Nat) (w : World) (hs : s ≤ 4) (hp : p ≤ 32) : Calls Tryz.prog 117 #[.int .i64 (s : Int), .int .i64 (p : Int)] w fun e w' => e = .returned (.int .u64 (1000000 + 100 * (s : Int) + p)) ∧ w' = w := by
  have hw : IntKind.u64.wrap (1000000 + 100 * (s : Int) + p) = 1000000 + 100 * (s : Int) + p := by rw [IntKind.wrap_u64]; omega
  go_enter Tryz.func117, Tryz.ntmps117
  go_wp2
  go_ret
  exact ⟨rfl, rfl⟩

/-- what a search for room keeps: how many free blocks stand in a row, and what was found -/
structure RoomS where
  free : Nat
  found : Option Nat
/-- .. behind a free block b -/
def RoomS.free1 (s : Nat) (r : RoomS) (b : Nat) : RoomS := ⟨r.free + 1, if r.free + 1 = s ∧ r.found = none then some (b + 1 - s) else r.found⟩
/-- .. behind anything else -/
def RoomS.other (r : RoomS) : RoomS := ⟨0, r.found⟩
/-- the search over the blocks from b on -/
def roomF (ws : List Int) (s n : Nat) : Nat → Nat → RoomS → RoomS
  | 0, _, r => r
  | fuel + 1, b, r => if b < n then
      match slotAt ws b with
      | none => roomF ws s n fuel (b + 1) (r.free1 s b)
      | some (some o) => roomF ws s n fuel (b + o.span) r.other
      | some none => roomF ws s n fuel (b + 1) r.other
    else r
/-- the handle of what was found; 0: none -/
def foundN : Option Nat → Nat
  | some b => b + 1
  | none => 0
/-- the four cells: span, block, ok, free -/
structure RoomAt (w0 : World) (s : Nat) (r : RoomS) (wr : World) : Prop where
  sp : wr.heap[w0.heap.size]? = some (.cells #[.int .i64 (s : Int)] 3 (0, 0))
  bl : wr.heap[w0.heap.size + 1]? = some (.cells #[.int .i64 (foundN r.found : Int)] 3 (0, 0))
  ok : wr.heap[w0.heap.size + 2]? = some (.cells #[.bool r.found.isSome] 4 (0, 0))
  fr : wr.heap[w0.heap.size + 3]? = some (.cells #[.int .i64 (r.free : Int)] 3 (0, 0))
  nw : Fr New w0 wr
theorem RoomAt.grow {w0 : World} {s : Nat} {r : RoomS} {wr w' : World} (h : RoomAt w0 s r wr) (hf : Fr New wr w') : RoomAt w0 s r w' := ⟨hf.heap h.sp id, hf.heap h.bl id, hf.heap h.ok id, hf.heap h.fr id, h.nw.same hf⟩
/-- the blocks of the search -/
def TRoom (w0 : World) (j : Nat) : Prop := w0.heap.size ≤ j ∧ j < w0.heap.size + 4
theorem RoomAt.setFree {w0 : World} {s : Nat} {r : RoomS} {wr : World} (h : RoomAt w0 s r wr) (x : Nat) : RoomAt w0 s ⟨x, r.found⟩ (wr.setCell ⟨w0.heap.size + 3, 0, none⟩ (.int .i64 (x : Int))) ∧ Fr (TRoom w0) wr (wr.setCell ⟨w0.heap.size + 3, 0, none⟩ (.int .i64 (x : Int))) := by
  have hF : Fr (fun j => j = w0.heap.size + 3) wr (wr.setCell ⟨w0.heap.size + 3, 0, none⟩ (.int .i64 (x : Int))) := (Fr.refl (fun j => j = w0.heap.size + 3) wr).setCell (p := ⟨w0.heap.size + 3, 0, none⟩) (fun _ => rfl) _
  exact ⟨⟨hF.heap h.sp (by omega), hF.heap h.bl (by omega), hF.heap h.ok (by omega), (heap_setCell_same _ _ 0 _ _ _ h.fr).trans (by simp), h.nw.trans hF (fun j hj he => by omega)⟩, hF.mono (fun j hj he => by unfold TRoom; omega)⟩
theorem RoomAt.setFound {w0 : World} {s : Nat} {r : RoomS} {wr : World} (h : RoomAt w0 s r wr) (x : Nat) : RoomAt w0 s ⟨r.free, some x⟩ ((wr.setCell ⟨w0.heap.size + 1, 0, none⟩ (.int .i64 ((x + 1 : Nat) : Int))).setCell ⟨w0.heap.size + 2, 0, none⟩ (.bool true)) ∧ Fr (TRoom w0) wr ((wr.setCell ⟨w0.heap.size + 1, 0, none⟩ (.int .i64 ((x + 1 : Nat) : Int))).setCell ⟨w0.heap.size + 2, 0, none⟩ (.bool true)) := by
  have hF : Fr (fun j => j = w0.heap.size + 1) wr (wr.setCell ⟨w0.heap.size + 1, 0, none⟩ (.int .i64 ((x + 1 : Nat) : Int))) := (Fr.refl (fun j => j = w0.heap.size + 1) wr).setCell (p := ⟨w0.heap.size + 1, 0, none⟩) (fun _ => rfl) _
  have hG : Fr (fun j => j = w0.heap.size + 2) (wr.setCell ⟨w0.heap.size + 1, 0, none⟩ (.int .i64 ((x + 1 : Nat) : Int))) ((wr.setCell ⟨w0.heap.size + 1, 0, none⟩ (.int .i64 ((x + 1 : Nat) : Int))).setCell ⟨w0.heap.size + 2, 0, none⟩ (.bool true)) := (Fr.refl (fun j => j = w0.heap.size + 2) _).setCell (p := ⟨w0.heap.size + 2, 0, none⟩) (fun _ => rfl) _
  exact ⟨⟨hG.heap (hF.heap h.sp (by omega)) (by omega), hG.heap ((heap_setCell_same _ _ 0 _ _ _ h.bl).trans (by simp [foundN])) (by omega), (heap_setCell_same _ _ 0 _ _ _ (hF.heap h.ok (by omega))).trans (by simp), hG.heap (hF.heap h.fr (by omega)) (by omega), (h.nw.trans hF (fun j hj he => by omega)).trans hG (fun j hj he => by omega)⟩,
    (hF.mono (fun j hj he => by unfold TRoom; omega)).trans hG (fun j hj he => by unfold TRoom; omega)⟩
/-- the closure's arguments -/
abbrev roomCaps (w0 : World) (v : Value) : Array Value := #[v, .pointer (some ⟨w0.heap.size + 3, 0, none⟩), .pointer (some ⟨w0.heap.size, 0, none⟩), .pointer (some ⟨w0.heap.size + 2, 0, none⟩), .pointer (some ⟨w0.heap.size + 1, 0, none⟩)]
/-- the closure, told of a block that is not free -/
theorem room_other (w0 : World) (s : Nat) (r : RoomS) (k b t p : Int) (hk : k ≠ 0) (w : World) (h : RoomAt w0 s r w) :
    Calls Tryz.prog 116 (roomCaps w0 (.agg #[.int .i64 k, .int .i64 b, .int .i64 t, .int .i64 p])) w fun e w' => e = .returned (.tuple #[]) ∧ RoomAt w0 s r.other w' ∧ Fr (TRoom w0) w w' := by
  have hd : (k != 0) = true := by simpa using hk
  obtain ⟨c3, z3⟩ := block_cells h.fr
  have hc : w.cell? ⟨w0.heap.size + 3, 0, none⟩ = some (.int .i64 (r.free : Int)) := (c3 0).trans rfl
  have hz := z3 0
  have hlt := lt_of_block h.fr
  have HR : Hid (RoomAt w0 s r.other (w.setCell ⟨w0.heap.size + 3, 0, none⟩ (.int .i64 0)) ∧ Fr (TRoom w0) w (w.setCell ⟨w0.heap.size + 3, 0, none⟩ (.int .i64 0))) := h.setFree 0
  clear c3 z3 h
  go_enter Tryz.func116, Tryz.ntmps116
  go_wp2
  exact bodyPost_ret (v := .tuple #[]) (by simp [results, Tryz.results116, go_sem]) rfl ⟨rfl, HR.out.1.grow ((Fr.refl _ _).alloc _), HR.out.2.alloc _⟩
/-- .. of a free one -/
theorem room_free (w0 : World) (s : Nat) (r : RoomS) (b : Nat) (w : World) (h : RoomAt w0 s r w) (hs : 1 ≤ s) (hs4 : s ≤ 4) (hb : b ≤ 32) (hf : r.free ≤ b) :
    Calls Tryz.prog 116 (roomCaps w0 (.agg #[.int .i64 0, .int .i64 ((b + 1 : Nat) : Int), .int .i64 1, .int .i64 0])) w fun e w' => e = .returned (.tuple #[]) ∧ RoomAt w0 s (r.free1 s b) w' ∧ Fr (TRoom w0) w w' := by
  obtain ⟨fr, fd⟩ := r
  simp only at hf
  have hc0 : w.cell? ⟨w0.heap.size, 0, none⟩ = some (.int .i64 (s : Int)) := ((block_cells h.sp).1 0).trans rfl
  have hc1 : w.cell? ⟨w0.heap.size + 1, 0, none⟩ = some (.int .i64 (foundN fd : Int)) := ((block_cells h.bl).1 0).trans rfl
  have hc2 : w.cell? ⟨w0.heap.size + 2, 0, none⟩ = some (.bool fd.isSome) := ((block_cells h.ok).1 0).trans rfl
  have hc3 : w.cell? ⟨w0.heap.size + 3, 0, none⟩ = some (.int .i64 (fr : Int)) := ((block_cells h.fr).1 0).trans rfl
  have z1 := (block_cells h.bl).2 0
  have z2 := (block_cells h.ok).2 0
  have z3 := (block_cells h.fr).2 0
  have hlt := lt_of_block h.fr
  have h1 := h.setFree (fr + 1)
  obtain ⟨a0, ha0⟩ : ∃ a, a = w0.heap.size := ⟨_, rfl⟩
  obtain ⟨a1, ha1⟩ : ∃ a, a = w0.heap.size + 1 := ⟨_, rfl⟩
  obtain ⟨a2, ha2⟩ : ∃ a, a = w0.heap.size + 2 := ⟨_, rfl⟩
  obtain ⟨a3, ha3⟩ : ∃ a, a = w0.heap.size + 3 := ⟨_, rfl⟩
  have n03 : ¬ a0 = a3 := by omega
  have n30 : ¬ a3 = a0 := by omega
  have n13 : ¬ a1 = a3 := by omega
  have n31 : ¬ a3 = a1 := by omega
  have n23 : ¬ a2 = a3 := by omega
  have n32 : ¬ a3 = a2 := by omega
  have n12 : ¬ a1 = a2 := by omega
  have n21 : ¬ a2 = a1 := by omega
  have n01 : ¬ a0 = a1 := by omega
  have n10 : ¬ a1 = a0 := by omega
  have l0 : a0 < w.heap.size := by omega
  have l1 : a1 < w.heap.size := by omega
  have l2 : a2 < w.heap.size := by omega
  have l3 : a3 < w.heap.size := by omega
  unfold roomCaps
  rw [← ha3] at hc3 z3
  rw [← ha2] at hc2 z2
  rw [← ha1] at hc1 z1
  rw [← ha0] at hc0
  rw [← ha3, ← ha2, ← ha1, ← ha0]
  by_cases hq : fr + 1 = s ∧ fd = none
  · obtain ⟨rfl, rfl⟩ := hq
    have h2 := h1.1.setFound (b + 1 - (fr + 1))
    have HR : Hid (RoomAt w0 (fr + 1) (RoomS.free1 (fr + 1) ⟨fr, none⟩ b) (((w.setCell ⟨a3, 0, none⟩ (.int .i64 ((fr : Int) + 1))).setCell ⟨a1, 0, none⟩ (.int .i64 ((b : Int) + 1 - ((fr : Int) + 1) + 1))).setCell ⟨a2, 0, none⟩ (.bool true)) ∧ Fr (TRoom w0) w (((w.setCell ⟨a3, 0, none⟩ (.int .i64 ((fr : Int) + 1))).setCell ⟨a1, 0, none⟩ (.int .i64 ((b : Int) + 1 - ((fr : Int) + 1) + 1))).setCell ⟨a2, 0, none⟩ (.bool true))) := by
      have e1 : ((fr + 1 : Nat) : Int) = (fr : Int) + 1 := by omega
      have e2 : ((b + 1 - (fr + 1) + 1 : Nat) : Int) = (b : Int) + 1 - ((fr : Int) + 1) + 1 := by omega
      rw [e1, e2] at h2
      rw [e1] at h1
      rw [ha3, ha2, ha1]
      refine ⟨?_, h1.2.trans h2.2 (fun _ _ h => h)⟩
      have := h2.1
      simpa [RoomS.free1] using this
    clear h h1 h2 ha0 ha1 ha2 ha3 hlt
    go_enter Tryz.func116, Tryz.ntmps116
    go_wp2
    go_end0
    exact ⟨rfl, HR.out.1.grow ((Fr.refl _ _).alloc _), HR.out.2.alloc _⟩
  · have HR : Hid (RoomAt w0 s (RoomS.free1 s ⟨fr, fd⟩ b) (w.setCell ⟨a3, 0, none⟩ (.int .i64 ((fr : Int) + 1))) ∧ Fr (TRoom w0) w (w.setCell ⟨a3, 0, none⟩ (.int .i64 ((fr : Int) + 1)))) := by
      have e1 : ((fr + 1 : Nat) : Int) = (fr : Int) + 1 := by omega
      rw [e1] at h1
      rw [ha3]
      refine ⟨?_, h1.2⟩
      have := h1.1
      unfold RoomS.free1
      rw [if_neg hq]
      exact this
    by_cases he : fr + 1 = s
    · subst he
      obtain ⟨y, rfl⟩ : ∃ y, fd = some y := by
        cases fd with
        | none => exact absurd ⟨rfl, rfl⟩ hq
        | some y => exact ⟨y, rfl⟩
      clear h h1 hq ha0 ha1 ha2 ha3 hlt
      go_enter Tryz.func116, Tryz.ntmps116
      go_wp2
      go_end0
      exact ⟨rfl, HR.out.1.grow ((Fr.refl _ _).alloc _), HR.out.2.alloc _⟩
    · have hne : ((fr : Int) + 1 == (s : Int)) = false := by simp; omega
      clear h h1 hq he ha0 ha1 ha2 ha3 hlt
      go_enter Tryz.func116, Tryz.ntmps116
      go_wp2
      go_end0
      exact ⟨rfl, HR.out.1.grow ((Fr.refl _ _).alloc _), HR.out.2.alloc _⟩
end Go.Proofs.YtbagcjlimdilpaaGreat
