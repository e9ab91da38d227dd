/- Walks of the document's blocks, object, place, find: they answer as the mathematics says. -/
import Derived.Test.YtbagcjlimdilpaaGreatHhJ0
import Derived.Test.YtbagcjlimdilpaaGreatHhJ1
import Derived.Deep.LoopGhost
namespace Go.Proofs.YtbagcjlimdilpaaGreat
open Go.RowKit

theorem blocks_any (n : Nat) (w : World) (hn : n ≤ 9223372036854775807) :
    Calls Tryz.prog 127 #[.int .i64 n] w fun e w' => e = .returned (.int .i64 (nblk n)) ∧ w' = w := by
  go_enter Tryz.func127, Tryz.ntmps127
  go_wp2
  go_loop [3] (fun t => ∃ b : Nat, 1 ≤ b ∧ b ≤ 33 ∧ t = .int .i64 b ∧ ∀ c, 1 ≤ c → c < b → n ≠ 106 + 8 * c) (fun t => 33 - (intOf t).toNat)
  case atStart => exact ⟨1, by omega, by omega, rfl, fun c h1 h2 => by omega⟩
  case round =>
    obtain ⟨b, h1, h33, rfl, hno⟩ := hrel
    have HN : Hid (∀ c, 1 ≤ c → c < b → n ≠ 106 + 8 * c) := hno
    clear hno
    by_cases hb : b ≤ 32
    · by_cases he : n = 106 + 8 * b
      · subst he
        go_wp2
        go_ret
        exact ⟨ret_i (by rw [nblk_mk b h1 hb]), rfl⟩
      · go_wp2
        go_round
        case rel => exact ⟨b + 1, by omega, by omega, by go_num, fun c h1 h2 => by
          rcases Nat.lt_or_ge c b with h | h
          · exact HN.out c h1 h
          · have : c = b := by omega
            subst this; exact he⟩
        case measure => simp [intOf]; omega
    · go_wp2
      go_ret
      refine ⟨ret_i ?_, rfl⟩
      have : nblk n = 0 := by
        by_cases h : nblk n = 0
        · exact h
        · obtain ⟨e1, e2, e3⟩ := nblk_some h
          exact absurd e1 (HN.out _ e2 (by omega))
      rw [this]; rfl

/-- an object as a value -/
abbrev obV (o : Ob) : Value := .agg #[.int .i64 o.block, .int .i64 o.span, .int .i64 o.ptrs]
/-- what the document's 'object' answers -/
def objectV (s : Option (Option Ob)) : Value :=
  match s with
  | none => .tuple #[.agg #[.int .i64 0, .int .i64 0, .int .i64 0], .int .i64 0]
  | some (some o) => .tuple #[obV o, .int .i64 1]
  | some none => .tuple #[.agg #[.int .i64 0, .int .i64 0, .int .i64 0], .int .i64 2]

/-- words that come in, by their plain address -/
theorem rowU_plain {w : World} {a : Option Addr} {ws : List Int} (h : RowU w a ws) (hp : 0 < ws.length) :
    ∃ sb so, a = some ⟨sb, so, none⟩ ∧ sb < w.heap.size ∧ ∀ i, i < ws.length → w.cell? ⟨sb, so + i, none⟩ = some (.int .u64 (wd ws i)) := by
  obtain ⟨x, rfl, h0⟩ := h 0 hp
  obtain ⟨sb, so, spot⟩ := x
  obtain rfl : spot = none := by simpa [Addr.add] using World.cell?_spot h0
  have hlt := World.block_lt_of_cell? w _ h0
  refine ⟨sb, so, rfl, by simpa [Addr.add] using hlt, fun i hi => ?_⟩
  obtain ⟨y, hy, hc⟩ := h i hi
  cases hy
  rw [Addr.add_lit] at hc
  exact hc

set_option maxHeartbeats 1000000 in
set_option maxRecDepth 1000000 in
theorem object_any (a : Option Addr) (cap : Nat) (ws : List Int) (b : Nat) (w : World) (hm : ws.length ≤ 1048576) (hb : 106 + 8 * b < ws.length) (hr : RowU w a ws) :
    Calls Tryz.prog 151 #[.slice a ws.length cap, .int .i64 b] w fun e w' => e = .returned (objectV (slotAt ws b)) ∧ Fr New w w' := by
  obtain ⟨sb, so, rfl, hsb, hcs⟩ := rowU_plain hr (by omega)
  have hc0 := hcs _ hb
  clear hcs hr
  obtain ⟨h, hh⟩ : ∃ h, h = wd ws (106 + 8 * b) := ⟨_, rfl⟩
  rw [← hh] at hc0
  have HH : Hid (h = wd ws (106 + 8 * b)) := hh
  clear hh
  by_cases h0 : h = 0
  · subst h0
    rw [slot_free HH.out.symm]
    go_enter Tryz.func151, Tryz.ntmps151
    go_wp2
    exact bodyPost_ret (v := objectV none) (by simp [results, Tryz.results151, go_sem, objectV]) rfl ⟨rfl, (Fr.refl _ _).alloc _⟩
  · have hz : (h == 0) = false := by simpa using h0
    go_enter Tryz.func151, Tryz.ntmps151
    go_wp2
    have hf0 : Fr New w (w.alloc (.cells #[.int .i64 0, .int .i64 0, .int .i64 0] 190)) := (Fr.refl _ _).alloc _
    go_loopg [7] 4 (fun g t wr => ∃ s : Nat, 1 ≤ s ∧ s ≤ 5 ∧ g = 5 - s ∧ t = .int .i64 s ∧ wr = w.alloc (.cells #[.int .i64 0, .int .i64 0, .int .i64 0] 190) ∧ ∀ s' p', 1 ≤ s' → s' < s → p' < 8 * s' → ¬ Hdr ws.length b h s' p')
    case atStart => exact ⟨1, by omega, by omega, rfl, rfl, rfl, fun s' p' h1 h2 => by omega⟩
    case round =>
      obtain ⟨s, h1, h5, rfl, rfl, rfl, hno⟩ := hrel
      have HN : Hid (∀ s' p', 1 ≤ s' → s' < s → p' < 8 * s' → ¬ Hdr ws.length b h s' p') := hno
      clear hno
      by_cases h4 : s ≤ 4
      · have hd4 : decide ((s : Int) ≤ 4) = true := by simp; omega
        go_wp2
        go_loopg [8] (8 * s) (fun g t wr => ∃ p : Nat, p ≤ 8 * s ∧ g = 8 * s - p ∧ t = .int .i64 p ∧ wr = w.alloc (.cells #[.int .i64 0, .int .i64 0, .int .i64 0] 190) ∧ ∀ p', p' < p → ¬ Hdr ws.length b h s p')
        case atStart => exact ⟨0, by omega, rfl, rfl, rfl, fun p' h => by omega⟩
        case round =>
          obtain ⟨p, hp, rfl, rfl, rfl, hno⟩ := hrel
          have HP : Hid (∀ p', p' < p → ¬ Hdr ws.length b h s p') := hno
          clear hno
          by_cases hp8 : p < 8 * s
          · by_cases he : h = 1000000 + 100 * (s : Int) + (p : Int)
            · by_cases hl : 106 + 8 * (b + s) ≤ ws.length
              · have HS : Hid (slotAt ws b = some (some ⟨b, s, p⟩)) := slot_ob (by rw [← HH.out]; exact ⟨he, hl⟩) h1 h4 hp8
                subst he
                go_wp2
                rw [HS.out]
                exact bodyPost_ret (v := objectV (some (some ⟨b, s, p⟩))) (by simp [results, Tryz.results151, go_sem, objectV]) rfl ⟨rfl, (Fr.refl _ _).alloc _⟩
              · have HX : Hid (¬ Hdr ws.length b h s p) := fun hx => hl hx.2
                have HE : Hid (h = 1000000 + 100 * (s : Int) + (p : Int)) := he
                go_wp2
                go_roundg (8 * s - (p + 1))
                case measure => omega
                case rel => exact ⟨p + 1, by omega, rfl, by go_num, rfl, fun p' hp' => by
                  rcases Nat.lt_or_ge p' p with hlt | hge
                  · exact HP.out p' hlt
                  · obtain rfl : p' = p := by omega
                    exact HX.out⟩
            · have HX : Hid (¬ Hdr ws.length b h s p) := fun hx => he hx.1
              go_wp2
              go_roundg (8 * s - (p + 1))
              case measure => omega
              case rel => exact ⟨p + 1, by omega, rfl, by go_num, rfl, fun p' hp' => by
                rcases Nat.lt_or_ge p' p with hlt | hge
                · exact HP.out p' hlt
                · obtain rfl : p' = p := by omega
                  exact HX.out⟩
          · go_wp2
            go_roundg (5 - (s + 1))
            case measure => omega
            case rel => exact ⟨s + 1, by omega, by omega, rfl, by go_num, rfl, fun s' p' h1' h2' h3' => by
              rcases Nat.lt_or_ge s' s with hlt | hge
              · exact HN.out s' p' h1' hlt h3'
              · obtain rfl : s' = s := by omega
                exact HP.out p' (by omega)⟩
      · have HS : Hid (slotAt ws b = some none) := slot_bad (by rw [← HH.out]; exact h0) (fun s' p' a1 a2 a3 => by rw [← HH.out]; exact HN.out s' p' a1 (by omega) a3)
        go_wp2
        rw [HS.out]
        exact bodyPost_ret (v := objectV (some none)) (by simp [results, Tryz.results151, go_sem, objectV]) rfl ⟨rfl, (Fr.refl _ _).alloc _⟩
end Go.Proofs.YtbagcjlimdilpaaGreat
