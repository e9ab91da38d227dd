/- Texts that follow one another, joined. -/
import Derived.Test.YtbagcjlimdilpaaGreatKtPiD
import Derived.Test.YtbagcjlimdilpaaGreatKtPiE
import Derived.Test.YtbagcjlimdilpaaGreatKtJ7
import Derived.Test.YtbagcjlimdilpaaGreatKtKpA
import Derived.Test.YtbagcjlimdilpaaGreatKtJ8
import Derived.Test.YtbagcjlimdilpaaGreatKtPgH
import Derived.Test.YtbagcjlimdilpaaGreatKtKqB
/- The walk of the program's Commit. -/
namespace Go.Proofs.YtbagcjlimdilpaaGreat
open Go.RowKit Go.Maps

theorem drop_to (cb tb mb : Nat) (ws now ws' : List Int) (w : World) (hc : ChgIs w cb tb mb ws now) (hU : ∀ z ∈ ws', U z) :
    Calls Tryz.prog 52 #[.pointer (some ⟨cb, 0, none⟩)] w fun e w' => e = .returned (.tuple #[]) ∧ ChgIs w' cb tb mb ws' ws' ∧ Fr (fun k => k = mb) w w' ∧ w'.heap.size = w.heap.size := by
  have hmp := hc.map
  obtain ⟨D, ⟨es, clock, hb, hF, _⟩, hd⟩ := hc.mp
  have hcl := fun ty => clear_map (w := w) ty hb
  have hne : cb ≠ mb := by rintro rfl; rw [hc.cg] at hb; cases hb
  go_enter Tryz.func52, Tryz.ntmps52
  go_wp2
  go_end0
  have hfr : Fr (fun k => k = mb) w (Go.ChangeMaps.setBlock w mb (.map #[] clock)) := ⟨rfl, rfl, rfl, by simp [Go.ChangeMaps.setBlock], fun k hk hn => by simp [Go.ChangeMaps.setBlock, Ne.symm hn]⟩
  exact ⟨rfl, ⟨hfr.heap hc.cg hne, ⟨.map [], ⟨#[], clock, by simp [Go.ChangeMaps.setBlock, lt_of_block hb], ⟨by simp, Go.MapKept.stamped_empty clock, by simp⟩, by simp, by simp⟩, diff_none ws'⟩, rfl, hU⟩, hfr, by simp [Go.ChangeMaps.setBlock]⟩
theorem difP_none {ws now : List Int} (hl : now.length = ws.length) : difP ws now = [] ↔ now = ws := by
  constructor
  · intro h
    refine wd_ext hl (fun q => ?_)
    by_cases hq : q < ws.length
    · by_cases he : wd now q = wd ws q
      · exact he
      · have : q ∈ difP ws now := mem_difP.2 ⟨hq, he⟩
        rw [h] at this; cases this
    · simp only [wd, List.getD]
      rw [List.getElem?_eq_none (by omega), List.getElem?_eq_none (by omega)]
  · rintro rfl
    rw [List.eq_nil_iff_forall_not_mem]
    intro q hq
    exact (mem_difP.1 hq).2 rfl
theorem recs_len (ws nx : List Int) : (recsOf ws nx).length = (difP ws nx).length := by simp [recsOf]
theorem recs_in {ws nx : List Int} : ∀ r ∈ recsOf ws nx, 0 ≤ r.1 ∧ r.1 < (ws.length : Int) := fun r hr => by
  simp only [recsOf, List.mem_map] at hr
  obtain ⟨q, hq, rfl⟩ := hr
  have := (mem_difP.1 hq).1
  exact ⟨by simp only; omega, by simp only; omega⟩
theorem set_U {ws : List Int} {q : Nat} {v : Int} (h : ∀ z ∈ ws, U z) (hv : U v) : ∀ z ∈ ws.set q v, U z := fun z hz => by
  rcases List.mem_or_eq_of_mem_set hz with h' | rfl
  · exact h z h'
  · exact hv
theorem putsW_U {rs : List (Int × Int)} : ∀ {ws : List Int}, (∀ z ∈ ws, U z) → (∀ r ∈ rs, U r.2) → ∀ z ∈ putsW ws rs, U z := by
  induction rs with
  | nil => intro ws h _; exact h
  | cons r rs ih =>
    intro ws h hr
    exact ih (set_U h (hr r (by simp))) (fun r' h' => hr r' (by simp [h']))
theorem nextS_U {now : List Int} (h : ∀ z ∈ now, U z) : ∀ z ∈ nextS now, U z := set_U (set_U h (by rw [IntKind.wrap_u64]; unfold U; omega)) (sumL_U _)
/-- the words behind a Commit, and the stores that it made -/
def pcommitW (ws now : List Int) : List Int := carryW (enterW ws (recsOf ws (nextS now))) (recsOf ws (nextS now))
def pcommitSt (ws now : List Int) : List St := enterSt (recsOf ws (nextS now)) ++ carrySt (recsOf ws (nextS now))
theorem flatR_U {rs : List (Int × Int)} (h : ∀ r ∈ rs, U r.1 ∧ U r.2) : ∀ z ∈ flatR rs, U z := fun z hz => by
  simp only [flatR, List.mem_flatMap, List.mem_cons, List.not_mem_nil, or_false] at hz
  obtain ⟨r, hr, rfl | rfl⟩ := hz
  · exact (h r hr).1
  · exact (h r hr).2
theorem pcommitW_U {ws now : List Int} (hw : ∀ z ∈ ws, U z) (hn : ∀ z ∈ now, U z) (hl : ws.length ≤ 1048576) (h48 : (recsOf ws (nextS now)).length ≤ 48) : ∀ z ∈ pcommitW ws now, U z := by
  have hr : ∀ r ∈ recsOf ws (nextS now), U r.1 ∧ U r.2 := fun r hr => by
    have h1 := recs_in r hr
    simp only [recsOf, List.mem_map] at hr
    obtain ⟨q, hq, rfl⟩ := hr
    exact ⟨by simp only at h1; unfold U; simp only; omega, wd_U (nextS_U hn) q⟩
  refine set_U (putsW_U (set_U (set_U (putsW_U hw ?_) (sumL_U _)) (by unfold U; omega)) (fun r h => (hr r h).2)) (by unfold U; omega)
  intro r h
  simp only [logPs, List.mem_map] at h
  obtain ⟨j, _, rfl⟩ := h
  exact wd_U (flatR_U hr) j
theorem pcommitW_len (ws now : List Int) : (pcommitW ws now).length = ws.length := by simp [pcommitW, carryW, putsW_len, enterW_len]
/-- what Commit makes -/
def CommitTo (hb tb cb mb g : Nat) (vs : Value) (ws now : List Int) (st : List St) (w : World) (c : Int) (w' : World) : Prop :=
  (now = ws ∧ c = 0 ∧ PH hb tb cb mb g vs ws now st w' ∧ Fr New w w') ∨
  (now ≠ ws ∧ 48 < (recsOf ws (nextS now)).length ∧ c = 4 ∧ PH hb tb cb mb g vs ws now st w' ∧ Fr New w w') ∨
  (now ≠ ws ∧ (recsOf ws (nextS now)).length ≤ 48 ∧ c = 0 ∧ ∃ vs', PH hb tb cb mb g vs' (pcommitW ws now) (pcommitW ws now) (st ++ pcommitSt ws now) w' ∧ Fr (TurnedP tb mb g vs) w w' ∧ Moved w vs vs')

set_option maxHeartbeats 2000000 in
set_option maxRecDepth 100000 in
theorem jcommit_any (hb tb cb mb g : Nat) (vs : Value) (ws now : List Int) (st : List St) (w : World) (h : PH hb tb cb mb g vs ws now st w) (h2 : wd now 2 = wd ws 2) (hl : st.length ≤ 1099511000000) :
    Calls Tryz.prog 53 #[.pointer (some ⟨tb, 0, none⟩), .pointer (some ⟨cb, 0, none⟩)] w fun e w' => ∃ c, e = .returned (.int .i64 c) ∧ CommitTo hb tb cb mb g vs ws now st w c w' := by
  have hlens := h.lens
  have HPL : Hid (Calls Tryz.prog 102 #[.pointer (some ⟨cb, 0, none⟩)] w fun e w' => ∃ v, e = .returned v ∧ w'.ownsRow w.heap.size 3 1 v (difP ws now).length ((difP ws now).map (fun q : Nat => Value.int .i64 (q : Int))) ∧ Fr New w w') := places_any cb tb mb ws now w h.cg (by omega)
  have HTC : Hid (∀ w1, Fr New w w1 → Calls Tryz.prog 103 #[.pointer (some ⟨cb, 0, none⟩)] w1 fun e w' => ∃ v, e = .returned v ∧ OwnRs w1.heap.size w' v (recsOf ws (nextS now)) ∧ Fr New w1 w') := fun w1 hf => toCommit_any cb tb g mb ws now vs w1 (h.new hf).tg.t (h.new hf).cg (by omega)
  have HNW : Hid (∀ w1, Fr New w w1 → PH hb tb cb mb g vs ws now st w1) := fun w1 hf => h.new hf
  by_cases he : now = ws
  · have hd : (difP ws now).length = 0 := by rw [(difP_none h.len).2 he]; rfl
    rw [hd] at HPL
    clear hd hlens HTC h2
    go_enter Tryz.func53, Tryz.ntmps53
    go_wp2_with (first
      | (go_at_call 102; refine HPL.out.mono ?_; rintro e w1 ⟨v, rfl, hop, hf1⟩; obtain ⟨a1, c1, rfl⟩ := own_slice hop)
      | fail)
    go_ret
    exact ⟨0, rfl, .inl ⟨he, rfl, HNW.out _ hf1, hf1⟩⟩
  · have hd0 : (difP ws now).length ≠ 0 := fun e => he ((difP_none h.len).1 (List.length_eq_zero_iff.1 e))
    have hdl := difP_len ws now
    have hrl : (recsOf ws (nextS now)).length ≤ ws.length := by rw [recs_len]; exact difP_len _ _
    have hr1 : 1 ≤ (recsOf ws (nextS now)).length := by
      rw [recs_len]
      have hm : 2 ∈ difP ws (nextS now) := mem_difP.2 ⟨by omega, by
        unfold nextS countS
        rw [wd_set (by simp; rw [h.len]; omega), if_neg (by decide), wd_set (by rw [h.len]; omega), if_pos rfl, ← h2]
        have := wd_U h.unow 2
        rw [IntKind.wrap_u64]
        unfold U at this
        omega⟩
      exact List.length_pos_of_mem hm
    obtain ⟨n, hn⟩ : ∃ n, n = (difP ws now).length := ⟨_, rfl⟩
    rw [← hn] at HPL hd0 hdl
    have hdn : ((n : Int) == 0) = false := by simp; omega
    have HRI : Hid (∀ r ∈ recsOf ws (nextS now), 0 ≤ r.1 ∧ r.1 < (ws.length : Int)) := recs_in
    by_cases h48 : 48 < (recsOf ws (nextS now)).length
    · have HFN : Hid (∀ w1, Fr New w w1 → CommitTo hb tb cb mb g vs ws now st w 4 w1) := fun w1 hf => .inr (.inl ⟨he, h48, rfl, HNW.out w1 hf, hf⟩)
      obtain ⟨m, hm⟩ : ∃ m, m = (recsOf ws (nextS now)).length := ⟨_, rfl⟩
      have HTM : Hid (∀ w1, Fr New w w1 → Calls Tryz.prog 103 #[.pointer (some ⟨cb, 0, none⟩)] w1 fun e w' => ∃ a c, e = .returned (.slice a m c) ∧ Fr New w1 w') := fun w1 hf => (HTC.out w1 hf).mono (by
        rintro e w' ⟨v, rfl, ho, hf'⟩
        obtain ⟨a, c, rfl⟩ := own_slice ho
        exact ⟨a, c, by rw [hm], hf'⟩)
      rw [← hm] at h48 hrl
      clear hm HTC hr1 hn he h h2 HRI
      go_enter Tryz.func53, Tryz.ntmps53
      go_wp2_with (first
        | (go_at_call 102; refine HPL.out.mono ?_; rintro e w1 ⟨v, rfl, hop, hf1⟩; obtain ⟨a1, c1, rfl⟩ := own_slice hop)
        | (go_at_call 103; refine (HTM.out w1 hf1).mono ?_; rintro e w2 ⟨a2, c2, rfl, hf2⟩)
        | fail)
      go_ret
      exact ⟨4, rfl, HFN.out _ (hf1.same hf2)⟩
    · have HEN : Hid (∀ w1 v, Fr New w w1 → OwnRs w.heap.size w1 v (recsOf ws (nextS now)) → Calls Tryz.prog 104 #[.pointer (some ⟨tb, 0, none⟩), v] w1 fun e w' => e = .returned (.tuple #[]) ∧ ∃ vs', TG tb g vs' (enterW ws (recsOf ws (nextS now))) (st ++ enterSt (recsOf ws (nextS now))) w' ∧ Fr (TurnedT tb g vs) w1 w' ∧ Moved w1 vs vs') := fun w1 v hf ho => enter_told tb g vs ws st _ v _ w1 (h.new hf).tg ho (fun r hr => by have := HRI.out r hr; omega) hr1 (by omega) (by omega) (by omega)
      have HCO : Hid (∀ w1 v vs1, TG tb g vs1 (enterW ws (recsOf ws (nextS now))) (st ++ enterSt (recsOf ws (nextS now))) w1 → OwnRs w.heap.size w1 v (recsOf ws (nextS now)) → Calls Tryz.prog 97 #[.pointer (some ⟨tb, 0, none⟩), v] w1 fun e w' => e = .returned (.tuple #[]) ∧ ∃ vs', TG tb g vs' (pcommitW ws now) (st ++ pcommitSt ws now) w' ∧ Fr (TurnedT tb g vs1) w1 w' ∧ Moved w1 vs1 vs') := fun w1 v vs1 ht ho => by
        have := carry_told tb g vs1 _ _ _ v _ w1 ht ho (fun r hr => by rw [enterW_len]; exact HRI.out r hr) (by rw [enterW_len]; omega) (by simp [enterSt, putsSt, logPs]; omega)
        rw [List.append_assoc] at this
        exact this
      have HUW : Hid (∀ z ∈ pcommitW ws now, U z) := pcommitW_U h.uw h.unow (by omega) (by omega)
      have HKR : Hid (∀ w1 w2 v, Fr New w w1 → Fr (TurnedT tb g vs) w1 w2 → OwnRs w.heap.size w1 v (recsOf ws (nextS now)) → OwnRs w.heap.size w2 v (recsOf ws (nextS now))) := fun w1 w2 v hf hf' ho => recs_kept (h.new hf).tg hf' ho
      have HCG : Hid (∀ w', Fr (TurnedT tb g vs) w w' → ChgIs w' cb tb mb ws now ∧ w'.heap[hb]? = w.heap[hb]?) := fun w' hf => by
        have hno : ∀ k o, (∀ c, o ≠ .cells c 108 (0, 0)) → (∀ c, o ≠ .cells c 50 (0, 0)) → (∀ c, o ≠ .cells c 122 (0, 0)) → w.heap[k]? = some o → ¬ TurnedT tb g vs k := fun k o o1 o2 o3 hk ht => by
          rcases ht with e | e | e
          · subst e; rw [h.tg.t.td] at hk; exact o1 _ (by simpa using hk.symm)
          · subst e; rw [h.tg.t.wb] at hk; exact o2 _ (by simpa using hk.symm)
          · obtain ⟨_, c, hc⟩ := own_block h.tg.o e
            rw [hc] at hk; exact o3 c (by simpa using hk.symm)
        refine ⟨h.cg.fr hf (hno _ _ (fun c e => by simp at e) (fun c e => by simp at e) (fun c e => by simp at e) h.cg.cg) ?_, hf.block hb (lt_of_block h.hp) (hno _ _ (fun c e => by simp at e) (fun c e => by simp at e) (fun c e => by simp at e) h.hp)⟩
        obtain ⟨D, ⟨es, clock, hb', _⟩, _⟩ := h.cg.mp
        exact hno _ _ (fun c e => by cases e) (fun c e => by cases e) (fun c e => by cases e) hb'
      have HDR : Hid (∀ w1, ChgIs w1 cb tb mb ws now → Calls Tryz.prog 52 #[.pointer (some ⟨cb, 0, none⟩)] w1 fun e w' => e = .returned (.tuple #[]) ∧ ChgIs w' cb tb mb (pcommitW ws now) (pcommitW ws now) ∧ Fr (fun k => k = mb) w1 w' ∧ w'.heap.size = w1.heap.size) := fun w1 hc => drop_to cb tb mb ws now _ w1 hc HUW.out
      have HFN : Hid (∀ w1 w2 vs2, Fr (TurnedT tb g vs) w w1 → Moved w vs vs2 → TG tb g vs2 (pcommitW ws now) (st ++ pcommitSt ws now) w1 → ChgIs w2 cb tb mb (pcommitW ws now) (pcommitW ws now) → Fr (fun k => k = mb) w1 w2 → CommitTo hb tb cb mb g vs ws now st w 0 w2) := fun w1 w2 vs2 f1 m1 t1 c2 f2 => by
        have hmn : ∀ {k : Nat} {cs : Array Value} {t : TypeId} {f : Nat × Nat}, w1.heap[k]? = some (.cells cs t f) → k ≠ mb := fun hk e => by
          subst e
          obtain ⟨D, ⟨es, clock, hb', _⟩, _⟩ := (HCG.out w1 f1).1.mp
          rw [hk] at hb'; cases hb'
        have hp1 : w1.heap[hb]? = some _ := (HCG.out w1 f1).2.trans h.hp
        refine .inr (.inr ⟨he, by omega, rfl, vs2, ⟨f2.heap hp1 (hmn hp1), t1.fr f2 (hmn t1.t.td) (hmn t1.t.wb) (fun k hk => ?_), c2, HUW.out, by rw [pcommitW_len]; exact h.n0⟩, ?_, m1⟩)
        · obtain ⟨_, c, hc⟩ := own_block t1.o hk
          exact hmn hc
        · refine (f1.mono (fun j _ ht => ?_)).trans f2 (fun j _ e => .inr (.inl e))
          rcases ht with e | e | e
          · exact .inl e
          · exact .inr (.inr (.inl e))
          · exact .inr (.inr (.inr e))
      have HTC2 : Hid (∀ w1, Fr New w w1 → Calls Tryz.prog 103 #[.pointer (some ⟨cb, 0, none⟩)] w1 fun e w' => ∃ v, e = .returned v ∧ OwnRs w.heap.size w' v (recsOf ws (nextS now)) ∧ Fr New w1 w') := fun w1 hf => (HTC.out w1 hf).mono (by
        rintro e w' ⟨v, rfl, ho, hf'⟩
        exact ⟨v, rfl, ⟨ho.1, ho.2.imp id (fun ⟨g, cap, cur, e, hbg, r⟩ => ⟨g, cap, cur, e, Nat.le_trans hf.size hbg, r⟩)⟩, hf'⟩)
      obtain ⟨rs, hrs⟩ : ∃ rs, rs = recsOf ws (nextS now) := ⟨_, rfl⟩
      rw [← hrs] at HEN HCO HKR HTC2 h48 hrl
      clear hrs HTC hr1 hn he h h2 HRI HNW HUW
      go_enter Tryz.func53, Tryz.ntmps53
      go_wp2_with (first
        | (go_at_call 102; refine HPL.out.mono ?_; rintro e w1 ⟨v, rfl, hop, hf1⟩; obtain ⟨a1, c1, rfl⟩ := own_slice hop)
        | (go_at_call 103; refine (HTC2.out w1 hf1).mono ?_; rintro e w2 ⟨v2, rfl, ho2, hf2⟩; have hf12 := hf1.same hf2; have HE2 := HEN.out w2 v2 hf12 ho2; have HK2 := HKR.out w2; obtain ⟨a2, c2, rfl⟩ := own_slice ho2)
        | (go_at_call 104; refine HE2.mono ?_; rintro e w3 ⟨rfl, vs3, hT3, hf3, hm3⟩; have ho3 := HK2 w3 _ hf12 hf3 ho2; have HC3 := HCO.out w3 _ vs3 hT3 ho3)
        | (go_at_call 97; refine HC3.mono ?_; rintro e w4 ⟨rfl, vs4, hT4, hf4, hm4⟩; have fA : Fr (TurnedT tb g vs) w w3 := (hf12.mono (fun _ _ h => h.elim)).trans hf3 (fun _ _ h => h); have mA : Moved w vs vs3 := (Moved.refl w vs).trans hm3 hf12.size; have fB := turned_trans fA mA hf4; have mB := mA.trans hm4 fA.size; have HD4 := HDR.out w4 (HCG.out w4 fB).1)
        | (go_at_call 52; refine HD4.mono ?_; rintro e w5 ⟨rfl, hC5, hf5, _⟩)
        | fail)
      go_ret
      exact ⟨0, rfl, HFN.out w4 w5 vs4 fB mB hT4 hC5 hf5⟩
end Go.Proofs.YtbagcjlimdilpaaGreat
/- Mathematics of a heap's Commit: its words behind it. -/
namespace Go.Proofs.YtbagcjlimdilpaaGreat

/-- a heap's words, as they are kept and as they are now -/
structure HW (ws now : List Int) : Prop where
  gw : Good ws
  gn : Good now
  sum : wd ws 7 = sumL (ws.take 7)
  len : now.length = ws.length
  same : ∀ q, q < 3 ∨ 7 ≤ q → q < 106 → wd now q = wd ws q
/-- words that say the same of objects and roots -/
structure Like (a b : List Int) : Prop where
  ob : objs a = objs b
  words : ∀ o ∈ objs b, objW a o = objW b o
  roots : ∀ r, r < 4 → wd a (3 + r) = wd b (3 + r)
theorem Like.refl (a : List Int) : Like a a := ⟨rfl, fun _ _ => rfl, fun _ _ => rfl⟩
theorem Like.symm {a b : List Int} (h : Like a b) : Like b a := ⟨h.ob.symm, fun o ho => (h.words o (by rw [← h.ob]; exact ho)).symm, fun r hr => (h.roots r hr).symm⟩
theorem Like.trans {a b c : List Int} (h : Like a b) (k : Like b c) : Like a c := ⟨h.ob.trans k.ob, fun o ho => (h.words o (by rw [k.ob]; exact ho)).trans (k.words o ho), fun r hr => (h.roots r hr).trans (k.roots r hr)⟩
theorem like_of {a b : List Int} (hl : a.length = b.length) (hr : ∀ r, r < 4 → wd a (3 + r) = wd b (3 + r)) (hw : ∀ q, 106 ≤ q → wd a q = wd b q) : Like a b :=
  ⟨(objs_congr hl (fun c => hw _ (by omega))).1, fun o _ => objW_congr (fun i _ => hw _ (by unfold pl; omega)), hr⟩

theorem wd_out {a : List Int} {q : Nat} (h : a.length ≤ q) : wd a q = 0 := by unfold wd; simp [List.getD, h]
/-- words that are put: the last one stands -/
theorem putsW_no {rs : List (Int × Int)} {q : Nat} : ∀ {a : List Int}, (∀ r ∈ rs, r.1.toNat ≠ q) → wd (putsW a rs) q = wd a q := by
  induction rs with
  | nil => intro a _; rfl
  | cons r rs ih =>
    intro a h
    rw [show putsW a (r :: rs) = putsW (a.set r.1.toNat r.2) rs from rfl, ih (fun x hx => h x (List.mem_cons_of_mem _ hx))]
    by_cases hl : r.1.toNat < a.length
    · rw [wd_set hl, if_neg (fun e => h r (by simp) e.symm)]
    · rw [List.set_eq_of_length_le (by omega)]
theorem putsW_yes {rs : List (Int × Int)} {q : Nat} {v : Int} : ∀ {a : List Int}, q < a.length → (∃ r ∈ rs, r.1.toNat = q) → (∀ r ∈ rs, r.1.toNat = q → r.2 = v) → wd (putsW a rs) q = v := by
  induction rs with
  | nil => intro a _ h; obtain ⟨r, hr, _⟩ := h; cases hr
  | cons r rs ih =>
    intro a hq h hv
    rw [show putsW a (r :: rs) = putsW (a.set r.1.toNat r.2) rs from rfl]
    by_cases hx : ∃ r ∈ rs, r.1.toNat = q
    · exact ih (by simpa using hq) hx (fun x hx => hv x (List.mem_cons_of_mem _ hx))
    · rw [putsW_no (fun x hx' e => hx ⟨x, hx', e⟩)]
      obtain ⟨x, hx1, hx2⟩ := h
      rcases List.mem_cons.1 hx1 with rfl | hx1
      · rw [wd_set (by omega), if_pos hx2.symm]; exact hv x (by simp) hx2
      · exact absurd ⟨x, hx1, hx2⟩ hx
theorem recs_mem {ws nx : List Int} {r : Int × Int} : r ∈ recsOf ws nx ↔ ∃ q, q < ws.length ∧ wd nx q ≠ wd ws q ∧ r = ((q : Int), wd nx q) := by
  simp only [recsOf, List.mem_map, mem_difP]
  constructor
  · rintro ⟨q, ⟨h1, h2⟩, rfl⟩; exact ⟨q, h1, h2, rfl⟩
  · rintro ⟨q, h1, h2, rfl⟩; exact ⟨q, ⟨h1, h2⟩, rfl⟩
/-- records put over words that are the old or the new ones: the new ones -/
theorem putsW_recs {ws nx a : List Int} (hl : a.length = ws.length) (hn : nx.length = ws.length) {q : Nat} (ha : wd a q = wd ws q ∨ wd a q = wd nx q) : wd (putsW a (recsOf ws nx)) q = wd nx q := by
  by_cases hq : q < ws.length
  · by_cases he : wd nx q = wd ws q
    · rw [putsW_no (fun r hr e => by
        obtain ⟨q', h1, h2, rfl⟩ := recs_mem.1 hr
        simp at e
        subst e
        exact h2 he)]
      rcases ha with ha | ha
      · rw [ha, he]
      · exact ha
    · refine putsW_yes (by omega) ⟨_, recs_mem.2 ⟨q, hq, he, rfl⟩, by simp⟩ (fun r hr e => ?_)
      obtain ⟨q', h1, h2, rfl⟩ := recs_mem.1 hr
      simp at e
      subst e
      rfl
  · rw [wd_out (by rw [putsW_len]; omega), wd_out (by omega)]
theorem logPs_mem {ls : List Int} {i : Nat} {r : Int × Int} : r ∈ logPs ls i ↔ ∃ j, j < i ∧ r = (((10 + j : Nat) : Int), wd ls j) := by
  simp only [logPs, List.mem_map, List.mem_range]
  constructor
  · rintro ⟨j, h, rfl⟩; exact ⟨j, h, rfl⟩
  · rintro ⟨j, h, rfl⟩; exact ⟨j, h, rfl⟩
/-- what is entered lies in the log -/
theorem enter_out {ws : List Int} {rs : List (Int × Int)} (hL : 114 ≤ ws.length) (h48 : rs.length ≤ 48) {q : Nat} (hq : q < 8 ∨ 106 ≤ q) : wd (enterW ws rs) q = wd ws q := by
  unfold enterW
  rw [wd_set (by simp [putsW_len]; omega), if_neg (by omega), wd_set (by simp [putsW_len]; omega), if_neg (by omega)]
  refine putsW_no (fun r hr e => ?_)
  obtain ⟨j, hj, rfl⟩ := logPs_mem.1 hr
  simp at e
  omega
/-- outside the log a Commit leaves the next words -/
theorem pcommit_out {ws now : List Int} (hL : 114 ≤ ws.length) (hn : now.length = ws.length) (h48 : (recsOf ws (nextS now)).length ≤ 48) {q : Nat} (hq : q < 8 ∨ 106 ≤ q) : wd (pcommitW ws now) q = wd (nextS now) q := by
  unfold pcommitW carryW
  rw [wd_set (by rw [putsW_len, enterW_len]; omega), if_neg (by omega)]
  exact putsW_recs (enterW_len _ _) (by rw [nextS_len]; exact hn) (.inl (enter_out hL h48 hq))
theorem pcommit_log {ws now : List Int} (hL : 114 ≤ ws.length) : wd (pcommitW ws now) 8 = 0 := by
  unfold pcommitW carryW
  rw [wd_set (by rw [putsW_len, enterW_len]; omega), if_pos rfl]
theorem nextS_wd {now : List Int} (hL : 114 ≤ now.length) (q : Nat) : wd (nextS now) q = if q = 7 then sumL ((countS now).take 7) else if q = 2 then IntKind.u64.wrap (wd now 2 + 1) else wd now q := by
  unfold nextS
  rw [wd_set (by simp [countS]; omega)]
  by_cases h7 : q = 7
  · rw [if_pos h7, if_pos h7]
  · rw [if_neg h7, if_neg h7]
    unfold countS
    rw [wd_set (by omega)]
theorem take_ext {a b : List Int} (n : Nat) (ha : n ≤ a.length) (hb : n ≤ b.length) (h : ∀ q, q < n → wd a q = wd b q) : a.take n = b.take n := by
  refine List.ext_getElem (by simp; omega) (fun i h1 h2 => ?_)
  have hi : i < n := by simp at h1; omega
  have := h i hi
  simp only [wd, List.getD, List.getElem?_eq_getElem (show i < a.length by omega), List.getElem?_eq_getElem (show i < b.length by omega)] at this
  simpa using this
/-- A COMMIT KEEPS what is there now -/
theorem commit_good {ws now : List Int} (h : HW ws now) (h48 : (recsOf ws (nextS now)).length ≤ 48) : HW (pcommitW ws now) (pcommitW ws now) ∧ Like (pcommitW ws now) now := by
  have hL := h.gw.len
  have hout : ∀ q, q < 8 ∨ 106 ≤ q → wd (pcommitW ws now) q = wd (nextS now) q := fun q hq => pcommit_out (by omega) h.len h48 hq
  have hnx := fun q => nextS_wd (now := now) (by have := h.len; omega) q
  have hlen : (pcommitW ws now).length = now.length := (pcommitW_len ws now).trans h.len.symm
  have hlow : ∀ q, q < 8 ∨ 106 ≤ q → q ≠ 7 → q ≠ 2 → wd (pcommitW ws now) q = wd now q := fun q hq h7 h2 => by rw [hout q hq, hnx, if_neg h7, if_neg h2]
  obtain ⟨g, _, _⟩ := h.gn.congr hlen (hlow 0 (by omega) (by omega) (by omega)) (hlow 1 (by omega) (by omega) (by omega)) (pcommit_log (by omega)) (fun r hr => hlow _ (by omega) (by omega) (by omega)) (fun q hq => hlow q (by omega) (by omega) (by omega))
  refine ⟨⟨g, g, ?_, rfl, fun _ _ _ => rfl⟩, like_of hlen (fun r hr => hlow _ (by omega) (by omega) (by omega)) (fun q hq => hlow q (by omega) (by omega) (by omega))⟩
  rw [hout 7 (by omega), hnx, if_pos rfl]
  congr 1
  refine take_ext 7 (by simp [countS]; have := h.len; omega) (by rw [hlen]; have := h.len; omega) (fun q hq => ?_)
  rw [hout q (by omega), hnx, if_neg (by omega)]
  unfold countS
  rw [wd_set (by have := h.len; omega)]
theorem HW.two {ws now : List Int} (h : HW ws now) : wd now 2 = wd ws 2 := h.same 2 (by omega) (by omega)
/-- what is changed is such again -/
theorem HW.to {ws now r : List Int} (h : HW ws now) (g : Good r) (hl : r.length = now.length) (hs : ∀ q, q < 3 ∨ 7 ≤ q → q < 106 → wd r q = wd now q) : HW ws r := ⟨h.gw, g, h.sum, hl.trans h.len, fun q h1 h2 => (hs q h1 h2).trans (h.same q h1 h2)⟩
theorem HW.back {ws now : List Int} (h : HW ws now) : HW ws ws := ⟨h.gw, h.gw, h.sum, rfl, fun _ _ _ => rfl⟩

theorem told_leak : ∀ (E : List (Prop × Int × Int)), (∀ y ∈ E, y.2.1 = 8) → ∃ c p, Told E c p ∧ (c = 0 ∨ c = 8)
  | [], _ => ⟨0, 0, ⟨rfl, rfl⟩, .inl rfl⟩
  | x :: r, h => by
    by_cases hx : x.1
    · exact ⟨x.2.1, x.2.2, .inl ⟨hx, rfl, rfl⟩, .inr (h x (by simp))⟩
    · obtain ⟨c, p, h1, h2⟩ := told_leak r (fun y hy => h y (List.mem_cons_of_mem _ hy))
      exact ⟨c, p, .inr ⟨hx, h1⟩, h2⟩
/-- all is right but what is not reached -/
theorem check_good {ws : List Int} (h : Good ws) (hs : wd ws 7 = sumL (ws.take 7)) : ∃ c p, CheckIs ws c p ∧ (c = 0 ∨ c = 8) := by
  obtain ⟨c, p, h1, h2⟩ := told_leak ((List.range (objs ws).length).map (leakT ws (objs ws))) (fun y hy => by
    obtain ⟨i, _, rfl⟩ := List.mem_map.1 hy
    rfl)
  refine ⟨c, p, ?_, h2⟩
  unfold CheckIs checkT
  refine told_skip ?_ (told_skip ?_ (told_skip ?_ (told_skip ?_ h1)))
  · intro y hy
    simp only [headT, List.mem_cons, List.not_mem_nil, or_false] at hy
    rcases hy with rfl | rfl | rfl | rfl | rfl
    · exact h.n0
    · simpa using h.magic
    · simpa using h.n
    · simpa using hs
    · simpa using h.log
  · unfold badT; rw [h.bad]; exact clear_nil
  · intro y hy
    obtain ⟨r, hr, rfl⟩ := List.mem_map.1 hy
    rintro ⟨h0, hx⟩
    rcases h.root r (by simpa using hr) with h' | h'
    · exact h0 h'
    · exact idx_hnd.2 h' hx
  · intro y hy
    obtain ⟨o, ho, hy⟩ := List.mem_flatMap.1 hy
    obtain ⟨p, hp, rfl⟩ := List.mem_map.1 hy
    rintro ⟨h0, hx⟩
    rcases h.ptr o ho p (by simpa using hp) with h' | h'
    · exact h0 h'
    · exact idx_hnd.2 h' hx
/-- Open of words that are good, with an empty log: these -/
theorem open_good {ws : List Int} (h : Good ws) (hs : wd ws 7 = sumL (ws.take 7)) : OpenOk ws ∧ openW ws = ws ∧ openSt ws = [] := by
  have ha := asks_none h.log
  have hw : openW ws = ws := by unfold openW; rw [ha, if_pos rfl]
  refine ⟨⟨h.n0, by rw [ha], by rw [hw]; exact check_good h hs⟩, hw, by unfold openSt; rw [ha, if_pos rfl]⟩
end Go.Proofs.YtbagcjlimdilpaaGreat
/- Walks of the program's Heap.Commit, Recover and Open. -/
namespace Go.Proofs.YtbagcjlimdilpaaGreat
open Go.RowKit Go.Maps

theorem Fr.undrew {T : Nat → Prop} {w w' : World} (h : Fr T w.drew w') : Fr T w w' := ⟨h.os, h.tape, h.output, h.size, h.block⟩
theorem CommitTo.undrew {hb tb cb mb g : Nat} {vs : Value} {ws now : List Int} {st : List St} {w : World} {c : Int} {w' : World} (h : CommitTo hb tb cb mb g vs ws now st w.drew c w') : CommitTo hb tb cb mb g vs ws now st w c w' := by
  rcases h with ⟨h1, h2, h3, h4⟩ | ⟨h1, h2, h3, h4, h5⟩ | ⟨h1, h2, h3, vs', h4, h5, h6⟩
  · exact .inl ⟨h1, h2, h3, h4.undrew⟩
  · exact .inr (.inl ⟨h1, h2, h3, h4, h5.undrew⟩)
  · exact .inr (.inr ⟨h1, h2, h3, vs', h4, h5.undrew, h6⟩)
theorem CommitTo.drew {hb tb cb mb g : Nat} {vs : Value} {ws now : List Int} {st : List St} {w : World} {c : Int} {w' : World} (h : CommitTo hb tb cb mb g vs ws now st w c w') : CommitTo hb tb cb mb g vs ws now st w c w'.drew := by
  rcases h with ⟨h1, h2, h3, h4⟩ | ⟨h1, h2, h3, h4, h5⟩ | ⟨h1, h2, h3, vs', h4, h5, h6⟩
  · exact .inl ⟨h1, h2, h3.new ((Fr.refl _ _).drew), h4.drew⟩
  · exact .inr (.inl ⟨h1, h2, h3, h4.new ((Fr.refl _ _).drew), h5.drew⟩)
  · exact .inr (.inr ⟨h1, h2, h3, vs', h4.new ((Fr.refl _ _).drew), h5.drew, h6⟩)
set_option maxRecDepth 100000 in
theorem hcommit_any (hb tb cb mb g : Nat) (vs : Value) (ws now : List Int) (st : List St) (w : World) (h : PH hb tb cb mb g vs ws now st w) (h2 : wd now 2 = wd ws 2) (hl : st.length ≤ 1099511000000) :
    Calls Tryz.prog 24 #[.pointer (some ⟨hb, 0, none⟩)] w fun e w' => ∃ c, e = .returned (.int .i64 c) ∧ CommitTo hb tb cb mb g vs ws now st w c w' := by
  have hc0 := h.p0
  have hc1 := h.p1
  have hbw : hb < w.heap.size := lt_of_block h.hp
  have HJ : Hid (Calls Tryz.prog 53 #[.pointer (some ⟨tb, 0, none⟩), .pointer (some ⟨cb, 0, none⟩)] w fun e w' => ∃ c, e = .returned (.int .i64 c) ∧ CommitTo hb tb cb mb g vs ws now st w c w') := jcommit_any hb tb cb mb g vs ws now st w h h2 hl
  have HD : Hid (Calls Tryz.prog 53 #[.pointer (some ⟨tb, 0, none⟩), .pointer (some ⟨cb, 0, none⟩)] w.drew fun e w' => ∃ c, e = .returned (.int .i64 c) ∧ CommitTo hb tb cb mb g vs ws now st w c w') := (jcommit_any hb tb cb mb g vs ws now st w.drew (h.new ((Fr.refl _ _).drew)) h2 hl).mono (by
    rintro e w' ⟨c, rfl, hc⟩
    exact ⟨c, rfl, hc.undrew⟩)
  clear h h2 hl
  go_enter Tryz.func24, Tryz.ntmps24
  go_upto_region 1 with fail
  go_region_with (first
    | (go_at_call 53; refine HJ.out.mono ?_; rintro e w2 ⟨c, rfl, hC⟩)
    | (go_at_call 53; refine HD.out.mono ?_; rintro e w2 ⟨c, rfl, hC⟩))
  all_goals (try go_wp2_with fail)
  all_goals
    go_ret
    first
      | exact ⟨c, rfl, hC⟩
      | exact ⟨c, rfl, hC.drew⟩

/-- the records of the log -/
def logRs (ws : List Int) (k : Nat) : List (Int × Int) := (List.range k).map (fun i => (wd ws (10 + 2 * i), wd ws (11 + 2 * i)))
theorem logRs_done (ws : List Int) (k : Nat) : putsW ws (logRs ws k) = doneS ws k := by
  induction k with
  | zero => rfl
  | succ k ih =>
    have : logRs ws (k + 1) = logRs ws k ++ [(wd ws (10 + 2 * k), wd ws (11 + 2 * k))] := by simp [logRs, List.range_succ]
    rw [this, putsW_snoc, ih]
    rfl
theorem logRs_len (ws : List Int) (k : Nat) : (logRs ws k).length = k := by simp [logRs]
theorem logRs_puts (ws : List Int) (k : Nat) : putsSt (logRs ws k) = putsS ws k := by simp [logRs, putsSt, putsS]
theorem openW_U {ws : List Int} (hU : ∀ z ∈ ws, U z) : ∀ z ∈ openW ws, U z := by
  unfold openW
  split
  · exact hU
  · exact set_U (doneS_U hU _) (by unfold U; omega)
theorem openW_len (ws : List Int) : (openW ws).length = ws.length := by
  unfold openW
  split
  · rfl
  · simp [doneS_len]
set_option maxHeartbeats 1000000 in
set_option maxRecDepth 100000 in
theorem recover_told (tb g : Nat) (vs : Value) (ws : List Int) (st : List St) (w : World) (h : TG tb g vs ws st w) (hU : ∀ z ∈ ws, U z) (hL : 114 ≤ ws.length) (hl : st.length ≤ 1099511000000) :
    Calls Tryz.prog 48 #[.pointer (some ⟨tb, 0, none⟩)] w fun e w' => e = .returned (.bool (asksS ws).2) ∧ ((asksS ws).2 = true → ∃ vs', TG tb g vs' (openW ws) (st ++ openSt ws) w' ∧ Moved w vs vs') ∧ Fr (TurnedT tb g vs) w w' := by
  have HA : Hid (Calls Tryz.prog 96 #[.iface 97 (.pointer (some ⟨tb, 0, none⟩))] w fun e w' => ∃ v, e = .returned (.tuple #[v, .bool (asksS ws).2]) ∧ ((asksS ws).2 = true → OwnR w.heap.size w' v ws (asksS ws).1) ∧ ((asksS ws).2 = false → v = .slice none 0 0) ∧ Fr New w w') := asked_row _ _ _ _ _ ws w hL h.t.len hU h.t.row
  have HNT : Hid (∀ w', Fr New w w' → TG tb g vs ws st w' ∧ Fr (TurnedT tb g vs) w w') := fun w' hf => ⟨h.new hf, hf.mono (fun _ _ h => h.elim)⟩
  rcases hok : (asksS ws).2 with _ | _
  · rw [hok] at HA
    have HA2 : Hid (Calls Tryz.prog 96 #[.iface 97 (.pointer (some ⟨tb, 0, none⟩))] w fun e w' => e = .returned (.tuple #[.slice none 0 0, .bool false]) ∧ Fr New w w') := HA.out.mono (by
      rintro e w' ⟨v, rfl, _, hv, hf⟩
      rw [hv rfl]
      exact ⟨rfl, hf⟩)
    clear HA hok
    go_enter Tryz.func48, Tryz.ntmps48
    go_wp2_with (go_at_call 96; refine HA2.out.mono ?_; rintro e w1 ⟨rfl, hf1⟩)
    go_ret
    exact ⟨rfl, (fun h => by cases h), (HNT.out w1 hf1).2⟩
  · rw [hok] at HA
    obtain ⟨k, hk⟩ : ∃ k, k = (asksS ws).1 := ⟨_, rfl⟩
    have hk48 : k ≤ 48 := by rw [hk]; exact asks_le ws
    have HA2 : Hid (Calls Tryz.prog 96 #[.iface 97 (.pointer (some ⟨tb, 0, none⟩))] w fun e w' => ∃ a c, e = .returned (.tuple #[.slice a k c, .bool true]) ∧ OwnRs w.heap.size w' (.slice a k c) (logRs ws k) ∧ Fr New w w') := HA.out.mono (by
      rintro e w' ⟨v, rfl, ho, _, hf⟩
      have ho' := ho rfl
      obtain ⟨a, c, rfl⟩ := own_slice ho'
      rw [← hk] at ho' ⊢
      refine ⟨a, c, rfl, ?_, hf⟩
      unfold OwnRs
      rw [logRs_len]
      have : rsCells (logRs ws k) = recCells ws k := (rsCells_rec ws k).symm
      rw [this]
      exact ho')
    by_cases hk0 : k = 0
    · have HOW : Hid (openW ws = ws ∧ st ++ openSt ws = st) := by unfold openW openSt; rw [← hk, if_pos hk0, if_pos hk0]; exact ⟨rfl, by simp⟩
      subst hk0
      clear HA hok hk
      go_enter Tryz.func48, Tryz.ntmps48
      go_wp2_with (go_at_call 96; refine HA2.out.mono ?_; rintro e w1 ⟨a, c, rfl, ho, hf1⟩)
      go_ret
      refine ⟨rfl, fun _ => ⟨vs, ?_, Moved.refl _ _⟩, (HNT.out w1 hf1).2⟩
      rw [HOW.out.1, HOW.out.2]
      exact (HNT.out w1 hf1).1
    · have HOW : Hid (openW ws = carryW ws (logRs ws k) ∧ st ++ openSt ws = st ++ carrySt (logRs ws k)) := by
        unfold openW openSt carryW carrySt
        rw [← hk, if_neg hk0, if_neg hk0, logRs_done, logRs_puts]
        exact ⟨rfl, by simp⟩
      have HIN : Hid (∀ r ∈ logRs ws k, 0 ≤ r.1 ∧ r.1 < (ws.length : Int)) := fun r hr => by
        simp only [logRs, List.mem_map, List.mem_range] at hr
        obtain ⟨i, hi, rfl⟩ := hr
        have h1 := (okAt_iff.1 (asks_ok (ws := ws) (i := i) (by rw [← hk]; exact hi))).1
        have h2 := wd_U hU (10 + 2 * i)
        exact ⟨h2.1, h1⟩
      have HCO : Hid (∀ w1 v, Fr New w w1 → OwnRs w.heap.size w1 v (logRs ws k) → Calls Tryz.prog 97 #[.pointer (some ⟨tb, 0, none⟩), v] w1 fun e w' => e = .returned (.tuple #[]) ∧ ∃ vs', TG tb g vs' (openW ws) (st ++ openSt ws) w' ∧ Fr (TurnedT tb g vs) w1 w' ∧ Moved w1 vs vs') := fun w1 v hf ho => by
        rw [HOW.out.1, HOW.out.2]
        exact carry_told tb g vs ws st _ v _ w1 (h.new hf) ho HIN.out (by omega) (by rw [logRs_len]; omega)
      have hd0 : decide ((0 : Int) < (k : Int)) = true := by simp; omega
      have hkp : 0 < k := by omega
      clear HA hok hk h hU
      go_enter Tryz.func48, Tryz.ntmps48
      go_wp2_with (first
        | (go_at_call 96; refine HA2.out.mono ?_; rintro e w1 ⟨a, c, rfl, ho, hf1⟩; have HC1 := HCO.out w1 _ hf1 ho)
        | (go_at_call 97; refine HC1.mono ?_; rintro e w2 ⟨rfl, vs2, hT2, hf2, hm2⟩)
        | fail)
      go_ret
      exact ⟨rfl, fun _ => ⟨vs2, hT2, (Moved.refl w vs).trans hm2 hf1.size⟩, ((HNT.out w1 hf1).2).trans hf2 (fun _ _ h => h)⟩
/-- what Open hands over -/
def OpenTo (ws : List Int) (w : World) (v : Value) (c : Int) (w' : World) : Prop :=
  (OpenErr ws c ∧ v = .pointer none) ∨
  (OpenOk ws ∧ c = 0 ∧ ∃ hb tb cb mb g vs, v = .pointer (some ⟨hb, 0, none⟩) ∧ PH hb tb cb mb g vs (openW ws) (openW ws) (openSt ws) w' ∧ w.heap.size ≤ hb ∧ w.heap.size ≤ tb ∧ w.heap.size ≤ cb ∧ w.heap.size ≤ mb ∧ w.heap.size ≤ g ∧ ∀ k, vs.ownBlock = some k → w.heap.size ≤ k)
set_option maxHeartbeats 2000000 in
set_option maxRecDepth 100000 in
theorem popen_any (a : Option Addr) (cap : Nat) (ws : List Int) (w : World) (hm : ws.length ≤ 1048576) (hU : ∀ z ∈ ws, U z) (hr : RowU w a ws) :
    Calls Tryz.prog 20 #[.slice a ws.length cap] w fun e w' => ∃ v c, e = .returned (.tuple #[v, .int .i64 c]) ∧ OpenTo ws w v c w' ∧ Fr New w w' := by
  by_cases hn : nblk ws.length = 0
  · have HS : Hid (Calls Tryz.prog 46 #[.int .i64 ws.length] w fun e w' => e = .returned (.bool false) ∧ w' = w) := shaped_no _ w hm hn
    have HT : Hid (OpenErr ws 2) := .inl ⟨hn, rfl⟩
    clear hn hr hU
    go_enter Tryz.func20, Tryz.ntmps20
    go_wp2_with (go_at_call 46; refine calls_same HS.out ?_)
    go_ret2
    exact ⟨_, 2, rfl, .inl ⟨HT.out, rfl⟩, Fr.refl _ _⟩
  · have HS : Hid (Calls Tryz.prog 46 #[.int .i64 ws.length] w fun e w' => e = .returned (.bool true) ∧ w' = w) := shaped_yes _ w hn
    have hL : 114 ≤ ws.length := by have := nblk_some hn; omega
    have HNT : Hid (Calls Tryz.prog 47 #[.slice a ws.length cap] w fun e w' => ∃ tb g, e = .returned (.pointer (some ⟨tb, 0, none⟩)) ∧ TG tb g (.slice none 0 0) ws [] w' ∧ w.heap.size ≤ tb ∧ w.heap.size ≤ g ∧ Fr New w w') := newTold_any a cap ws w hm (by omega) hr
    have HRC : Hid (∀ tb g w1, TG tb g (.slice none 0 0) ws [] w1 → Calls Tryz.prog 48 #[.pointer (some ⟨tb, 0, none⟩)] w1 fun e w' => e = .returned (.bool (asksS ws).2) ∧ ((asksS ws).2 = true → ∃ vs', TG tb g vs' (openW ws) ([] ++ openSt ws) w' ∧ Moved w1 (.slice none 0 0) vs') ∧ Fr (TurnedT tb g (.slice none 0 0)) w1 w') := fun tb g w1 h => recover_told tb g _ ws [] w1 h hU hL (by simp)
    have HFW : Hid (∀ tb g w1 w2, w.heap.size ≤ tb → w.heap.size ≤ g → Fr New w w1 → Fr (TurnedT tb g (.slice none 0 0)) w1 w2 → Fr New w w2) := fun tb g w1 w2 h1 h2 f1 f2 => f1.trans f2 (fun j hj ht => by
      rcases ht with e | e | e
      · omega
      · omega
      · cases e)
    rcases hok : (asksS ws).2 with _ | _
    · have HT : Hid (OpenErr ws 4) := .inr ⟨hn, .inl ⟨hok, rfl⟩⟩
      rw [hok] at HRC
      obtain ⟨L, hLL⟩ : ∃ L, L = ws.length := ⟨_, rfl⟩
      rw [← hLL] at HS HNT ⊢
      clear hn hr hU hok hLL
      go_enter Tryz.func20, Tryz.ntmps20
      go_wp2_with (first
        | (go_at_call 46; refine calls_same HS.out ?_)
        | (go_at_call 47; refine HNT.out.mono ?_; rintro e w1 ⟨tb, g, rfl, hT1, hb1, hg1, hf1⟩)
        | (go_at_call 48; refine (HRC.out tb g w1 hT1).mono ?_; rintro e w2 ⟨rfl, _, hf2⟩)
        | fail)
      go_ret2
      exact ⟨_, 4, rfl, .inl ⟨HT.out, rfl⟩, HFW.out _ _ _ _ hb1 hg1 hf1 hf2⟩
    · have hnO : nblk (openW ws).length ≠ 0 := by rw [openW_len]; exact hn
      have HSC : Hid (∀ tb g vs w2, TG tb g vs (openW ws) (openSt ws) w2 → Calls Tryz.prog 49 #[.iface 97 (.pointer (some ⟨tb, 0, none⟩))] w2 fun e w' => ∃ cd p, e = .returned (.tuple #[.int .i64 cd, .int .i64 p]) ∧ CheckIs (openW ws) cd p ∧ Fr New w2 w') := fun tb g vs w2 h => soundCheck_row _ _ _ _ _ (openW ws) w2 hnO h.t.row
      have HNC : Hid (∀ tb w2, Calls Tryz.prog 50 #[.iface 97 (.pointer (some ⟨tb, 0, none⟩))] w2 fun e w' => ∃ cb mb, e = .returned (.pointer (some ⟨cb, 0, none⟩)) ∧ ChgIs w' cb tb mb (openW ws) (openW ws) ∧ w2.heap.size ≤ cb ∧ w2.heap.size ≤ mb ∧ Fr New w2 w') := fun tb w2 => newChanged_any tb (openW ws) w2 (openW_U hU)
      have HER : Hid (∀ c p, CheckIs (openW ws) c p → c ≠ 0 → c ≠ 8 → OpenErr ws c) := fun c p h1 h2 h3 => .inr ⟨hn, .inr ⟨hok, h2, h3, p, h1⟩⟩
      have HOK : Hid (∀ c p, CheckIs (openW ws) c p → c = 0 ∨ c = 8 → OpenOk ws) := fun c p h1 h2 => ⟨hn, hok, c, p, h1, h2⟩
      have HUW : Hid ((∀ z ∈ openW ws, U z) ∧ nblk (openW ws).length ≠ 0) := ⟨openW_U hU, hnO⟩
      have HRC2 : Hid (∀ tb g w1, TG tb g (.slice none 0 0) ws [] w1 → Calls Tryz.prog 48 #[.pointer (some ⟨tb, 0, none⟩)] w1 fun e w' => e = .returned (.bool true) ∧ ∃ vs', TG tb g vs' (openW ws) (openSt ws) w' ∧ Moved w1 (.slice none 0 0) vs' ∧ Fr (TurnedT tb g (.slice none 0 0)) w1 w') := fun tb g w1 h => (HRC.out tb g w1 h).mono (by
        rintro e w' ⟨rfl, h2, h3⟩
        rw [hok]
        obtain ⟨vs', h4, h5⟩ := h2 hok
        exact ⟨rfl, vs', by simpa using h4, h5, h3⟩)
      have HFN : Hid (∀ tb g vs2 w1 w2 w3 w4 cb mb cd p, w.heap.size ≤ tb → w.heap.size ≤ g → Fr New w w1 → Fr New w w2 → TG tb g vs2 (openW ws) (openSt ws) w2 → Moved w1 (.slice none 0 0) vs2 → Fr New w2 w3 → CheckIs (openW ws) cd p → cd = 0 ∨ cd = 8 → ChgIs w4 cb tb mb (openW ws) (openW ws) → w3.heap.size ≤ cb → w3.heap.size ≤ mb → Fr New w3 w4 → OpenTo ws w (.pointer (some ⟨w4.heap.size, 0, none⟩)) 0 (w4.alloc (.cells #[.pointer (some ⟨tb, 0, none⟩), .pointer (some ⟨cb, 0, none⟩)] 104)) ∧ Fr New w (w4.alloc (.cells #[.pointer (some ⟨tb, 0, none⟩), .pointer (some ⟨cb, 0, none⟩)] 104))) := fun tb g vs2 w1 w2 w3 w4 cb mb cd p q1 q2 f1 f2 t2 m2 f3 hc hcd c4 q3 q4 f4 => by
        have fA : Fr New w w4 := (f2.same f3).same f4
        have s3 := (f2.same f3).size
        refine ⟨.inr ⟨HOK.out cd p hc hcd, rfl, w4.heap.size, tb, cb, mb, g, vs2, rfl, ⟨Go.Deep.blk_alloc_new w4 _, t2.new ((f3.same f4).alloc _), c4.fr ((Fr.refl New w4).alloc _) id id, HUW.out.1, HUW.out.2⟩, fA.size, q1, by omega, by omega, q2, fun k hk => ?_⟩, fA.alloc _⟩
        rcases m2 with m2 | m2
        · rw [m2] at hk; cases hk
        · have := m2 k hk; have := f1.size; omega
      obtain ⟨L, hLL⟩ : ∃ L, L = ws.length := ⟨_, rfl⟩
      rw [← hLL] at HS HNT ⊢
      clear hn hr hU hok hLL HRC hnO
      go_enter Tryz.func20, Tryz.ntmps20
      go_wp2_with (first
        | (go_at_call 46; refine calls_same HS.out ?_)
        | (go_at_call 47; refine HNT.out.mono ?_; rintro e w1 ⟨tb, g, rfl, hT1, hb1, hg1, hf1⟩)
        | (go_at_call 48; refine (HRC2.out tb g w1 hT1).mono ?_; rintro e w2 ⟨rfl, vs2, hT2, hm2, hf2⟩; have hfa := HFW.out _ _ _ _ hb1 hg1 hf1 hf2)
        | (go_at_call 49; refine (HSC.out tb g vs2 w2 hT2).mono ?_; rintro e w3 ⟨cd, p, rfl, hci, hf3⟩)
        | (go_at_call 50; refine (HNC.out tb w3).mono ?_; rintro e w4 ⟨cb, mb, rfl, hC4, hcb, hmb, hf4⟩)
        | fail)
      · go_ret2
        obtain ⟨o1, o2⟩ := HFN.out tb g vs2 w1 w2 w3 w4 cb mb cd p hb1 hg1 hf1 hfa hT2 hm2 hf3 hci (.inl (by assumption)) hC4 hcb hmb hf4
        exact ⟨_, 0, rfl, o1, o2⟩
      · go_ret2
        have hcd : cd ≠ 0 ∧ cd ≠ 8 := by
          have hx : (cd != 0) = true ∧ (cd != 8) = true := by assumption
          exact ⟨by simpa using hx.1, by simpa using hx.2⟩
        exact ⟨_, cd, rfl, .inl ⟨HER.out cd p hci hcd.1 hcd.2, rfl⟩, hfa.same hf3⟩
      · go_ret2
        have hcd : cd = 0 ∨ cd = 8 := by
          have hx : (cd != 0) = false ∨ (cd != 8) = false := by assumption
          exact hx.imp (by simp) (by simp)
        obtain ⟨o1, o2⟩ := HFN.out tb g vs2 w1 w2 w3 w4 cb mb cd p hb1 hg1 hf1 hfa hT2 hm2 hf3 hci hcd hC4 hcb hmb hf4
        exact ⟨_, 0, rfl, o1, o2⟩
end Go.Proofs.YtbagcjlimdilpaaGreat
/- A story in memory: a heap, what is in it, what was committed last. The walk of begun. -/
namespace Go.Proofs.YtbagcjlimdilpaaGreat
open Go.RowKit Go.Maps

theorem things_like {a b : List Int} (h : Like a b) : things a = things b := by
  unfold things
  rw [h.ob]
  exact List.map_congr_left (fun o ho => by rw [h.words o ho])
/-- a root, as a number -/
theorem root_small {now : List Int} (g : Good now) {k : Nat} (hk : k < 4) : 0 ≤ wd now (3 + k) ∧ wd now (3 + k) ≤ 32 := by
  rcases g.root k hk with h | ⟨o, ho, h⟩
  · omega
  · have := objs_in ho
    have := nblk_le now.length
    omega
theorem wrap_small {x : Int} (h : 0 ≤ x ∧ x ≤ 32) : wrap64 x = x := by
  unfold wrap64
  omega
/-- the cells of a story -/
def stArr (hb n : Nat) (vn vk : Value) (now ws : List Int) : Array Value := #[.pointer (some ⟨hb, 0, none⟩), .int .i64 (n : Int), vn, .int .i64 (wd now 3), .int .i64 (wd now 4), .int .i64 (wd now 5), .int .i64 (wd now 6), vk, .int .i64 (wd ws 3), .int .i64 (wd ws 4), .int .i64 (wd ws 5), .int .i64 (wd ws 6)]
/-- a story, with all that lies in memory of it -/
structure Sty (sb n hb tb cb mb g : Nat) (vs vn vk : Value) (un uk : List Value) (ws now : List Int) (sts : List St) (w : World) : Prop where
  blk : w.heap[sb]? = some (.cells (stArr hb n vn vk now ws) 39 (0, 0))
  ph : PH hb tb cb mb g vs ws now sts w
  hw : HW ws now
  tn : ThAt w vn (things now) un
  tk : ThAt w vk (things ws) uk
  n : nblk ws.length = n
  gn : ∀ u ∈ un, u.ownBlock ≠ some g
  gk : ∀ u ∈ uk, u.ownBlock ≠ some g
  nk : ∀ u ∈ un, ∀ u' ∈ uk, u.ownBlock ≠ u'.ownBlock
/-- its blocks -/
def Foot (sb hb tb cb mb g : Nat) (vs vn vk : Value) (un uk : List Value) (k : Nat) : Prop := k = sb ∨ k = hb ∨ k = tb ∨ k = cb ∨ k = mb ∨ k = g ∨ vs.ownBlock = some k ∨ ThB vn un k ∨ ThB vk uk k
namespace Sty
variable {sb n hb tb cb mb g : Nat} {vs vn vk : Value} {un uk : List Value} {ws now : List Int} {sts : List St} {w : World}
theorem fr {T : Nat → Prop} {w' : World} (h : Sty sb n hb tb cb mb g vs vn vk un uk ws now sts w) (hf : Fr T w w') (hn : ∀ k, Foot sb hb tb cb mb g vs vn vk un uk k → ¬ T k) : Sty sb n hb tb cb mb g vs vn vk un uk ws now sts w' :=
  ⟨hf.heap h.blk (hn _ (.inl rfl)), h.ph.fr hf (hn _ (.inr (.inl rfl))) (hn _ (.inr (.inr (.inl rfl)))) (hn _ (.inr (.inr (.inr (.inl rfl))))) (hn _ (.inr (.inr (.inr (.inr (.inl rfl)))))) (hn _ (.inr (.inr (.inr (.inr (.inr (.inl rfl))))))) (fun k hk => hn k (.inr (.inr (.inr (.inr (.inr (.inr (.inl hk)))))))), h.hw,
    h.tn.fr hf (fun k hk => hn k (.inr (.inr (.inr (.inr (.inr (.inr (.inr (.inl hk))))))))), h.tk.fr hf (fun k hk => hn k (.inr (.inr (.inr (.inr (.inr (.inr (.inr (.inr hk))))))))), h.n, h.gn, h.gk, h.nk⟩
theorem new {w' : World} (h : Sty sb n hb tb cb mb g vs vn vk un uk ws now sts w) (hf : Fr New w w') : Sty sb n hb tb cb mb g vs vn vk un uk ws now sts w' := h.fr hf (fun _ _ h => h)
theorem lt (h : Sty sb n hb tb cb mb g vs vn vk un uk ws now sts w) {k : Nat} (hk : Foot sb hb tb cb mb g vs vn vk un uk k) : k < w.heap.size := by
  rcases hk with rfl | rfl | rfl | rfl | rfl | rfl | hk | hk | hk
  · exact lt_of_block h.blk
  · exact lt_of_block h.ph.hp
  · exact lt_of_block h.ph.tg.t.td
  · exact lt_of_block h.ph.cg.cg
  · exact h.ph.cg.lt
  · exact lt_of_block h.ph.tg.t.wb
  · obtain ⟨_, c, hc⟩ := own_block h.ph.tg.o hk
    exact lt_of_block hc
  · exact h.tn.lt hk
  · exact h.tk.lt hk
theorem c0 (h : Sty sb n hb tb cb mb g vs vn vk un uk ws now sts w) : w.cell? ⟨sb, 0, none⟩ = some (.pointer (some ⟨hb, 0, none⟩)) := ((block_cells h.blk).1 0).trans rfl
theorem c1 (h : Sty sb n hb tb cb mb g vs vn vk un uk ws now sts w) : w.cell? ⟨sb, 1, none⟩ = some (.int .i64 (n : Int)) := ((block_cells h.blk).1 1).trans rfl
theorem c2 (h : Sty sb n hb tb cb mb g vs vn vk un uk ws now sts w) : w.cell? ⟨sb, 2, none⟩ = some vn := ((block_cells h.blk).1 2).trans rfl
theorem c7 (h : Sty sb n hb tb cb mb g vs vn vk un uk ws now sts w) : w.cell? ⟨sb, 7, none⟩ = some vk := ((block_cells h.blk).1 7).trans rfl
theorem lens (h : Sty sb n hb tb cb mb g vs vn vk un uk ws now sts w) : 1 ≤ n ∧ n ≤ 32 ∧ ws.length = 106 + 8 * n ∧ now.length = 106 + 8 * n := by
  obtain ⟨h1, h2, h3⟩ := h.hw.gw.len
  have := h.hw.len
  rw [h.n] at h1 h2 h3
  omega
end Sty
/-- a story whose blocks lie in F -/
def Story (F : Nat → Prop) (sb n : Nat) (ws now : List Int) (sts : List St) (w : World) : Prop := ∃ hb tb cb mb g vs vn vk un uk, Sty sb n hb tb cb mb g vs vn vk un uk ws now sts w ∧ ∀ k, Foot sb hb tb cb mb g vs vn vk un uk k → F k
theorem Story.fr {F T : Nat → Prop} {sb n : Nat} {ws now : List Int} {sts : List St} {w w' : World} (h : Story F sb n ws now sts w) (hf : Fr T w w') (hn : ∀ k, k < w.heap.size → F k → ¬ T k) : Story F sb n ws now sts w' := by
  obtain ⟨hb, tb, cb, mb, g, vs, vn, vk, un, uk, s, hF⟩ := h
  exact ⟨hb, tb, cb, mb, g, vs, vn, vk, un, uk, s.fr hf (fun k hk => hn k (s.lt hk) (hF k hk)), hF⟩

theorem imgL_wd (n q : Nat) : wd (imgL n) q = if q = 0 then 20261114 else if q = 1 then (n : Int) else if q = 7 then sumL (headL n) else 0 := by
  unfold imgL wd
  by_cases hq : q < 8
  · match q, hq with
    | 0, _ => rfl
    | 1, _ => rfl
    | 2, _ => rfl
    | 3, _ => rfl
    | 4, _ => rfl
    | 5, _ => rfl
    | 6, _ => rfl
    | 7, _ => simp [List.getD]
  · rw [if_neg (by omega), if_neg (by omega), if_neg (by omega)]
    rw [List.getD, List.getElem?_append_right (by simp; omega)]
    by_cases h2 : q - 8 < 98 + 8 * n
    · simp [h2]
    · simp [h2]
theorem imgL_hw (n : Nat) (h1 : 1 ≤ n) (h2 : n ≤ 32) : HW (imgL n) (imgL n) ∧ objs (imgL n) = [] ∧ ∀ q, 2 ≤ q → q ≠ 7 → wd (imgL n) q = 0 := by
  have hn : nblk (imgL n).length = n := by rw [imgL_len]; exact nblk_mk n h1 h2
  have h0 : ∀ q, 2 ≤ q → q ≠ 7 → wd (imgL n) q = 0 := fun q hq h7 => by rw [imgL_wd, if_neg (by omega), if_neg (by omega), if_neg h7]
  have hT : Tiles (imgL n) [] := ⟨List.Pairwise.nil, (fun o ho => by cases ho), fun c _ _ _ => h0 _ (by omega) (by omega)⟩
  obtain ⟨e1, e2⟩ := tiles_objs (by omega) hT
  have g : Good (imgL n) := ⟨by omega, e2, by rw [imgL_wd]; rfl, by rw [imgL_wd, hn]; rfl, h0 8 (by omega) (by omega), fun r hr => .inl (h0 _ (by omega) (by omega)), fun o ho => by rw [e1] at ho; cases ho⟩
  refine ⟨⟨g, g, ?_, rfl, fun _ _ _ => rfl⟩, e1, h0⟩
  rw [imgL_wd, if_neg (by omega), if_neg (by omega), if_pos rfl]
  rfl
theorem imgL_U (n : Nat) (h2 : n ≤ 32) : ∀ z ∈ imgL n, U z := by
  intro z hz
  unfold imgL at hz
  rcases List.mem_append.1 hz with hz | hz
  · simp only [List.mem_cons, List.not_mem_nil, or_false] at hz
    rcases hz with rfl | rfl | rfl | rfl | rfl | rfl | rfl | rfl
    · unfold U; omega
    · unfold U; omega
    · unfold U; omega
    · unfold U; omega
    · unfold U; omega
    · unfold U; omega
    · unfold U; omega
    · exact sumL_U _
  · obtain ⟨_, rfl⟩ := List.mem_replicate.1 hz
    unfold U
    omega
/-- Open of words that are kept: a heap with these -/
theorem open_kept (gg : Nat) (cap : Nat) (ws a : List Int) (w : World) (hr : RowU w (some ⟨gg, 0, none⟩) ws) (hU : ∀ z ∈ ws, U z) (ho : OpenOk ws) (ha : openW ws = a) :
    Calls Tryz.prog 20 #[.slice (some ⟨gg, 0, none⟩) ws.length cap] w fun e w' => ∃ hb tb cb mb g vs, e = .returned (.tuple #[.pointer (some ⟨hb, 0, none⟩), .int .i64 0]) ∧ PH hb tb cb mb g vs a a (openSt ws) w' ∧ (w.heap.size ≤ hb ∧ w.heap.size ≤ tb ∧ w.heap.size ≤ cb ∧ w.heap.size ≤ mb ∧ w.heap.size ≤ g ∧ ∀ k, vs.ownBlock = some k → w.heap.size ≤ k) ∧ Fr New w w' := by
  have hl : ws.length ≤ 1048576 := by have := (nblk_some ho.1); omega
  refine (popen_any (some ⟨gg, 0, none⟩) cap ws w hl hU hr).mono ?_
  rintro e w' ⟨v, c, rfl, hto, hf⟩
  rcases hto with ⟨he, _⟩ | ⟨_, rfl, hb, tb, cb, mb, g, vs, rfl, hp, q⟩
  · exact absurd ho (fun ho => open_not he ho)
  · rw [ha] at hp
    exact ⟨hb, tb, cb, mb, g, vs, rfl, hp, q, hf⟩
theorem thAt_nil (w : World) : ThAt w (.slice none 0 0) [] [] := ⟨World.ownsRow_nil _ _ _ _, rfl, (fun i hi => by simp at hi), (fun x hx => by cases hx), List.Pairwise.nil, by simp⟩

set_option maxHeartbeats 300000 in
set_option maxRecDepth 100000 in
theorem begun_any (n : Nat) (h1 : 1 ≤ n) (h2 : n ≤ 32) (w : World) :
    Calls Tryz.prog 15 #[.int .i64 (n : Int)] w fun e w' => ∃ sb F, e = .returned (.tuple #[.pointer (some ⟨sb, 0, none⟩), .bool true]) ∧ Story F sb n (imgL n) (imgL n) [] w' ∧ (∀ k, F k → w.heap.size ≤ k) ∧ Fr New w w' := by
  obtain ⟨hw, e1, h0⟩ := imgL_hw n h1 h2
  have hlen := imgL_len n
  have HF : Hid (∀ w1, Calls Tryz.prog 37 #[.int .i64 (n : Int)] w1 fun e w' => e = .returned (.tuple #[.slice (some ⟨w1.heap.size, 0, none⟩) (106 + 8 * n) (106 + 8 * n), .int .i64 0]) ∧ Row w' w1.heap.size (imgL n) ∧ Fr New w1 w') := fun w1 => fmt_yes n w1 h1 h2
  obtain ⟨og1, og2, og3⟩ := open_good hw.gw hw.sum
  have HOP : Hid (∀ gg w1, Row w1 gg (imgL n) → Calls Tryz.prog 20 #[.slice (some ⟨gg, 0, none⟩) (106 + 8 * n) (106 + 8 * n)] w1 fun e w' => ∃ hb tb cb mb g vs, e = .returned (.tuple #[.pointer (some ⟨hb, 0, none⟩), .int .i64 0]) ∧ PH hb tb cb mb g vs (imgL n) (imgL n) [] w' ∧ (w1.heap.size ≤ hb ∧ w1.heap.size ≤ tb ∧ w1.heap.size ≤ cb ∧ w1.heap.size ≤ mb ∧ w1.heap.size ≤ g ∧ ∀ k, vs.ownBlock = some k → w1.heap.size ≤ k) ∧ Fr New w1 w') := fun gg w1 hr => by
    have := open_kept gg (106 + 8 * n) (imgL n) (imgL n) w1 (Row.rowU hr) (imgL_U n h2) og1 og2
    rwa [hlen, og3] at this
  have HIS : Hid (∀ hb tb cb mb g vs w1, PH hb tb cb mb g vs (imgL n) (imgL n) [] w1 → Calls Tryz.prog 19 #[.pointer (some ⟨hb, 0, none⟩), .agg #[.slice none 0 0, .int .i64 0, .int .i64 0, .int .i64 0, .int .i64 0]] w1 fun e w' => e = .returned (.bool true) ∧ Fr New w1 w') := fun hb tb cb mb g vs w1 hp => (kis_any hb tb cb mb g vs (imgL n) (imgL n) [] (.slice none 0 0) [] [] 0 0 0 0 w1 hp (thAt_nil w1)).mono (by
    rintro e w' ⟨b, rfl, hb, hf⟩
    have : b = true := hb.2 ⟨by unfold things; rw [e1]; rfl, fun k hk => by
      rw [h0 _ (by omega) (by omega)]
      rw [wrap_small (by omega)]
      unfold root4
      repeat' split
      all_goals rfl⟩
    rw [this]
    exact ⟨rfl, hf⟩)
  have HEND : Hid (∀ hb tb cb mb g vs w3 w4, w.heap.size ≤ hb → w.heap.size ≤ tb → w.heap.size ≤ cb → w.heap.size ≤ mb → w.heap.size ≤ g → (∀ k, vs.ownBlock = some k → w.heap.size ≤ k) → PH hb tb cb mb g vs (imgL n) (imgL n) [] w3 → w3.heap[w.heap.size]? = some (.cells #[.pointer (some ⟨hb, 0, none⟩), .int .i64 (n : Int), .slice none 0 0, .int .i64 0, .int .i64 0, .int .i64 0, .int .i64 0, .slice none 0 0, .int .i64 0, .int .i64 0, .int .i64 0, .int .i64 0] 39 (0, 0)) → Fr New w w3 → Fr New w3 w4 → ∃ F, Story F w.heap.size n (imgL n) (imgL n) [] w4 ∧ (∀ k, F k → w.heap.size ≤ k) ∧ Fr New w w4) := fun hb tb cb mb g vs w3 w4 q1 q2 q3 q4 q5 q6 hp hs f3 f4 => by
    have ht : things (imgL n) = [] := by unfold things; rw [e1]; rfl
    have hs4 := f4.heap hs id
    refine ⟨fun k => w.heap.size ≤ k, ⟨hb, tb, cb, mb, g, vs, .slice none 0 0, .slice none 0 0, [], [], ⟨?_, hp.new f4, hw, by rw [ht]; exact thAt_nil w4, by rw [ht]; exact thAt_nil w4, by rw [hlen]; exact nblk_mk n h1 h2, (fun u hu => by cases hu), (fun u hu => by cases hu), fun u hu => by cases hu⟩, fun k hk => ?_⟩, fun k hk => hk, f3.same f4⟩
    · rw [hs4]
      unfold stArr
      rw [h0 3 (by omega) (by omega), h0 4 (by omega) (by omega), h0 5 (by omega) (by omega), h0 6 (by omega) (by omega)]
    · rcases hk with rfl | rfl | rfl | rfl | rfl | rfl | hk | hk | hk
      · exact Nat.le_refl _
      · exact q1
      · exact q2
      · exact q3
      · exact q4
      · exact q5
      · exact q6 k hk
      · rcases hk with hk | ⟨u, hu, _⟩
        · cases hk
        · cases hu
      · rcases hk with hk | ⟨u, hu, _⟩
        · cases hk
        · cases hu
  have HST : Hid (∀ hb tb cb mb g vs w1 w2, w.heap.size < w1.heap.size → w1.heap[w.heap.size]? = some (.cells #[.pointer none, .int .i64 (n : Int), .slice none 0 0, .int .i64 0, .int .i64 0, .int .i64 0, .int .i64 0, .slice none 0 0, .int .i64 0, .int .i64 0, .int .i64 0, .int .i64 0] 39 (0, 0)) → Fr New w w1 → Fr New w1 w2 → PH hb tb cb mb g vs (imgL n) (imgL n) [] w2 → (w1.heap.size ≤ hb ∧ w1.heap.size ≤ tb ∧ w1.heap.size ≤ cb ∧ w1.heap.size ≤ mb ∧ w1.heap.size ≤ g ∧ ∀ k, vs.ownBlock = some k → w1.heap.size ≤ k) → w2.cell? ⟨w.heap.size, 0, none⟩ = some (.pointer none) ∧ w2.frozen? ⟨w.heap.size, 0, none⟩ = false ∧ PH hb tb cb mb g vs (imgL n) (imgL n) [] (w2.setCell ⟨w.heap.size, 0, none⟩ (.pointer (some ⟨hb, 0, none⟩))) ∧ (∀ w4, Fr New (w2.setCell ⟨w.heap.size, 0, none⟩ (.pointer (some ⟨hb, 0, none⟩))) w4 → ∃ F, Story F w.heap.size n (imgL n) (imgL n) [] w4 ∧ (∀ k, F k → w.heap.size ≤ k) ∧ Fr New w w4)) := fun hb tb cb mb g vs w1 w2 hlt hblk f1 f2 hp hq => by
    obtain ⟨q1, q2, q3, q4, q5, q6⟩ := hq
    have hb2 := f2.heap hblk id
    have hs : Fr (fun k => k = w.heap.size) w2 (w2.setCell ⟨w.heap.size, 0, none⟩ (.pointer (some ⟨hb, 0, none⟩))) := (Fr.refl (fun k => k = w.heap.size) w2).setCell (p := ⟨w.heap.size, 0, none⟩) (fun _ => rfl) _
    have hp3 : PH hb tb cb mb g vs (imgL n) (imgL n) [] (w2.setCell ⟨w.heap.size, 0, none⟩ (.pointer (some ⟨hb, 0, none⟩))) := hp.fr hs (by omega) (by omega) (by omega) (by omega) (by omega) (fun k hk => by have := q6 k hk; omega)
    refine ⟨((block_cells hb2).1 0).trans rfl, (block_cells hb2).2 0, hp3, fun w4 f4 => ?_⟩
    refine HEND.out hb tb cb mb g vs _ w4 (by omega) (by omega) (by omega) (by omega) (by omega) (fun k hk => by have := q6 k hk; omega) hp3 ?_ ((f1.same f2).trans hs (fun j hj e => by omega)) f4
    rw [heap_setCell_same _ _ 0 _ _ _ hb2]
    rfl
  clear hw e1 h0 hlen og1 og2 og3
  go_enter Tryz.func15, Tryz.ntmps15
  go_wp2_with (first
    | (go_at_call 37; refine (HF.out _).mono ?_; rintro e w1 ⟨rfl, hR1, hf1⟩; have hR1' : Row w1 (w.heap.size + 1) (imgL n) := by simpa using hR1)
    | (go_at_call 20; refine (HOP.out (w.heap.size + 1) w1 hR1').mono ?_; rintro e w2 ⟨hb, tb, cb, mb, g, vs, rfl, hp2, hq2, hf2⟩; obtain ⟨hcz, hfz, hp3, hend⟩ := HST.out hb tb cb mb g vs w1 w2 (by have := hf1.size; simp at this; omega) (hf1.heap (Go.Deep.blk_alloc_new w _) id) (((Fr.refl New w).alloc _).same hf1) hf2 hp2 hq2)
    | (go_at_call 19; refine (HIS.out hb tb cb mb g vs _ hp3).mono ?_; rintro e w4 ⟨rfl, hf4⟩)
    | fail)
  go_ret2
  obtain ⟨F, q1, q2, q3⟩ := hend w4 hf4
  exact ⟨_, F, rfl, q1, q2, q3⟩
end Go.Proofs.YtbagcjlimdilpaaGreat
