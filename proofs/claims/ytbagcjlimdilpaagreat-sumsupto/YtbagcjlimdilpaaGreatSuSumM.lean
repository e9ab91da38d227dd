/- The sum of words as a function of integers: each step is a bijection in the word and in the sum so far; so one other word makes another sum. -/
import Derived.WalkKit
import Derived.ProofKit
namespace Go.Proofs.YtbagcjlimdilpaaGreat
open Go.RowKit

/-- a number of 64 bits, without a sign -/
def U (n : Int) : Prop := 0 ≤ n ∧ n < 18446744073709551616

def rot (s : Int) : Int := bits .or .u64 (IntKind.u64.wrap (s * 512)) (s / 36028797018963968)
def mix (s x : Int) : Int := IntKind.u64.wrap (bits .xor .u64 (rot s) x * 11400714819323198485)
def sumL (l : List Int) : Int := l.foldl mix 0

theorem wrapU (n : Int) : U (IntKind.u64.wrap n) := by
  rw [IntKind.wrap_u64]; unfold U; omega
theorem mix_U (s x : Int) : U (mix s x) := wrapU _

theorem rot_eq {s : Int} (h : U s) : rot s = (s * 512) % 18446744073709551616 + s / 36028797018963968 := by
  obtain ⟨h0, h1⟩ := h
  unfold rot
  rw [IntKind.wrap_u64, u64_or _ _ (by omega) (by omega) (by omega) (by omega)]
  rw [nat_join 9 _ _ (by omega) (by omega)]
  omega
theorem rot_U {s : Int} (h : U s) : U (rot s) := by
  rw [rot_eq h]; obtain ⟨h0, h1⟩ := h; unfold U; omega
theorem two_digits {p q a b : Int} (hq0 : 0 ≤ q) (hq : q < 512) (hb0 : 0 ≤ b) (hb : b < 512) (h : 512 * p + q = 512 * a + b) : p = a ∧ q = b := by omega
theorem rot_parts {s : Int} (h : U s) : rot s = 512 * (s % 36028797018963968) + s / 36028797018963968 := by
  rw [rot_eq h]; obtain ⟨h0, h1⟩ := h; omega
theorem rot_inj {s t : Int} (hs : U s) (ht : U t) (h : rot s = rot t) : s = t := by
  rw [rot_parts hs, rot_parts ht] at h
  have ⟨e1, e2⟩ := two_digits (by have := hs.1; omega) (by have := hs.2; omega) (by have := ht.1; omega) (by have := ht.2; omega) h
  rw [← Int.emod_add_mul_ediv s 36028797018963968, ← Int.emod_add_mul_ediv t 36028797018963968, e1, e2]

theorem xor_eq {a b : Int} (ha : U a) (hb : U b) : bits .xor .u64 a b = ((a.toNat ^^^ b.toNat : Nat) : Int) := u64_xor a b ha.1 ha.2 hb.1 hb.2
theorem xor_U {a b : Int} (ha : U a) (hb : U b) : U (bits .xor .u64 a b) := by
  rw [xor_eq ha hb]
  have : a.toNat ^^^ b.toNat < 2 ^ 64 := Nat.xor_lt_two_pow (by have := ha.2; have := ha.1; omega) (by have := hb.2; have := hb.1; omega)
  unfold U; omega
theorem toNat_inj {a b : Int} (ha : U a) (hb : U b) (h : a.toNat = b.toNat) : a = b := by
  have := ha.1; have := hb.1; omega
theorem xor_left {a b c : Int} (ha : U a) (hb : U b) (hc : U c) (h : bits .xor .u64 c a = bits .xor .u64 c b) : a = b := by
  rw [xor_eq hc ha, xor_eq hc hb] at h
  apply toNat_inj ha hb
  have h' : c.toNat ^^^ a.toNat = c.toNat ^^^ b.toNat := by omega
  have := congrArg (fun z => c.toNat ^^^ z) h'
  simpa [← Nat.xor_assoc] using this
theorem xor_right {a b c : Int} (ha : U a) (hb : U b) (hc : U c) (h : bits .xor .u64 a c = bits .xor .u64 b c) : a = b := by
  rw [xor_eq ha hc, xor_eq hb hc] at h
  apply toNat_inj ha hb
  have h' : a.toNat ^^^ c.toNat = b.toNat ^^^ c.toNat := by omega
  have := congrArg (fun z => z ^^^ c.toNat) h'
  simpa [Nat.xor_assoc] using this

theorem mul_back {a : Int} (ha : U a) : (a * 11400714819323198485 % 18446744073709551616) * 17428512612931826493 % 18446744073709551616 = a := by
  obtain ⟨h0, h1⟩ := ha
  omega
theorem mul_inj {a b : Int} (ha : U a) (hb : U b) (h : IntKind.u64.wrap (a * 11400714819323198485) = IntKind.u64.wrap (b * 11400714819323198485)) : a = b := by
  rw [IntKind.wrap_u64, IntKind.wrap_u64] at h
  rw [← mul_back ha, ← mul_back hb, h]

theorem mix_word {s a b : Int} (hs : U s) (ha : U a) (hb : U b) (h : mix s a = mix s b) : a = b :=
  xor_left ha hb (rot_U hs) (mul_inj (xor_U (rot_U hs) ha) (xor_U (rot_U hs) hb) h)
theorem mix_sum {s t x : Int} (hs : U s) (ht : U t) (hx : U x) (h : mix s x = mix t x) : s = t :=
  rot_inj hs ht (xor_right (rot_U hs) (rot_U ht) hx (mul_inj (xor_U (rot_U hs) hx) (xor_U (rot_U ht) hx) h))

theorem fold_U {l : List Int} {s : Int} (hs : U s) : U (l.foldl mix s) := by
  induction l generalizing s with
  | nil => exact hs
  | cons x r ih => exact ih (mix_U s x)
theorem sumL_U (l : List Int) : U (sumL l) := fold_U ⟨by omega, by omega⟩
theorem fold_inj {l : List Int} (hl : ∀ x ∈ l, U x) {s t : Int} (hs : U s) (ht : U t) (h : l.foldl mix s = l.foldl mix t) : s = t := by
  induction l generalizing s t with
  | nil => exact h
  | cons x r ih => exact mix_sum hs ht (hl x (by simp)) (ih (fun y hy => hl y (by simp [hy])) (mix_U s x) (mix_U t x) h)
theorem sumL_append (l m : List Int) : sumL (l ++ m) = m.foldl mix (sumL l) := by simp [sumL]
theorem sumL_snoc (l : List Int) (x : Int) : sumL (l ++ [x]) = mix (sumL l) x := by simp [sumL]
theorem sumL_take_succ (l : List Int) (k : Nat) (h : k < l.length) : sumL (l.take (k + 1)) = mix (sumL (l.take k)) l[k] := by
  rw [List.take_succ_eq_append_getElem h, sumL_snoc]
/-- ANOTHER WORD AT ONE PLACE MAKES ANOTHER SUM -/
theorem sumL_set (l : List Int) (hl : ∀ x ∈ l, U x) (k : Nat) (hk : k < l.length) (y : Int) (hy : U y) (h : sumL (l.set k y) = sumL l) : y = l[k] := by
  have e1 : l.set k y = l.take k ++ y :: l.drop (k + 1) := List.set_eq_take_append_cons_drop .. |>.trans (by simp [hk])
  have e2 : l = l.take k ++ l[k] :: l.drop (k + 1) := by simp
  rw [e1] at h
  rw [show sumL l = sumL (l.take k ++ l[k] :: l.drop (k + 1)) from congrArg sumL e2] at h
  rw [sumL_append, sumL_append] at h
  simp only [List.foldl_cons] at h
  have h2 := fold_inj (fun x hx => hl x (List.mem_of_mem_drop hx)) (mix_U _ _) (mix_U _ _) h
  exact mix_word (sumL_U _) hy (hl _ (List.getElem_mem _)) h2

end Go.Proofs.YtbagcjlimdilpaaGreat
