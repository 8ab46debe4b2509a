/- Plain mathematics: the words of a span, bit by bit. -/
import Derived.Test.YtochckefnjobhaaDoorXa
namespace Go.Proofs.X3
set_option linter.unusedVariables false

theorem bits_fold (lo hi k : Nat) : ∀ n j, ((List.range n).foldl (fun n j => if lo ≤ 64 * k + j ∧ 64 * k + j ≤ hi then n ||| 2 ^ j else n) 0).testBit j = decide (j < n ∧ lo ≤ 64 * k + j ∧ 64 * k + j ≤ hi) := by
  intro n
  induction n with
  | zero => intro j; simp
  | succ n ih =>
    intro j
    rw [List.range_succ, List.foldl_append]
    simp only [List.foldl_cons, List.foldl_nil]
    split
    · rename_i c
      rw [Nat.testBit_or, ih, Nat.testBit_two_pow]
      by_cases e : n = j
      · subst e; simp [c]
      · rw [Bool.eq_iff_iff]; simp [e]; omega
    · rename_i c
      rw [ih]
      rw [Bool.eq_iff_iff]; simp
      intro h1 h2
      constructor
      · intro h; omega
      · intro h
        rcases Nat.lt_or_ge j n with h3 | h3
        · exact h3
        · exfalso; apply c
          have : j = n := by omega
          subst this; exact ⟨h1, h2⟩

theorem bits_test (lo hi k j : Nat) : (bitsOf lo hi k).testBit j = decide (j < 64 ∧ lo ≤ 64 * k + j ∧ 64 * k + j ≤ hi) := bits_fold lo hi k 64 j

theorem bits_none {lo hi : Nat} (h : hi < lo) (k : Nat) : bitsOf lo hi k = 0 := by
  apply Nat.eq_of_testBit_eq
  intro j
  rw [bits_test]; simp; omega

theorem bits_lt (lo hi k : Nat) : bitsOf lo hi k < 2 ^ 64 := by
  apply Nat.lt_pow_two_of_testBit
  intro j hj
  rw [bits_test]; simp; omega

theorem bits_step {lo m : Nat} (h : lo ≤ m) (k : Nat) : bitsOf lo m k = if m / 64 = k then (if m = 0 then 0 else bitsOf lo (m - 1) k) ||| 2 ^ (m % 64) else (if m = 0 then 0 else bitsOf lo (m - 1) k) := by
  apply Nat.eq_of_testBit_eq
  intro j
  rw [bits_test]
  by_cases h0 : m = 0
  · subst h0
    by_cases hk : 0 / 64 = k
    · simp only [hk, if_true, Nat.testBit_or, Nat.testBit_two_pow]
      rw [Bool.eq_iff_iff]; simp; omega
    · simp only [hk, if_false, if_true]
      rw [Bool.eq_iff_iff]; simp; omega
  · rw [if_neg h0]
    split
    · rename_i c
      rw [Nat.testBit_or, bits_test, Nat.testBit_two_pow, Bool.eq_iff_iff]; simp; omega
    · rename_i c
      rw [bits_test, Bool.eq_iff_iff]; simp; omega

end Go.Proofs.X3
