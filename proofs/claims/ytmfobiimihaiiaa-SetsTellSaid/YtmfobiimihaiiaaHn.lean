/- Plain mathematics of sets of small numbers, by their bits. -/
import Derived.Test.YtmfobiimihaiiaaHm
namespace Go.Proofs.Ytmfobiimihaiiaa

/-- The set of one number; nothing where no set can have it. -/
def bitN (n : Int) : Nat := if 0 ≤ n ∧ n < 64 then 2 ^ n.toNat else 0
/-- What is in the first one alone. -/
def lessN (a b : Nat) : Nat := a ^^^ (a &&& b)

theorem bitN_lt (n : Int) : bitN n < 18446744073709551616 := by
  unfold bitN
  split
  · rename_i h
    exact Nat.pow_lt_pow_right (by omega) (by omega : n.toNat < 64)
  · omega
theorem testBit_bitN (n : Int) (i : Nat) : (bitN n).testBit i = decide (0 ≤ n ∧ n < 64 ∧ (i : Int) = n) := by
  unfold bitN
  split
  · rename_i h
    rw [Nat.testBit_two_pow]
    by_cases e : n.toNat = i
    · have : (i : Int) = n := by omega
      simp [e, this, h.1, h.2]
    · have : ¬ (i : Int) = n := by omega
      simp [e, this]
  · rename_i h
    simp
    omega
theorem testBit_lessN (a b i : Nat) : (lessN a b).testBit i = (a.testBit i && !b.testBit i) := by
  simp [lessN, Nat.testBit_xor, Nat.testBit_and]
  cases a.testBit i <;> cases b.testBit i <;> rfl
theorem lessN_lt {a : Nat} (h : a < 18446744073709551616) (b : Nat) : lessN a b < 18446744073709551616 :=
  Nat.xor_lt_two_pow (n := 64) h (Nat.lt_of_le_of_lt Nat.and_le_left h)
theorem or_lt {a b : Nat} (ha : a < 18446744073709551616) (hb : b < 18446744073709551616) : a ||| b < 18446744073709551616 :=
  Nat.or_lt_two_pow (n := 64) ha hb
theorem and_lt {a : Nat} (ha : a < 18446744073709551616) (b : Nat) : a &&& b < 18446744073709551616 :=
  Nat.lt_of_le_of_lt Nat.and_le_left ha
theorem testBit_hi {a i : Nat} (ha : a < 18446744073709551616) (hi : 64 ≤ i) : a.testBit i = false :=
  Nat.testBit_lt_two_pow (Nat.lt_of_lt_of_le (show a < 2 ^ 64 from ha) (Nat.pow_le_pow_right (by omega) hi))
/-- Two sets with the same numbers are one. -/
theorem set_ext {a b : Nat} (ha : a < 18446744073709551616) (hb : b < 18446744073709551616) (h : ∀ i, i < 64 → a.testBit i = b.testBit i) : a = b :=
  Nat.eq_of_testBit_eq fun i => by
    by_cases hi : i < 64
    · exact h i hi
    · rw [testBit_hi ha (by omega), testBit_hi hb (by omega)]
theorem and_bitN_ne (a : Nat) (n : Int) : (a &&& bitN n ≠ 0) ↔ (0 ≤ n ∧ n < 64 ∧ a.testBit n.toNat = true) := by
  constructor
  · intro h
    have : ∃ i, (a &&& bitN n).testBit i = true := Classical.byContradiction fun hn => h (Nat.eq_of_testBit_eq fun i => by
      rw [Nat.zero_testBit]; cases e : (a &&& bitN n).testBit i
      · rfl
      · exact absurd ⟨i, e⟩ hn)
    obtain ⟨i, hi⟩ := this
    rw [Nat.testBit_and, testBit_bitN] at hi
    simp at hi
    obtain ⟨h1, h2, h3, h4⟩ := hi
    refine ⟨h2, h3, ?_⟩
    rw [show n.toNat = i by omega]; exact h1
  · rintro ⟨h1, h2, h3⟩ h
    have : (a &&& bitN n).testBit n.toNat = true := by
      rw [Nat.testBit_and, testBit_bitN, h3]; simp; omega
    rw [h] at this; simp at this
theorem lessN_zero_iff {a b : Nat} (ha : a < 18446744073709551616) : lessN a b = 0 ↔ ∀ i, i < 64 → a.testBit i = true → b.testBit i = true := by
  constructor
  · intro h i _ hi
    have := testBit_lessN a b i
    rw [h, hi] at this
    simpa using this.symm
  · intro h
    refine set_ext (lessN_lt ha b) (by omega) fun i hi => ?_
    rw [testBit_lessN]
    have := h i hi
    cases e : a.testBit i <;> simp_all

theorem mem_upto {s i : Nat} : i ∈ upto s 64 ↔ i < 64 ∧ s.testBit i = true := by simp [upto]
theorem upto_ext {a b : Nat} (h : ∀ i, i < 64 → a.testBit i = b.testBit i) : upto a 64 = upto b 64 := by
  unfold upto
  exact List.filter_congr fun i hi => h i (by simpa using hi)
theorem upto_nil_iff {a : Nat} (ha : a < 18446744073709551616) : upto a 64 = [] ↔ a = 0 := by
  constructor
  · intro h
    refine set_ext ha (by omega) fun i hi => ?_
    have : i ∉ upto a 64 := by rw [h]; simp
    rw [mem_upto] at this
    simp; cases e : a.testBit i
    · rfl
    · exact absurd ⟨hi, e⟩ this
  · rintro rfl; simp [upto]
theorem upto_sorted (s : Nat) : (upto s 64).Pairwise (· < ·) := List.Pairwise.filter _ List.pairwise_lt_range

end Go.Proofs.Ytmfobiimihaiiaa
