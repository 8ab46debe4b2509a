/- Plain mathematics of sets of small numbers: the numbers whose bits a number has. -/
namespace Go.Proofs.Ytochckefnjobhaa

/-- The numbers below k whose bit s has, rising. -/
def upto (s k : Nat) : List Nat := (List.range k).filter fun i => s.testBit i

theorem upto_zero (s : Nat) : upto s 0 = [] := rfl
theorem upto_hit {s k : Nat} (h : s.testBit k = true) : upto s (k + 1) = upto s k ++ [k] := by
  simp [upto, List.range_succ, h]
theorem upto_miss {s k : Nat} (h : s.testBit k = false) : upto s (k + 1) = upto s k := by
  simp [upto, List.range_succ, h]
theorem upto_length (s k : Nat) : (upto s k).length ≤ k := by
  have := List.length_filter_le (fun i => s.testBit i) (List.range k)
  simpa [upto] using this
theorem shr_zero_testBit {s k i : Nat} (h : s >>> k = 0) (hi : k ≤ i) : s.testBit i = false := by
  have : (s >>> k).testBit (i - k) = false := by rw [h]; simp
  rw [Nat.testBit_shiftRight] at this
  rwa [show k + (i - k) = i by omega] at this
theorem upto_more {s k : Nat} (h : s >>> k = 0) (d : Nat) : upto s (k + d) = upto s k := by
  induction d with
  | zero => rfl
  | succ d ih => rw [← Nat.add_assoc, upto_miss (shr_zero_testBit h (by omega)), ih]
theorem upto_all {s k : Nat} (h : s >>> k = 0) (hk : k ≤ 64) : upto s k = upto s 64 := by
  rw [show 64 = k + (64 - k) by omega, upto_more h]
theorem shr_lt {s k : Nat} (hs : s < 18446744073709551616) (h : s >>> k ≠ 0) : k < 64 := by
  apply Decidable.byContradiction
  intro hk
  apply h
  rw [Nat.shiftRight_eq_div_pow]
  apply Nat.div_eq_of_lt
  calc s < 2 ^ 64 := hs
    _ ≤ 2 ^ k := Nat.pow_le_pow_right (by omega) (by omega)
theorem upto_prefix (s k : Nat) (hk : k ≤ 64) : upto s k <+: upto s 64 := by
  have : ∀ d, upto s k <+: upto s (k + d) := by
    intro d
    induction d with
    | zero => exact List.prefix_refl _
    | succ d ih =>
      refine ih.trans ?_
      rw [← Nat.add_assoc]
      cases h : s.testBit (k + d)
      · rw [upto_miss h]; exact List.prefix_refl _
      · rw [upto_hit h]; exact List.prefix_append _ _
  have := this (64 - k)
  rwa [show k + (64 - k) = 64 by omega] at this
theorem shr_one (s k : Nat) : s >>> k >>> 1 = s >>> (k + 1) := by rw [← Nat.shiftRight_add]
theorem testBit_shr (s k : Nat) : s.testBit k = decide (s >>> k % 2 = 1) := by
  rw [Nat.testBit_eq_decide_div_mod_eq, Nat.shiftRight_eq_div_pow]

end Go.Proofs.Ytochckefnjobhaa
