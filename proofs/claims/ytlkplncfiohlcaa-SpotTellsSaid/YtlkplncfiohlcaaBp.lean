/- What a set has behind one number is put in, or taken out. -/
import Derived.Test.YtlkplncfiohlcaaBo
namespace Go.Proofs.Ytlkplncfiohlcaa

theorem with_out {a : Nat} {n : Int} (h : ¬ (0 ≤ n ∧ n < 64)) : a ||| bitN n = a ∧ lessN a (bitN n) = a := by
  have e : bitN n = 0 := by unfold bitN; rw [if_neg h]
  rw [e]
  exact ⟨by simp, by simp [lessN]⟩
theorem without_with (a : Nat) (n : Int) : lessN (a ||| bitN n) (bitN n) = lessN a (bitN n) := Nat.eq_of_testBit_eq fun i => by
  rw [testBit_lessN, testBit_lessN, Nat.testBit_or]; cases a.testBit i <;> cases (bitN n).testBit i <;> rfl
theorem with_without (a : Nat) (n : Int) : lessN a (bitN n) ||| bitN n = a ||| bitN n := Nat.eq_of_testBit_eq fun i => by
  rw [Nat.testBit_or, testBit_lessN, Nat.testBit_or]; cases a.testBit i <;> cases (bitN n).testBit i <;> rfl
theorem with_with (a : Nat) (n : Int) : a ||| bitN n ||| bitN n = a ||| bitN n := by rw [Nat.or_assoc, Nat.or_self]
theorem has_iff (a : Nat) (n : Int) : hasN a n = true ↔ 0 ≤ n ∧ n < 64 ∧ a.testBit n.toNat = true := by
  unfold hasN; rw [decide_eq_true_eq]; exact and_bitN_ne a n
theorem with_had {a : Nat} {n : Int} (h : hasN a n = true) : a ||| bitN n = a := Nat.eq_of_testBit_eq fun i => by
  obtain ⟨h0, h1, h2⟩ := (has_iff a n).1 h
  rw [Nat.testBit_or, testBit_bitN]
  by_cases e : (i : Int) = n
  · rw [show n.toNat = i by omega] at h2; rw [h2]; rfl
  · simp [e]
theorem without_not {a : Nat} {n : Int} (h0 : 0 ≤ n) (h1 : n < 64) (h : hasN a n = false) : lessN a (bitN n) = a := Nat.eq_of_testBit_eq fun i => by
  rw [testBit_lessN, testBit_bitN]
  by_cases e : (i : Int) = n
  · have h2 : a.testBit i = false := by
      cases ht : a.testBit i
      · rfl
      · have := (has_iff a n).2 ⟨h0, h1, by rw [show n.toNat = i by omega]; exact ht⟩
        rw [this] at h; cases h
    rw [h2]; rfl
  · simp [e]
theorem has_with (a : Nat) (n : Int) : hasN (a ||| bitN n) n = decide (0 ≤ n ∧ n < 64) := by
  rw [Bool.eq_iff_iff, has_iff, decide_eq_true_eq]
  constructor
  · exact fun h => ⟨h.1, h.2.1⟩
  · rintro ⟨h0, h1⟩
    refine ⟨h0, h1, ?_⟩
    rw [Nat.testBit_or, testBit_bitN]; simp; right; omega
theorem has_without (a : Nat) (n : Int) : hasN (lessN a (bitN n)) n = false := by
  cases h : hasN (lessN a (bitN n)) n
  · rfl
  · obtain ⟨h0, h1, h2⟩ := (has_iff _ n).1 h
    rw [testBit_lessN, testBit_bitN] at h2
    simp at h2; omega
theorem filter_one : ∀ k, k < 64 → (List.range 64).filter (fun i => decide (i = k)) = [k] := by decide
theorem count_one {n : Int} (h0 : 0 ≤ n) (h1 : n < 64) : (upto (bitN n) 64) = [n.toNat] := by
  obtain ⟨k, rfl⟩ : ∃ k : Nat, n = k := ⟨n.toNat, by omega⟩
  have hk : k < 64 := by omega
  have e : ∀ i, (bitN (k : Int)).testBit i = decide (i = k) := fun i => by
    rw [testBit_bitN]; rw [Bool.eq_iff_iff]; simp; omega
  unfold upto
  simp only [e]
  exact filter_one k hk
theorem count_more {a : Nat} {n : Int} (h0 : 0 ≤ n) (h1 : n < 64) : (upto (a ||| bitN n) 64).length = (upto (lessN a (bitN n)) 64).length + 1 := by
  have h := count_union (lessN a (bitN n)) (bitN n)
  rw [with_without, law_none, count_one h0 h1] at h
  have e : upto 0 64 = [] := by decide
  rw [e] at h
  simpa using h

end Go.Proofs.Ytlkplncfiohlcaa
