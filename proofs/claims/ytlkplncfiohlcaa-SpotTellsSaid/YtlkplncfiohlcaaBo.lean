/- How many numbers two sets have together, and small lemmas for the laws of bits. -/
import Derived.OpenShut
import Derived.Test.YtlkplncfiohlcaaBw
namespace Go.Proofs.Ytlkplncfiohlcaa
open Go Go.RowKit Go.Shelf Go.Lib

theorem nat_of_u64 {a : Int} (h : (Lit.int .u64 a).wf = true) : ∃ A : Nat, a = (A : Int) ∧ A < 18446744073709551616 := by
  have := bounds_u64 h
  exact ⟨a.toNat, by omega, by omega⟩

theorem count_union (a b : Nat) : (upto (a ||| b) 64).length + (upto (a &&& b) 64).length = (upto a 64).length + (upto b 64).length := by
  unfold upto
  generalize List.range 64 = l
  induction l with
  | nil => rfl
  | cons x l ih =>
    simp only [List.filter_cons, Nat.testBit_or, Nat.testBit_and] at ih ⊢
    cases a.testBit x <;> cases b.testBit x <;> simp <;> omega
theorem meet_lt {a b : Nat} (ha : a < 18446744073709551616) : a &&& b < 18446744073709551616 := and_lt ha b

/-- Sets are one where they have the same numbers: for laws, by bits. -/
theorem law_or_assoc (a b c : Nat) : a ||| b ||| c = a ||| (b ||| c) := Nat.or_assoc a b c
theorem law_and_assoc (a b c : Nat) : a &&& b &&& c = a &&& (b &&& c) := Nat.and_assoc a b c
theorem law_back (a b : Nat) : lessN a b ||| (a &&& b) = a := Nat.eq_of_testBit_eq fun i => by
  rw [Nat.testBit_or, testBit_lessN, Nat.testBit_and]; cases a.testBit i <;> cases b.testBit i <;> rfl
theorem law_none (a b : Nat) : lessN a b &&& b = 0 := Nat.eq_of_testBit_eq fun i => by
  rw [Nat.testBit_and, testBit_lessN, Nat.zero_testBit]; cases a.testBit i <;> cases b.testBit i <;> rfl
theorem law_dist (a b c : Nat) : (a ||| b) &&& c = (a &&& c) ||| (b &&& c) := Nat.eq_of_testBit_eq fun i => by
  rw [Nat.testBit_and, Nat.testBit_or, Nat.testBit_or, Nat.testBit_and, Nat.testBit_and]; cases a.testBit i <;> cases b.testBit i <;> cases c.testBit i <;> rfl
theorem in_iff {a b : Nat} (ha : a < 18446744073709551616) : inN a b = true ↔ ∀ i, i < 64 → a.testBit i = true → b.testBit i = true := by
  unfold inN; rw [decide_eq_true_eq]; exact lessN_zero_iff ha
theorem law_meet_in {a b : Nat} (ha : a < 18446744073709551616) : inN (a &&& b) a = true := (in_iff (and_lt ha b)).2 fun i _ h => by
  rw [Nat.testBit_and] at h; simp at h; exact h.1
theorem law_in_union {a b : Nat} (ha : a < 18446744073709551616) : inN a (a ||| b) = true := (in_iff ha).2 fun i _ h => by
  rw [Nat.testBit_or, h]; rfl
theorem law_in_trans {a b c : Nat} (ha : a < 18446744073709551616) (hb : b < 18446744073709551616) (h : inN a b = true) (k : inN b c = true) : inN a c = true :=
  (in_iff ha).2 fun i hi h' => (in_iff hb).1 k i hi ((in_iff ha).1 h i hi h')

end Go.Proofs.Ytlkplncfiohlcaa
