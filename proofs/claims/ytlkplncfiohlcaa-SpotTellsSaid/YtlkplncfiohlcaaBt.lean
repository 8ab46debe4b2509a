/- The numbers of a set: each is had, each is from 0 to 63, and they rise. -/
import Derived.Test.YtlkplncfiohlcaaBp
import Derived.Test.YtlkplncfiohlcaaBr
namespace Go.Proofs.Ytlkplncfiohlcaa
open Go Go.RowKit Go.Shelf Go.Lib

theorem ints_getD {l : List Nat} {k : Nat} (h : k < l.length) : (ints l).getD k 0 = (l[k] : Int) := by simp [ints, h]

theorem ints_ne {l : List Nat} {k : Nat} (h : k < l.length) : ints l ≠ [] := fun e => by
  have e2 := congrArg List.length e
  rw [show (ints l).length = l.length by simp [ints]] at e2
  simp at e2
  rw [e2] at h
  simp at h

theorem all_round {a : Nat} (ha : a < 18446744073709551616) : ∀ k, k < (upto a 64).length →
    (0 ≤ (ints (upto a 64)).getD k 0 ∧ (ints (upto a 64)).getD k 0 ≤ 63) ∧
    (∀ w, Calls Try.prog 20 #[u64 a, .int .i64 ((ints (upto a 64)).getD k 0)] w fun e w' => e = .returned (.bool true) ∧ w' = w) ∧
    (0 < k → (ints (upto a 64)).getD (k - 1) 0 < (ints (upto a 64)).getD k 0) := by
  intro k hk
  have hm := mem_upto.1 (List.getElem_mem hk)
  rw [ints_getD hk]
  refine ⟨by omega, fun w => ?_, fun h0 => ?_⟩
  · have := Has_any a ((upto a 64)[k] : Int) ha w
    rw [show hasN a ((upto a 64)[k] : Int) = true from (has_iff _ _).2 ⟨by omega, by omega, by simpa using hm.2⟩] at this
    exact this.mono fun _ _ ⟨h1, h2⟩ => ⟨h1, h2.symm⟩
  · rw [ints_getD (by omega)]
    have := List.pairwise_iff_getElem.1 (upto_sorted a) (k - 1) k (by omega) hk (by omega)
    omega

end Go.Proofs.Ytlkplncfiohlcaa
