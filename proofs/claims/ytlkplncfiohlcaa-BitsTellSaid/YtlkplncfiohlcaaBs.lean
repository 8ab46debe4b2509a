/- The first number of a set, and the rest without it. -/
import Derived.Test.YtlkplncfiohlcaaBp
import Derived.Test.YtlkplncfiohlcaaBr
namespace Go.Proofs.Ytlkplncfiohlcaa
open Go Go.RowKit Go.Shelf Go.Lib

theorem below_undrew {w w' : World} (h : Below w.drew.heap.size w.drew w') : Below w.heap.size w w' := ⟨h.os, h.tape, h.output, h.size, h.block⟩

theorem upto_rest {a x : Nat} {r : List Nat} (h : upto a 64 = x :: r) : upto (lessN a (bitN (x : Int))) 64 = r := by
  have hs := upto_sorted a
  rw [h] at hs
  have hx : x < 64 := (mem_upto.1 (by rw [h]; simp : x ∈ upto a 64)).1
  have e : ∀ i, (lessN a (bitN (x : Int))).testBit i = (a.testBit i && decide (i ≠ x)) := fun i => by
    rw [testBit_lessN, testBit_bitN]
    cases a.testBit i
    · rfl
    · simp
      by_cases e : i = x
      · simp [e]; omega
      · simp [e]; omega
  have e2 : upto (lessN a (bitN (x : Int))) 64 = (upto a 64).filter (fun i => decide (i ≠ x)) := by
    unfold upto
    rw [List.filter_filter]
    exact List.filter_congr fun i _ => by rw [e, Bool.and_comm]
  rw [e2, h, List.filter_cons]
  simp
  intro y hy
  have := List.rel_of_pairwise_cons hs hy
  omega

end Go.Proofs.Ytlkplncfiohlcaa
