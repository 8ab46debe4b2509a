/- The numbers of a set, and sets of numbers; two lists of regexes, one behind the other. -/
import Derived.Test.YtochckefnjobhaaXw
import Derived.Test.YtochckefnjobhaaBm
namespace Go.Proofs.Ytochckefnjobhaa
open Go Go.RowKit Go.Lib
open X3 (RX Pl)
set_option linter.unusedVariables false

theorem mem_upto {s i : Nat} : i ∈ upto s 64 ↔ i < 64 ∧ s.testBit i = true := by simp [upto]
theorem bitN_nat {n : Nat} (h : n < 64) : bitN (n : Int) = 2 ^ n := by
  unfold bitN
  rw [if_pos (by omega), Int.toNat_natCast]
theorem ofZ_fold : ∀ (L : List Nat) (s i : Nat), (∀ n ∈ L, n < 64) → ((L.map fun (n : Nat) => (n : Int)).foldl (fun s n => s ||| bitN n) s).testBit i = (s.testBit i || decide (i ∈ L))
  | [], s, i, _ => by simp
  | n :: L, s, i, h => by
    rw [List.map_cons, List.foldl_cons, ofZ_fold L _ i fun m hm => h m (by simp [hm]), Nat.testBit_or, bitN_nat (h n (by simp)), Nat.testBit_two_pow, Bool.or_assoc]
    congr 1
    rw [Bool.eq_iff_iff]
    simp only [Bool.or_eq_true, decide_eq_true_eq, List.mem_cons]
    exact ⟨fun h => h.imp Eq.symm id, fun h => h.imp Eq.symm id⟩
theorem ofZ_test (L : List Nat) (i : Nat) (h : ∀ n ∈ L, n < 64) : (ofZ (L.map fun (n : Nat) => (n : Int))).testBit i = decide (i ∈ L) := by
  unfold ofZ
  rw [ofZ_fold L 0 i h]
  simp

/-- What two lists, one behind the other, are matched by. -/
def apartL (a b n : Nat) : List Nat := upto a 64 ++ (upto b 64).map (· + n)
theorem run_small {l : List RX} {s : List UInt8} {a : Nat} (h : RunR l s a) {i : Nat} (hi : i ∈ upto a 64) : i < l.length := by
  obtain ⟨r, hr, _⟩ := (h.2 i).1 (mem_upto.1 hi).2
  exact (List.getElem?_eq_some_iff.1 hr).1
theorem apart_bits {X Y : List RX} {s : List UInt8} {a b c : Nat} (ha : RunR X s a) (hb : RunR Y s b) (hc : RunR (X ++ Y) s c) (h1 : X.length ≤ 8) (h2 : Y.length ≤ 8) : c = ofZ ((apartL a b X.length).map fun (n : Nat) => (n : Int)) := by
  refine Nat.eq_of_testBit_eq fun i => ?_
  have hall : ∀ n ∈ apartL a b X.length, n < 64 := by
    intro n hn
    rcases List.mem_append.1 hn with h | h
    · exact (mem_upto.1 h).1
    · obtain ⟨j, hj, rfl⟩ := List.mem_map.1 h
      have := run_small hb hj
      omega
  rw [ofZ_test _ _ hall, Bool.eq_iff_iff, hc.2, decide_eq_true_eq]
  constructor
  · rintro ⟨r, hr, hm⟩
    rw [List.getElem?_append] at hr
    split at hr
    · exact List.mem_append_left _ (mem_upto.2 ⟨by omega, (ha.2 i).2 ⟨r, hr, hm⟩⟩)
    · have := (List.getElem?_eq_some_iff.1 hr).1
      exact List.mem_append_right _ (List.mem_map.2 ⟨i - X.length, mem_upto.2 ⟨by omega, (hb.2 _).2 ⟨r, hr, hm⟩⟩, by omega⟩)
  · intro h
    rcases List.mem_append.1 h with h | h
    · obtain ⟨r, hr, hm⟩ := (ha.2 i).1 (mem_upto.1 h).2
      exact ⟨r, by rw [List.getElem?_append_left (List.getElem?_eq_some_iff.1 hr).1]; exact hr, hm⟩
    · obtain ⟨j, hj, rfl⟩ := List.mem_map.1 h
      obtain ⟨r, hr, hm⟩ := (hb.2 j).1 (mem_upto.1 hj).2
      exact ⟨r, by rw [List.getElem?_append_right (by omega)]; simpa using hr, hm⟩
end Go.Proofs.Ytochckefnjobhaa
