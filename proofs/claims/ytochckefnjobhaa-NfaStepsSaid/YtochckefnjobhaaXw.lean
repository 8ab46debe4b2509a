/- Sets of bits, and machines of lists that are turned round or put together. -/
import Derived.Test.YtochckefnjobhaaWf
namespace Go.Proofs.Ytochckefnjobhaa
open Go Go.RowKit Go.Lib
open X3 (RX Pl)
set_option linter.unusedVariables false

theorem and_pow (a i : Nat) : a &&& 2 ^ i = if a.testBit i then 2 ^ i else 0 := Nat.eq_of_testBit_eq fun k => by
  rw [Nat.testBit_and, Nat.testBit_two_pow]
  by_cases h : i = k
  · subst h
    cases hb : a.testBit i <;> simp
  · cases hb : a.testBit i <;> simp [h]
theorem has_bit (a i : Nat) (hi : i < 64) : hasN a (i : Int) = a.testBit i := by
  have e : bitN (i : Int) = 2 ^ i := by
    unfold bitN
    rw [if_pos (by omega), Int.toNat_natCast]
  unfold hasN
  rw [e, and_pow]
  cases h : a.testBit i with
  | false => simp
  | true =>
    have := Nat.two_pow_pos i
    simp
theorem sizeL_app : ∀ (l l' : List RX), X3.sizeL (l ++ l') = X3.sizeL l + X3.sizeL l'
  | [], l' => by simp [X3.sizeL]
  | r :: l, l' => by rw [List.cons_append, X3.sizeL, X3.sizeL, sizeL_app l l', Nat.add_assoc]
theorem sizeL_rev : ∀ (l : List RX), X3.sizeL l.reverse = X3.sizeL l
  | [] => rfl
  | r :: l => by rw [List.reverse_cons, sizeL_app, sizeL_rev l, X3.sizeL, X3.sizeL]; simp [X3.sizeL]; omega
theorem twice_bit {l : List RX} {s : List UInt8} {a b i : Nat} (ha : RunR l s a) (hb : RunR l.reverse s b) (hi : i < l.length) (h60 : l.length ≤ 60) : hasN a (i : Int) = hasN b ((l.length : Int) - 1 - (i : Int)) := by
  rw [show (l.length : Int) - 1 - (i : Int) = ((l.length - 1 - i : Nat) : Int) by omega, has_bit a i (by omega), has_bit b _ (by omega), Bool.eq_iff_iff, ha.2, hb.2]
  rw [List.getElem?_reverse (by omega), show l.length - 1 - (l.length - 1 - i) = i by omega]

/-- A row, and where it lies. -/
theorem RowR.ofRowB {B : Nat} {w : World} {v : Value} {l : List RX} (h : RowOf B w v l) : RowR (fun g => B ≤ g ∧ g < w.heap.size) w v l := by
  cases l with
  | nil =>
    obtain ⟨VS, h1, h2⟩ := h
    rcases h2.2 with ⟨rfl, _⟩ | ⟨g, cap, cur, rfl, hB, hg, hc, _⟩
    · exact ⟨.inl ⟨rfl, rfl⟩⟩
    · exact ⟨.inr ⟨g, cap, rfl, ⟨hB, (Array.getElem?_eq_some_iff.1 hg).1⟩, (Array.getElem?_eq_some_iff.1 hg).1, hc, .nil _ _⟩⟩
  | cons r l =>
    obtain ⟨g, cap, rfl, hB, hg, hc, hl⟩ := h.shape (by simp)
    exact ⟨.inr ⟨g, cap, rfl, ⟨hB, hg⟩, hg, hc, hl.monoS fun g hS hl => ⟨hS, hl⟩⟩⟩
end Go.Proofs.Ytochckefnjobhaa
