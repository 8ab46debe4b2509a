/- Plain mathematics of where lines begin. -/
import Derived.Test.YtlkplncfiohlcaaSm
namespace Go.Proofs.Ytlkplncfiohlcaa

/-- Where line n begins. -/
def begN : List UInt8 → Nat → Option Nat
  | _, 0 => some 0
  | [], _ + 1 => none
  | b :: l, n + 1 => if b = 10 then (begN l n).map (· + 1) else (begN l (n + 1)).map (· + 1)
/-- What stands up to the first byte 10. -/
def upN (l : List UInt8) : List UInt8 := l.takeWhile (fun b => b != 10)

theorem upN_cons (b : UInt8) (l : List UInt8) : upN (b :: l) = if b = 10 then [] else b :: upN l := by
  unfold upN
  rw [List.takeWhile_cons]
  by_cases h : b = 10 <;> simp [h]

theorem index_cases (l : List UInt8) : (Go.Lib.indexByte l 10 = -1 ∧ upN l = l ∧ lineN l = 0 ∧ ∀ n, begN l (n + 1) = none) ∨
    (∃ i : Nat, Go.Lib.indexByte l 10 = i ∧ i < l.length ∧ upN l = l.take i ∧ ∀ n, begN l (n + 1) = (begN (l.drop (i + 1)) n).map (· + (i + 1))) := by
  induction l with
  | nil => exact .inl ⟨rfl, rfl, rfl, fun n => rfl⟩
  | cons b l ih =>
    by_cases h : b = 10
    · subst h
      refine .inr ⟨0, rfl, by simp, by rw [upN_cons]; simp, fun n => ?_⟩
      simp [begN]
    · have hb : (b == 10) = false := by simpa using h
      rcases ih with ⟨e1, e2, e3, e4⟩ | ⟨i, e1, e2, e3, e4⟩
      · refine .inl ⟨by simp [Go.Lib.indexByte, hb, e1], by rw [upN_cons, if_neg h, e2], ?_, fun n => ?_⟩
        · unfold lineN at e3 ⊢
          rw [List.count_cons, e3, hb]; rfl
        · simp [begN, h, e4]
      · refine .inr ⟨i + 1, ?_, by simp; omega, by rw [upN_cons, if_neg h, e3]; rfl, fun n => ?_⟩
        · simp [Go.Lib.indexByte, hb, e1]
        · simp only [begN, h, if_false, e4]
          rw [Option.map_map]
          congr 1

/-- The same, with -1 where there is none, as the program tells it. -/
def begI (l : List UInt8) (n : Int) : Int := if n < 0 then -1 else match begN l n.toNat with | some p => (p : Int) | none => -1
/-- Told from a place on. -/
def onI (p : Nat) (v : Int) : Int := if v < 0 then -1 else p + v

theorem onI_zero (l : List UInt8) (n : Int) : onI 0 (begI l n) = begI l n := by
  unfold onI
  split
  · rename_i h
    unfold begI at h ⊢
    split
    · rfl
    · split
      · rename_i h2 _ _ e
        rw [if_neg h2, e] at h
        simp only at h
        omega
      · rfl
  · simp
theorem begI_zero (l : List UInt8) : begI l 0 = 0 := by
  have : begN l 0 = some 0 := by cases l <;> rfl
  simp [begI, this]
theorem begI_neg (l : List UInt8) {n : Int} (h : n < 0) : begI l n = -1 := if_pos h
theorem begI_none {l : List UInt8} {n : Int} (hn : 0 < n) (h : ∀ n, begN l (n + 1) = none) : begI l n = -1 := by
  unfold begI
  rw [if_neg (by omega), show n.toNat = (n.toNat - 1) + 1 by omega, h]
theorem begI_next {l : List UInt8} {n : Int} {i p : Nat} (hn : 0 < n) (h : ∀ n, begN l (n + 1) = (begN (l.drop (i + 1)) n).map (· + (i + 1))) : onI p (begI l n) = onI (p + i + 1) (begI (l.drop (i + 1)) (n - 1)) := by
  unfold begI
  rw [if_neg (by omega), if_neg (by omega), show n.toNat = (n - 1).toNat + 1 by omega, h]
  cases begN (l.drop (i + 1)) (n - 1).toNat with
  | none => rfl
  | some q => simp [onI]; split <;> split <;> omega

end Go.Proofs.Ytlkplncfiohlcaa
