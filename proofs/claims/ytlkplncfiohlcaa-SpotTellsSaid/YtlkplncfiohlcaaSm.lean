/- Plain mathematics of lines and columns. -/
import Derived.Lib.LastIndexByte
import Derived.Lib.Bytealg
namespace Go.Proofs.Ytlkplncfiohlcaa

/-- How many bytes stand behind the last byte 10. -/
def colN (l : List UInt8) : Nat := (l.reverse.takeWhile (fun b => b != 10)).length
/-- How many bytes 10 there are. -/
def lineN (l : List UInt8) : Nat := l.count 10

theorem snoc_ind {α : Type} {P : List α → Prop} (h0 : P []) (h1 : ∀ l a, P l → P (l ++ [a])) (l : List α) : P l := by
  have : ∀ r : List α, P r.reverse := by
    intro r
    induction r with
    | nil => exact h0
    | cons a r ih => rw [List.reverse_cons]; exact h1 _ _ ih
  have := this l.reverse
  rwa [List.reverse_reverse] at this

theorem colN_nil : colN [] = 0 := rfl
theorem lineN_nil : lineN [] = 0 := rfl
theorem colN_snoc (l : List UInt8) (b : UInt8) : colN (l ++ [b]) = if b = 10 then 0 else colN l + 1 := by
  unfold colN
  rw [List.reverse_append]
  simp only [List.reverse_cons, List.reverse_nil, List.nil_append, List.cons_append, List.takeWhile_cons]
  by_cases h : b = 10
  · simp [h]
  · simp [h]
theorem lineN_snoc (l : List UInt8) (b : UInt8) : lineN (l ++ [b]) = if b = 10 then lineN l + 1 else lineN l := by
  unfold lineN
  rw [List.count_append]
  by_cases h : b = 10
  · simp [h]
  · simp [h]
theorem lineN_append (l m : List UInt8) : lineN (l ++ m) = lineN l + lineN m := by simp [lineN]
theorem colN_append (l m : List UInt8) : colN (l ++ m) = if lineN m = 0 then colN l + colN m else colN m := by
  refine snoc_ind (P := fun m => colN (l ++ m) = if lineN m = 0 then colN l + colN m else colN m) (by simp [colN_nil, lineN_nil]) (fun m b ih => ?_) m
  rw [← List.append_assoc, colN_snoc, lineN_snoc, colN_snoc, ih]
  by_cases h : b = 10
  · simp [h]
  · simp only [h, if_false]
    split <;> omega
theorem colN_le (l : List UInt8) : colN l ≤ l.length := by
  unfold colN
  have := (List.takeWhile_prefix (fun b : UInt8 => b != 10) (l := l.reverse)).length_le
  simpa using this
theorem lineN_le (l : List UInt8) : lineN l ≤ l.length := List.count_le_length

theorem lastIdx_col (s : ByteArray) : ∀ k, k ≤ s.size → Go.Lib.lastIdx s 10 k + 1 = (k : Int) - colN (s.data.toList.take k)
  | 0, _ => by simp [Go.Lib.lastIdx, colN_nil]
  | k + 1, h => by
    have ih := lastIdx_col s k (by omega)
    have hk : k < s.data.toList.length := by have : s.data.toList.length = s.size := rfl; omega
    have e : s.data.toList.take (k + 1) = s.data.toList.take k ++ [s.data.toList[k]] := by rw [List.take_succ_eq_append_getElem hk]
    have hb : s.data[k]! = s.data.toList[k] := by
      rw [getElem!_pos s.data k (by simpa using hk)]
      simp
    rw [e, colN_snoc]
    unfold Go.Lib.lastIdx
    rw [hb]
    by_cases h10 : s.data.toList[k] = 10
    · simp [h10]
    · have : ¬ ((s.data.toList[k].toNat : Int) = 10) := fun h => h10 (by
        apply UInt8.toNat_inj.1
        show _ = 10
        omega)
      simp only [this, h10, if_false]
      omega

end Go.Proofs.Ytlkplncfiohlcaa
