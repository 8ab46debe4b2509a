/- Plain mathematics: a text is its lines, with a byte 10 between. -/
import Derived.Test.YtlkplncfiohlcaaSe
namespace Go.Proofs.Ytlkplncfiohlcaa

/-- All lines. -/
def splitN : List UInt8 → List (List UInt8)
  | [] => [[]]
  | b :: l => if b = 10 then [] :: splitN l else match splitN l with
    | [] => [[b]]
    | h :: r => (b :: h) :: r
/-- Put together, a byte 10 between. -/
def joinN : List (List UInt8) → List UInt8
  | [] => []
  | [x] => x
  | x :: y :: r => x ++ 10 :: joinN (y :: r)

theorem splitN_ne (l : List UInt8) : ∃ h r, splitN l = h :: r := by
  cases l with
  | nil => exact ⟨_, _, rfl⟩
  | cons b l =>
    unfold splitN
    split
    · exact ⟨_, _, rfl⟩
    · split
      · exact ⟨_, _, rfl⟩
      · exact ⟨_, _, rfl⟩
theorem splitN_length (l : List UInt8) : (splitN l).length = lineN l + 1 := by
  induction l with
  | nil => rfl
  | cons b l ih =>
    obtain ⟨h, r, e⟩ := splitN_ne l
    rw [e] at ih
    by_cases hb : b = 10
    · subst hb
      have : lineN (10 :: l) = lineN l + 1 := by simp [lineN]
      rw [this, splitN, if_pos rfl, List.length_cons, e, ih]
    · have : lineN (b :: l) = lineN l := by simp [lineN, hb]
      rw [this, splitN, if_neg hb, e]
      exact ih
theorem joinN_split (l : List UInt8) : joinN (splitN l) = l := by
  induction l with
  | nil => rfl
  | cons b l ih =>
    obtain ⟨h, r, e⟩ := splitN_ne l
    by_cases hb : b = 10
    · subst hb
      rw [splitN, if_pos rfl, e, joinN, ← e, ih]
      rfl
    · rw [splitN, if_neg hb, e]
      rw [e] at ih
      cases r with
      | nil => simp only [joinN] at ih ⊢; rw [ih]
      | cons y r => simp only [joinN] at ih ⊢; rw [List.cons_append, ih]
theorem joinN_snoc (xs : List (List UInt8)) (y : List UInt8) : joinN (xs ++ [y]) = if xs = [] then y else joinN xs ++ 10 :: y := by
  induction xs with
  | nil => rfl
  | cons x xs ih =>
    rw [if_neg (by simp)]
    cases xs with
    | nil => rfl
    | cons z r =>
      rw [if_neg (by simp)] at ih
      simp only [List.cons_append, joinN] at ih ⊢
      rw [ih]
      simp

theorem line_split : ∀ (l : List UInt8) (k : Nat), (begN l k).map (fun p => upN (l.drop p)) = (splitN l)[k]?
  | [], 0 => rfl
  | [], k + 1 => rfl
  | b :: l, 0 => by
    have ih := line_split l 0
    obtain ⟨h, r, e⟩ := splitN_ne l
    have b0 : begN l 0 = some 0 := by cases l <;> rfl
    rw [b0, e] at ih
    simp only [Option.map_some, List.drop_zero, List.getElem?_cons_zero, Option.some.injEq] at ih
    rw [begN, splitN]
    simp only [Option.map_some, List.drop_zero]
    rw [upN_cons]
    by_cases hb : b = 10
    · simp [hb]
    · simp [hb, e, ih]
  | b :: l, k + 1 => by
    obtain ⟨h, r, e⟩ := splitN_ne l
    rw [begN, splitN]
    by_cases hb : b = 10
    · rw [if_pos hb, if_pos hb, List.getElem?_cons_succ, ← line_split l k, Option.map_map]
      rfl
    · rw [if_neg hb, if_neg hb, e]
      have ih := line_split l (k + 1)
      rw [e, List.getElem?_cons_succ] at ih
      rw [List.getElem?_cons_succ, ← ih, Option.map_map]
      rfl

theorem lineL_split (l : List UInt8) (k : Nat) : lineL l (k : Int) = (splitN l).getD k [] := by
  have h := line_split l k
  have hb : begI l (k : Int) = match begN l k with | some p => (p : Int) | none => -1 := by
    unfold begI
    rw [if_neg (by omega), Int.toNat_natCast]
    cases begN l k <;> rfl
  unfold lineL
  rw [hb, List.getD_eq_getElem?_getD, ← h]
  cases begN l k with
  | none => rfl
  | some p =>
    simp only [Int.toNat_natCast, Option.map_some, Option.getD_some]
    rw [if_neg (by omega)]
theorem lineL_none (l : List UInt8) (n : Int) (h : n < 0) : lineL l n = [] := by
  unfold lineL
  rw [begI_neg l h]
  rfl
theorem upN_no (l : List UInt8) : ∀ b ∈ upN l, b ≠ 10 := by
  intro b hb
  have := List.all_takeWhile (p := fun b : UInt8 => b != 10) (l := l)
  rw [List.all_eq_true] at this
  simpa using this b hb
theorem lineL_no (l : List UInt8) (n : Int) : ∀ b ∈ lineL l n, b ≠ 10 := by
  unfold lineL
  split
  · simp
  · exact upN_no _

end Go.Proofs.Ytlkplncfiohlcaa
