/- Plain mathematics: from a place to its spot and back. -/
import Derived.Test.YtlkplncfiohlcaaSe
namespace Go.Proofs.Ytlkplncfiohlcaa

theorem no10 : ∀ (m : List UInt8), (∀ b ∈ m, b ≠ 10) → lineN m = 0 ∧ colN m = m.length := by
  intro m
  refine snoc_ind (P := fun m => (∀ b ∈ m, b ≠ 10) → lineN m = 0 ∧ colN m = m.length) (fun _ => ⟨rfl, rfl⟩) (fun m b ih h => ?_) m
  have hb : b ≠ 10 := h b (by simp)
  obtain ⟨h1, h2⟩ := ih fun c hc => h c (by simp [hc])
  rw [lineN_snoc, colN_snoc, if_neg hb, if_neg hb]
  simp [h1, h2]
theorem line_cons (b : UInt8) (m : List UInt8) : lineN (b :: m) = if b = 10 then lineN m + 1 else lineN m := by
  unfold lineN
  by_cases h : b = 10
  · subst h; simp
  · simp [h]
theorem col_cons (b : UInt8) (m : List UInt8) : colN (b :: m) = if lineN m = 0 then (if b = 10 then 0 else 1) + colN m else colN m := by
  have h := colN_append [b] m
  have h1 : colN [b] = if b = 10 then 0 else 1 := by
    have := colN_snoc [] b
    simpa [colN_nil] using this
  rw [h1] at h
  exact h

/-- Where a line begins, there are as many bytes 10 ahead, and none since the last. -/
theorem beg_spot : ∀ (l : List UInt8) (n p : Nat), begN l n = some p → lineN (l.take p) = n ∧ colN (l.take p) = 0
  | [], 0, p, h => by simp [begN] at h; subst h; exact ⟨rfl, rfl⟩
  | _ :: _, 0, p, h => by simp [begN] at h; subst h; exact ⟨rfl, rfl⟩
  | [], n + 1, p, h => by simp [begN] at h
  | b :: l, n + 1, p, h => by
    simp only [begN] at h
    by_cases hb : b = 10
    · rw [if_pos hb] at h
      cases e : begN l n with
      | none => rw [e] at h; cases h
      | some q =>
        rw [e] at h
        simp only [Option.map_some, Option.some.injEq] at h
        subst h
        obtain ⟨h1, h2⟩ := beg_spot l n q e
        rw [List.take_succ_cons, line_cons, col_cons, if_pos hb, if_pos hb, h1, h2]
        refine ⟨rfl, ?_⟩
        split <;> rfl
    · rw [if_neg hb] at h
      cases e : begN l (n + 1) with
      | none => rw [e] at h; cases h
      | some q =>
        rw [e] at h
        simp only [Option.map_some, Option.some.injEq] at h
        subst h
        obtain ⟨h1, h2⟩ := beg_spot l (n + 1) q e
        rw [List.take_succ_cons, line_cons, col_cons, if_neg hb, h1, h2, if_neg (by omega)]
        exact ⟨rfl, rfl⟩

theorem up_take (l : List UInt8) (c : Nat) (h : c ≤ (upN l).length) : ∀ b ∈ l.take c, b ≠ 10 := by
  intro b hb
  have hp : upN l <+: l := List.takeWhile_prefix _
  have e : l.take c = (upN l).take c := by
    obtain ⟨r, hr⟩ := hp
    conv => lhs; rw [← hr]
    rw [List.take_append_of_le_length h]
  rw [e] at hb
  have := List.mem_of_mem_take hb
  have h2 := List.all_takeWhile (p := fun b : UInt8 => b != 10) (l := l)
  rw [List.all_eq_true] at h2
  simpa using h2 b this

/-- The spot of a place that lies in a line. -/
theorem spot_in (l : List UInt8) (n p c : Nat) (h : begN l n = some p) (hc : c ≤ (upN (l.drop p)).length) : lineN (l.take (p + c)) = n ∧ colN (l.take (p + c)) = c := by
  obtain ⟨h1, h2⟩ := beg_spot l n p h
  have hp := begN_le l n p h
  obtain ⟨h3, h4⟩ := no10 _ (up_take (l.drop p) c hc)
  have hlen : ((l.drop p).take c).length = c := by
    rw [List.length_take, Nat.min_eq_left]
    exact Nat.le_trans hc ((List.takeWhile_prefix (fun b : UInt8 => b != 10) (l := l.drop p)).length_le)
  rw [List.take_add, lineN_append, colN_append, h1, h2, h3, h4, hlen]
  simp

/-- The place of a spot is the place itself. -/
theorem place_in : ∀ (l : List UInt8) (k : Nat), k ≤ l.length → ∃ p, begN l (lineN (l.take k)) = some p ∧ p + colN (l.take k) = k ∧ colN (l.take k) ≤ (upN (l.drop p)).length
  | [], k, h => by
    obtain rfl : k = 0 := by simpa using h
    exact ⟨0, rfl, rfl, Nat.zero_le _⟩
  | b :: l, 0, _ => ⟨0, rfl, rfl, Nat.zero_le _⟩
  | b :: l, k + 1, h => by
    obtain ⟨p, h1, h2, h3⟩ := place_in l k (by simpa using h)
    rw [List.take_succ_cons, line_cons, col_cons]
    by_cases hb : b = 10
    · refine ⟨p + 1, ?_, ?_, ?_⟩
      · rw [if_pos hb, begN, if_pos hb, h1]; rfl
      · rw [if_pos hb]; split <;> omega
      · rw [if_pos hb, List.drop_succ_cons]; split <;> omega
    · rw [if_neg hb]
      by_cases h0 : lineN (l.take k) = 0
      · rw [if_pos h0, h0]
        rw [h0] at h1
        have hp0 : p = 0 := by
          have : begN l 0 = some 0 := by cases l <;> rfl
          rw [this] at h1
          cases h1; rfl
        subst hp0
        refine ⟨0, rfl, ?_, ?_⟩
        · rw [if_neg hb]; omega
        · rw [if_neg hb, List.drop_zero, upN_cons, if_neg hb, List.length_cons]
          rw [List.drop_zero] at h3
          omega
      · rw [if_neg h0]
        obtain ⟨n, hn⟩ : ∃ n, lineN (l.take k) = n + 1 := ⟨lineN (l.take k) - 1, by omega⟩
        rw [hn] at h1 ⊢
        refine ⟨p + 1, ?_, by omega, by rw [List.drop_succ_cons]; exact h3⟩
        rw [begN, if_neg hb, h1]; rfl

theorem lineN_take_le (l : List UInt8) (k : Nat) : lineN (l.take k) ≤ lineN l := by
  have h := lineN_append (l.take k) (l.drop k)
  rw [List.take_append_drop] at h
  omega

theorem begI_some {l : List UInt8} {n p : Nat} (h : begN l n = some p) : begI l (n : Int) = p := by
  unfold begI
  rw [if_neg (by omega), Int.toNat_natCast, h]
theorem lineL_some {l : List UInt8} {n p : Nat} (h : begN l n = some p) : lineL l (n : Int) = upN (l.drop p) := by
  unfold lineL
  rw [begI_some h, if_neg (by omega), Int.toNat_natCast]

/-- There and back. -/
theorem at_spot (l : List UInt8) (k : Nat) (h : k ≤ l.length) : atI l (colN (l.take k) : Nat) (lineN (l.take k) : Nat) = k ∧ colN (l.take k) ≤ (lineL l (lineN (l.take k) : Nat)).length := by
  obtain ⟨p, h1, h2, h3⟩ := place_in l k h
  have := lineN_take_le l k
  refine ⟨?_, by rw [lineL_some h1]; exact h3⟩
  unfold atI
  rw [if_pos ⟨by omega, by omega⟩, lineL_some h1, if_pos ⟨by omega, by omega⟩, begI_some h1]
  omega

/-- Each line begins somewhere. -/
theorem begN_some : ∀ (l : List UInt8) (n : Nat), n ≤ lineN l → ∃ p, begN l n = some p
  | l, 0, _ => ⟨0, by cases l <;> rfl⟩
  | [], n + 1, h => by simp [lineN] at h
  | b :: l, n + 1, h => by
    rw [line_cons] at h
    by_cases hb : b = 10
    · rw [if_pos hb] at h
      obtain ⟨p, hp⟩ := begN_some l n (by omega)
      exact ⟨p + 1, by rw [begN, if_pos hb, hp]; rfl⟩
    · rw [if_neg hb] at h
      obtain ⟨p, hp⟩ := begN_some l (n + 1) (by omega)
      exact ⟨p + 1, by rw [begN, if_neg hb, hp]; rfl⟩

/-- A spot in a line is a place, and that place's spot is it. -/
theorem spot_back (l : List UInt8) (r c : Nat) (hr : r ≤ lineN l) (hc : c ≤ (lineL l (r : Int)).length) : ∃ k, k ≤ l.length ∧ begI l (r : Int) + c = (k : Int) ∧ lineN (l.take k) = r ∧ colN (l.take k) = c := by
  obtain ⟨p, hp⟩ := begN_some l r hr
  rw [lineL_some hp] at hc
  have := (List.takeWhile_prefix (fun b : UInt8 => b != 10) (l := l.drop p)).length_le
  have hle := begN_le l r p hp
  rw [List.length_drop] at this
  refine ⟨p + c, ?_, by rw [begI_some hp]; omega, spot_in l r p c hp hc⟩
  unfold upN at hc
  omega

end Go.Proofs.Ytlkplncfiohlcaa
