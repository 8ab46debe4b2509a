/- Whole numbers as floating-point numbers: they are exact, and are ordered and added as they are. -/
import Derived.WalkLawsBesides
namespace Go.Proofs.Ytlkplncfiohlcaa
open Go Ieee

/-- A datum that is a whole number. -/
def Whole (z : Int) (d : Datum) : Prop := ∃ (neg : Bool) (mag k : Nat), d = .number neg mag (-(k : Int)) ∧ mag = z.natAbs * 2 ^ k ∧ (mag ≠ 0 → neg = decide (z < 0))

theorem signed_eq {z : Int} {neg : Bool} {mag k : Nat} (hm : mag = z.natAbs * 2 ^ k) (hn : mag ≠ 0 → neg = decide (z < 0)) (up : Nat) : signed neg mag up = z * 2 ^ (k + up) := by
  by_cases h0 : z = 0
  · subst h0
    simp at hm
    subst hm
    cases neg <;> simp [signed]
  · have hp : 0 < 2 ^ k := Nat.two_pow_pos k
    have hm0 : mag ≠ 0 := by rw [hm]; exact Nat.ne_of_gt (Nat.mul_pos (by omega) hp)
    rw [hn hm0, hm]
    unfold signed
    rw [Nat.shiftLeft_eq, Nat.mul_assoc, ← Nat.pow_add]
    by_cases hz : z < 0
    · simp only [hz, decide_true, if_true]
      rw [show z = -(z.natAbs : Int) by omega]
      simp [Int.neg_mul]
    · simp only [hz, decide_false, Bool.false_eq_true, if_false]
      rw [show z = (z.natAbs : Int) by omega]
      simp

theorem order_whole {a b : Int} {x y : Datum} (hx : Whole a x) (hy : Whole b y) : x.order y = some (compare a b) := by
  obtain ⟨s, m, i, rfl, hm, hs⟩ := hx
  obtain ⟨t, n, j, rfl, hn, ht⟩ := hy
  simp only [Datum.order, Option.some.injEq]
  rw [signed_eq hm hs, signed_eq hn ht]
  have e1 : i + (-(i : Int) - min (-(i : Int)) (-(j : Int))).toNat = max i j := by omega
  have e2 : j + (-(j : Int) - min (-(i : Int)) (-(j : Int))).toNat = max i j := by omega
  rw [e1, e2]
  have hp : (0 : Int) < 2 ^ max i j := Int.pow_pos (by omega)
  rcases Int.lt_trichotomy a b with h | h | h
  · rw [Int.compare_eq_lt.2 h, Int.compare_eq_lt.2 (Int.mul_lt_mul_of_pos_right h hp)]
  · subst h; rw [Int.compare_eq_eq.2 rfl, Int.compare_eq_eq.2 rfl]
  · rw [Int.compare_eq_gt.2 h, Int.compare_eq_gt.2 (Int.mul_lt_mul_of_pos_right h hp)]

theorem log2_mul_pow (n k : Nat) (hn : 0 < n) : (n * 2 ^ k).log2 = n.log2 + k := by
  have h1 := Nat.log2_self_le (n := n) (by omega)
  have h2 := @Nat.lt_log2_self n
  refine (Nat.log2_eq_iff (by have := Nat.two_pow_pos k; exact Nat.ne_of_gt (Nat.mul_pos hn this))).2 ⟨?_, ?_⟩
  · rw [Nat.pow_add]; exact Nat.mul_le_mul_right _ h1
  · rw [show n.log2 + k + 1 = (n.log2 + 1) + k by omega, Nat.pow_add]; exact Nat.mul_lt_mul_of_pos_right h2 (Nat.two_pow_pos k)

theorem cut_exact (way : Toward) (neg : Bool) (m d : Nat) : way.cut neg (m * 2 ^ d) d = m := by
  by_cases h0 : m = 0
  · subst h0; cases way <;> simp [Toward.cut]
  · have hd : d ≤ (m * 2 ^ d).log2 + 2 := by rw [log2_mul_pow m d (by omega)]; omega
    have hp : 0 < 2 ^ d := Nat.two_pow_pos d
    cases way <;> simp [Toward.cut, Nat.min_eq_left hd, Nat.shiftLeft_eq, Nat.mul_mod_left, Nat.mul_div_cancel _ hp]

/-- The word of a whole number below 2^53. -/
theorem nearest_whole (neg : Bool) (n k : Nat) (h0 : 0 < n) (h : n < 2 ^ 53) :
    double.nearest neg (n * 2 ^ k) (-(k : Int)) = double.word neg ((n.log2 + 1022) * 2 ^ 52 + n * 2 ^ (52 - n.log2)) := by
  have hL : n.log2 ≤ 52 := by have := (Nat.log2_lt (by omega)).2 h; omega
  have hm : n * 2 ^ k ≠ 0 := Nat.ne_of_gt (Nat.mul_pos h0 (Nat.two_pow_pos k))
  have hlast : max (-(k : Int) + ((n * 2 ^ k).log2 : Nat) - (double.fractionBits : Nat)) double.leastPlace = (n.log2 : Int) - 52 := by
    rw [log2_mul_pow n k h0]
    have : double.leastPlace = -1074 := by decide
    rw [this]
    show max (-(k : Int) + ((n.log2 + k : Nat) : Int) - 52) (-1074) = _
    omega
  unfold Format.nearest
  rw [if_neg hm]
  simp only [hlast]
  have hkept : Toward.even.cut neg ((n * 2 ^ k) <<< (-(k : Int) - ((n.log2 : Int) - 52)).toNat) (((n.log2 : Int) - 52) - -(k : Int)).toNat = n * 2 ^ (52 - n.log2) := by
    by_cases hc : k + n.log2 ≤ 52
    · rw [show (((n.log2 : Int) - 52) - -(k : Int)).toNat = 0 by omega, show (-(k : Int) - ((n.log2 : Int) - 52)).toNat = 52 - n.log2 - k by omega]
      rw [Nat.shiftLeft_eq, Nat.mul_assoc, ← Nat.pow_add, show k + (52 - n.log2 - k) = 52 - n.log2 by omega]
      have := cut_exact .even neg (n * 2 ^ (52 - n.log2)) 0
      simpa using this
    · rw [show (-(k : Int) - ((n.log2 : Int) - 52)).toNat = 0 by omega, show (((n.log2 : Int) - 52) - -(k : Int)).toNat = k - (52 - n.log2) by omega]
      rw [Nat.shiftLeft_zero]
      have := cut_exact .even neg (n * 2 ^ (52 - n.log2)) (k - (52 - n.log2))
      rwa [Nat.mul_assoc, ← Nat.pow_add, show 52 - n.log2 + (k - (52 - n.log2)) = k by omega] at this
  rw [hkept]
  congr 1
  have hlp : double.leastPlace = -1074 := by decide
  have hb : double.binade = 2 ^ 52 := by decide
  have hi : double.infRung = 2047 * 2 ^ 52 := by decide
  rw [hlp, hb, hi, show ((n.log2 : Int) - 52 - -1074).toNat = n.log2 + 1022 by omega]
  apply Nat.min_eq_left
  have h2 : n * 2 ^ (52 - n.log2) < 2 ^ 53 := by
    have := @Nat.lt_log2_self n
    calc n * 2 ^ (52 - n.log2) < 2 ^ (n.log2 + 1) * 2 ^ (52 - n.log2) := Nat.mul_lt_mul_of_pos_right this (Nat.two_pow_pos _)
      _ = 2 ^ 53 := by rw [← Nat.pow_add]; congr 1; omega
  omega

/-- What such a word is read as. -/
theorem read_word (neg : Bool) (n : Nat) (h0 : 0 < n) (h : n < 2 ^ 53) :
    double.read (double.word neg ((n.log2 + 1022) * 2 ^ 52 + n * 2 ^ (52 - n.log2))) = .number neg (n * 2 ^ (52 - n.log2)) (-((52 - n.log2 : Nat) : Int)) := by
  have hL : n.log2 ≤ 52 := by have := (Nat.log2_lt (by omega)).2 h; omega
  have hlo : 2 ^ 52 ≤ n * 2 ^ (52 - n.log2) := by
    have := Nat.log2_self_le (n := n) (by omega)
    calc 2 ^ 52 = 2 ^ n.log2 * 2 ^ (52 - n.log2) := by rw [← Nat.pow_add]; congr 1; omega
      _ ≤ _ := Nat.mul_le_mul_right _ this
  have hhi : n * 2 ^ (52 - n.log2) < 2 ^ 53 := by
    have := @Nat.lt_log2_self n
    calc n * 2 ^ (52 - n.log2) < 2 ^ (n.log2 + 1) * 2 ^ (52 - n.log2) := Nat.mul_lt_mul_of_pos_right this (Nat.two_pow_pos _)
      _ = 2 ^ 53 := by rw [← Nat.pow_add]; congr 1; omega
  generalize hf : n * 2 ^ (52 - n.log2) = f at *
  generalize n.log2 = L at *
  have hlp : double.leastPlace = -1074 := by decide
  have hb : double.binade = 4503599627370496 := by decide
  have hi : double.infRung = 9218868437227405312 := by decide
  have hw : double.signWeight = 9223372036854775808 := by decide
  have hr : (if neg = true then double.signWeight + ((L + 1022) * 2 ^ 52 + f) else (L + 1022) * 2 ^ 52 + f) % 9223372036854775808 = (L + 1022) * 4503599627370496 + f := by
    rw [hw]; cases neg <;> simp <;> omega
  have hs : ((if neg = true then double.signWeight + ((L + 1022) * 2 ^ 52 + f) else (L + 1022) * 2 ^ 52 + f) / 9223372036854775808 % 2 == 1) = neg := by
    rw [hw]; cases neg <;> simp <;> omega
  unfold Format.read Format.word
  simp only [hw, hb, hi, hlp] at hr hs ⊢
  rw [hr, hs, if_neg (by omega), if_pos (by omega)]
  congr 1
  · omega
  · omega

theorem read_zero (neg : Bool) : double.read (double.word neg 0) = .number neg 0 (-1074) := by cases neg <;> decide

abbrev fl (z : Int) : Nat := floatOfInt .f64 z

theorem whole_zero (neg : Bool) (k : Nat) : Whole 0 (.number neg 0 (-(k : Int))) := ⟨neg, 0, k, rfl, (Nat.zero_mul _).symm, fun h => absurd rfl h⟩

theorem whole_fl (z : Int) (h : z.natAbs < 2 ^ 53) : Whole z (double.read (fl z)) := by
  show Whole z (double.read (double.nearest (z < 0) z.natAbs 0))
  by_cases h0 : z = 0
  · subst h0
    have e : double.read (double.nearest (decide ((0 : Int) < 0)) (Int.natAbs 0) 0) = .number false 0 (-((1074 : Nat) : Int)) := read_zero false
    rw [e]
    exact whole_zero false 1074
  · have := nearest_whole (decide (z < 0)) z.natAbs 0 (by omega) h
    rw [Nat.pow_zero, Nat.mul_one] at this
    have e : double.nearest (decide (z < 0)) z.natAbs 0 = _ := this
    rw [e, read_word _ _ (by omega) h]
    exact ⟨_, _, _, rfl, rfl, fun _ => rfl⟩

theorem order_fl {a b : Int} (ha : a.natAbs < 2 ^ 53) (hb : b.natAbs < 2 ^ 53) : FloatKind.f64.format.order (fl a) (fl b) = some (compare a b) :=
  order_whole (whole_fl a ha) (whole_fl b hb)

theorem write_whole {z : Int} {d : Datum} (h : Whole z d) (hz : 0 ≤ z) (hb : z.natAbs < 2 ^ 53) (hn : d.isZero = true → d.neg = false) : double.write d = fl z := by
  obtain ⟨neg, mag, k, rfl, hm, hs⟩ := h
  show double.nearest neg mag (-(k : Int)) = double.nearest (z < 0) z.natAbs 0
  by_cases h0 : z = 0
  · subst h0
    simp at hm
    subst hm
    have := hn rfl
    simp only [Datum.neg] at this
    subst this
    unfold Format.nearest
    simp
  · have hp : 0 < 2 ^ k := Nat.two_pow_pos k
    have hm0 : mag ≠ 0 := by rw [hm]; exact Nat.ne_of_gt (Nat.mul_pos (by omega) hp)
    rw [hs hm0, hm, nearest_whole _ _ _ (by omega) hb]
    have := nearest_whole (decide (z < 0)) z.natAbs 0 (by omega) hb
    rw [Nat.pow_zero, Nat.mul_one] at this
    exact this.symm

theorem add_fl {a b : Int} (ha : 0 ≤ a) (hb : 0 ≤ b) (h : (a + b).natAbs < 2 ^ 53) : floatBits .add .f64 (fl a) (fl b) = some (fl (a + b)) := by
  have hx := whole_fl a (by omega)
  have hy := whole_fl b (by omega)
  show ((double.read (fl a)).sum (double.read (fl b))).map double.write = _
  obtain ⟨s, m, i, ex, hm, hs⟩ := hx
  obtain ⟨t, n, j, ey, hn, ht⟩ := hy
  rw [ex, ey]
  simp only [Datum.sum, Option.map_some, Option.some.injEq]
  rw [signed_eq hm hs, signed_eq hn ht]
  have e1 : i + (-(i : Int) - min (-(i : Int)) (-(j : Int))).toNat = max i j := by omega
  have e2 : j + (-(j : Int) - min (-(i : Int)) (-(j : Int))).toNat = max i j := by omega
  have e3 : min (-(i : Int)) (-(j : Int)) = -((max i j : Nat) : Int) := by omega
  rw [e1, e2, e3, ← Int.add_mul]
  have hp : (0 : Int) < 2 ^ max i j := Int.pow_pos (by omega)
  refine write_whole ⟨_, _, _, rfl, by rw [Int.natAbs_mul, Int.natAbs_pow]; rfl, fun h0 => ?_⟩ (by omega) h ?_
  · have hne : (a + b) * 2 ^ max i j ≠ 0 := fun e => h0 (by rw [e]; rfl)
    rw [if_neg hne]
    have : ¬ (a + b) * 2 ^ max i j < 0 := Int.not_lt.2 (Int.mul_nonneg (by omega) (Int.le_of_lt hp))
    simp [this]; omega
  · intro hz
    simp only [Datum.neg]
    by_cases h0 : (a + b) * 2 ^ max i j = 0
    · rw [if_pos h0]
      have hab : a + b = 0 := by
        rcases Int.mul_eq_zero.1 h0 with h | h
        · exact h
        · omega
      have ea : a = 0 := by omega
      subst ea
      have : double.read (fl 0) = .number false 0 (-1074) := read_zero false
      rw [this] at ex
      have e := congrArg Datum.neg ex
      simp only [Datum.neg] at e
      rw [← e]
      rfl
    · rw [if_neg h0]
      have : ¬ (a + b) * 2 ^ max i j < 0 := Int.not_lt.2 (Int.mul_nonneg (by omega) (Int.le_of_lt hp))
      simp [this]

/-- A number cut towards zero. -/
theorem toInt_whole {z : Int} {d : Datum} (h : Whole z d) : d.toInt .zero = some z := by
  obtain ⟨neg, mag, k, rfl, hm, hs⟩ := h
  simp only [Datum.toInt, Datum.integral]
  rw [show (-(k : Int)).toNat = 0 by omega, show (-(-(k : Int))).toNat = k by omega, Nat.shiftLeft_zero, hm, cut_exact]
  congr 1
  have := signed_eq (z := z) (neg := neg) (mag := z.natAbs) (k := 0) (by simp) (fun h0 => hs (by rw [hm]; exact Nat.ne_of_gt (Nat.mul_pos (by omega) (Nat.two_pow_pos k)))) 0
  simpa using this

theorem int_fl {z : Int} (h : z.natAbs < 2 ^ 53) : floatToIntVal .f64 (fl z) .i64 = some z := by
  unfold floatToIntVal
  rw [show (FloatKind.f64.decode (fl z)).toInt .zero = some z from toInt_whole (whole_fl z h)]
  simp [IntKind.min, IntKind.max, IntKind.signed, IntKind.bits]
  omega

end Go.Proofs.Ytlkplncfiohlcaa
