/- A float from 0 to a whole number has a whole part, and that lies there too. -/
import Derived.Test.YtlkplncfiohlcaaFl
namespace Go.Proofs.Ytlkplncfiohlcaa
open Go Ieee

theorem cut_zero_le (s : Bool) (m d : Nat) : Toward.zero.cut s m d * 2 ^ d ≤ m := by
  simp only [Toward.cut, Bool.toNat_false, Nat.add_zero, Nat.one_shiftLeft]
  rcases Nat.lt_or_ge d (m.log2 + 2) with h | h
  · rw [Nat.min_eq_left (by omega)]
    exact Nat.div_mul_le_self m (2 ^ d)
  · rw [Nat.min_eq_right h]
    have : m < 2 ^ (m.log2 + 2) := Nat.lt_trans (Nat.lt_log2_self (n := m)) (by rw [Nat.pow_lt_pow_iff_right (by omega)]; omega)
    rw [Nat.div_eq_of_lt this]
    omega

theorem int_in (b : Nat) (most : Int) (hm : most.natAbs < 2 ^ 53) (t1 : (FloatKind.f64.format.order b 0 == some Ordering.gt || FloatKind.f64.format.order b 0 == some Ordering.eq) = true)
    (t2 : (FloatKind.f64.format.order b (fl most) == some Ordering.lt || FloatKind.f64.format.order b (fl most) == some Ordering.eq) = true) : ∃ n, floatToIntVal .f64 b .i64 = some n ∧ 0 ≤ n ∧ n ≤ most := by
  have hw := whole_fl most hm
  have e1 : FloatKind.f64.format.order b 0 = (double.read b).order (double.read 0) := rfl
  have e2 : FloatKind.f64.format.order b (fl most) = (double.read b).order (double.read (fl most)) := rfl
  have e3 : FloatKind.f64.decode b = double.read b := rfl
  have e0 : double.read 0 = .number false 0 (-1074) := by decide
  rw [e1, e0] at t1
  rw [e2] at t2
  obtain ⟨t, g, k, hg, hgm, hgs⟩ := hw
  rw [hg] at t2
  unfold floatToIntVal
  rw [e3]
  clear e1 e2 e3 hg
  generalize double.read b = D at *
  cases D with
  | nan s f => simp [Datum.order] at t1
  | infinity s =>
    cases s
    · simp [Datum.order] at t2
    · simp [Datum.order] at t1
  | number s m e =>
    simp only [Datum.order] at t1 t2
    rw [signed_eq hgm hgs] at t2
    have h0 : signed false 0 (-1074 - min e (-1074)).toNat = 0 := by simp [signed]
    rw [h0] at t1
    simp only [Datum.toInt, Datum.integral]
    generalize hA : (e - min e (-1074)).toNat = A at t1
    have hpos : 0 ≤ signed s m A := by
      simp only [Bool.or_eq_true, beq_iff_eq, Option.some.injEq, Int.compare_eq_gt, Int.compare_eq_eq] at t1
      omega
    have hle : signed s m (e - min e (-(k : Int))).toNat ≤ most * 2 ^ (k + (-(k : Int) - min e (-(k : Int))).toNat) := by
      simp only [Bool.or_eq_true, beq_iff_eq, Option.some.injEq, Int.compare_eq_lt, Int.compare_eq_eq] at t2
      omega
    generalize hM : k + (-(k : Int) - min e (-(k : Int))).toNat = M at hle
    have hc := cut_zero_le s (m <<< e.toNat) (-e).toNat
    have hM2 : (M : Int) = max (-e) k := by omega
    have hd : (-e).toNat ≤ M := by omega
    have hS : (e - min e (-(k : Int))).toNat = e.toNat + (M - (-e).toNat) := by omega
    rw [hS] at hle
    generalize Toward.zero.cut s (m <<< e.toNat) (-e).toNat = c at hc ⊢
    have hpM : (0 : Int) < 2 ^ M := Int.pow_pos (by omega)
    have key : (s = false ∨ m = 0) → (c : Int) ≤ most := by
      intro hsm
      have hsig : signed s m (e.toNat + (M - (-e).toNat)) = ((m * 2 ^ (e.toNat + (M - (-e).toNat)) : Nat) : Int) := by
        rcases hsm with rfl | rfl
        · simp [signed, Nat.shiftLeft_eq]
        · cases s <;> simp [signed]
      rw [hsig, Nat.pow_add] at hle
      rw [Nat.shiftLeft_eq] at hc
      have h1 : c * 2 ^ (-e).toNat * 2 ^ (M - (-e).toNat) ≤ m * 2 ^ e.toNat * 2 ^ (M - (-e).toNat) := Nat.mul_le_mul_right _ hc
      rw [Nat.mul_assoc, ← Nat.pow_add, show (-e).toNat + (M - (-e).toNat) = M by omega, Nat.mul_assoc] at h1
      have h2 : (c : Int) * 2 ^ M ≤ most * 2 ^ M := by
        refine Int.le_trans ?_ hle
        exact_mod_cast h1
      exact Int.le_of_mul_le_mul_right h2 hpM
    have hsm : s = false ∨ m = 0 := by
      cases s
      · exact .inl rfl
      · right
        simp only [signed, if_true, Nat.shiftLeft_eq] at hpos
        rcases Nat.eq_zero_or_pos m with h | h
        · exact h
        · have := Nat.mul_pos h (Nat.two_pow_pos A)
          omega
    have hk := key hsm
    have hsc : signed s c 0 = (c : Int) := by
      rcases hsm with rfl | rfl
      · simp [signed]
      · rw [Nat.shiftLeft_eq, Nat.zero_mul] at hc
        have hp := Nat.two_pow_pos (-e).toNat
        have hc0 : c = 0 := by
          rcases Nat.eq_zero_or_pos c with h | h
          · exact h
          · have := Nat.mul_pos h hp; omega
        subst hc0
        cases s <;> simp [signed]
    refine ⟨c, ?_, by omega, hk⟩
    simp only [hsc]
    rw [if_pos]
    simp [IntKind.min, IntKind.max, IntKind.signed, IntKind.bits]
    omega

end Go.Proofs.Ytlkplncfiohlcaa
