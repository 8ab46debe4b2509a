/- The walk of the law SpotOrder of package spot. -/
import Derived.Test.YtlkplncfiohlcaaSg
namespace Go.Proofs.Ytlkplncfiohlcaa
open Go Go.RowKit Go.Lib

theorem same_fl {z : Int} (h : z.natAbs < 2 ^ 53) : (FloatKind.f64.format.order (fl z) (fl z) == some Ordering.eq) = true := by
  rw [order_fl h h, Int.compare_eq_eq.2 rfl]; rfl

set_option maxRecDepth 100000 in
set_option maxHeartbeats 1000000 in
theorem order_walk (t : ByteArray) (a : Int) (w : World) : Calls Try.prog 12 #[.string t, .int .i64 a] w fun e w' => e = .returned (.bool true) ∧ ∃ k, w' = w.drewN k := by
  by_cases hall : (t.size : Int) ≤ 300 ∧ 0 ≤ a ∧ a < (t.size : Int)
  · obtain ⟨g1, g2, g3⟩ := hall
    obtain ⟨a, rfl⟩ : ∃ n : Nat, a = n := ⟨a.toNat, by omega⟩
    have hjs : a < t.size := by omega
    have k1 := hid fun w => Of_nat t a a w (by omega) (.inr (.inl ⟨rfl, by omega⟩))
    have k2 := hid fun w => Of_nat t ((a : Int) + 1) (a + 1) w (by omega) (.inr (.inl ⟨rfl, by omega⟩))
    have TB := take_byte t hjs
    have C1 := colN_snoc (t.data.toList.take a) t[a]
    have C2 := lineN_snoc (t.data.toList.take a) t[a]
    rw [← TB] at C1 C2
    have c1 := colN_le (t.data.toList.take a)
    have c2 := lineN_le (t.data.toList.take a)
    have c3 : (t.data.toList.take a).length ≤ a := List.length_take_le _ _
    have e1 : colN (t.data.toList.take a) ≤ 300 := by omega
    have e2 : lineN (t.data.toList.take a) ≤ 300 := by omega
    clear TB c1 c2 c3
    unfold spotV at k1 k2
    generalize colN (t.data.toList.take (a + 1)) = C' at *
    generalize lineN (t.data.toList.take (a + 1)) = R' at *
    generalize colN (t.data.toList.take a) = C at *
    generalize lineN (t.data.toList.take a) = R at *
    have s1 := same_fl (z := (C : Int) + 1) (by omega)
    have s2 := same_fl (z := (R : Int) + 1) (by omega)
    have s3 := same_fl (z := (R : Int)) (by omega)
    have s0 : (FloatKind.f64.format.order 0 0 == some Ordering.eq) = true := by decide +kernel
    by_cases hb : t[a] = 10
    · rw [if_pos hb] at C1 C2
      rw [C1, C2] at k2
      clear C1 C2
      have tb : (((t[a]).toNat : Int) == 10) = true := by rw [hb]; rfl
      have r1 := fun w => run_float_arith (P := Try.prog) w .add 39 .f64 _ _ _ (add_fl (a := R) (b := 1) (by omega) (by omega) (by omega))
      rw [f1] at r1
      rw [show ((R + 1 : Nat) : Int) = (R : Int) + 1 from rfl, show fl ((0 : Nat) : Int) = 0 from z0] at k2
      clear hb s1
      generalize fl ((R : Int) + 1) = R1 at *
      generalize fl (R : Int) = R0 at *
      generalize fl (C : Int) = C0 at *
      go_enter Try.func12, Try.ntmps12
      go_wp2_with fail
      refine (spot_works w).mono ?_
      rintro e w' ⟨rfl, k, rfl⟩
      go_wp2_with fail
      refine (k1.out _).mono ?_
      rintro e w' ⟨rfl, rfl⟩
      go_wp2_with fail
      refine (k2.out _).mono ?_
      rintro e w' ⟨rfl, rfl⟩
      go_wp2
      go_ret
      exact ⟨rfl, k, rfl⟩
    · rw [if_neg hb] at C1 C2
      rw [C1, C2] at k2
      clear C1 C2
      have tb : (((t[a]).toNat : Int) == 10) = false := by
        rw [beq_eq_false_iff_ne]; intro h; apply hb; apply UInt8.toNat_inj.1; show _ = 10; omega
      have r1 := fun w => run_complex_sum (P := Try.prog) w .add (.inl rfl) 38 .f64 (fl (C : Int)) (fl (R : Int)) (fl 1) (fl 0) (fl ((C : Int) + 1)) (fl ((R : Int) + 0)) (by
        unfold cSumBits
        rw [add_fl (by omega) (by omega) (by omega), add_fl (by omega) (by omega) (by omega)]
        rfl)
      rw [f1, z0, Int.add_zero] at r1
      rw [show ((C + 1 : Nat) : Int) = (C : Int) + 1 from rfl] at k2
      clear hb s2
      generalize fl ((C : Int) + 1) = C1 at *
      generalize fl (R : Int) = R0 at *
      generalize fl (C : Int) = C0 at *
      go_enter Try.func12, Try.ntmps12
      go_wp2_with fail
      refine (spot_works w).mono ?_
      rintro e w' ⟨rfl, k, rfl⟩
      go_wp2_with fail
      refine (k1.out _).mono ?_
      rintro e w' ⟨rfl, rfl⟩
      go_wp2_with fail
      refine (k2.out _).mono ?_
      rintro e w' ⟨rfl, rfl⟩
      go_wp2
      go_ret
      exact ⟨rfl, k, rfl⟩
  · have hcs : 300 < (t.size : Int) ∨ ((t.size : Int) ≤ 300 ∧ a < 0) ∨ ((t.size : Int) ≤ 300 ∧ 0 ≤ a ∧ (t.size : Int) ≤ a) := by omega
    clear hall
    rcases hcs with h1 | ⟨h1, h2⟩ | ⟨h1, h2, h3⟩
    all_goals
      go_enter Try.func12, Try.ntmps12
      go_wp2_with fail
      refine (spot_works w).mono ?_
      rintro e w' ⟨rfl, k, rfl⟩
      go_wp2
      go_ret
      exact ⟨rfl, k, rfl⟩

end Go.Proofs.Ytlkplncfiohlcaa
