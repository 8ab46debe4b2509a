/- The document's example of package spot holds. -/
import Derived.Test.YtlkplncfiohlcaaSe
namespace Go.Proofs.Ytlkplncfiohlcaa
open Go Go.RowKit Go.Lib

abbrev abcd : ByteArray := { data := #[97, 98, 10, 99, 100] }

theorem f1 : fl 1 = 4607182418800017408 := by decide +kernel
theorem f2 : fl 2 = 4611686018427387904 := by decide +kernel
theorem f3 : fl 3 = 4613937818241073152 := by decide +kernel
theorem f4 : fl 4 = 4616189618054758400 := by decide +kernel

theorem sk_of (w : World) : Calls Try.prog 35 #[.string abcd, .int .i64 4] w fun e w' => e = .returned (.complex .f64 4607182418800017408 4607182418800017408) ∧ w = w' := by
  have := Of_nat abcd 4 4 w (by decide) (.inr (.inl ⟨rfl, by decide⟩))
  rw [show colN (abcd.data.toList.take 4) = 1 by decide, show lineN (abcd.data.toList.take 4) = 1 by decide] at this
  unfold spotV at this
  rw [show ((1 : Nat) : Int) = 1 from rfl, f1] at this
  exact this
theorem sk_at (w : World) : Calls Try.prog 37 #[.string abcd, .complex .f64 4607182418800017408 4607182418800017408] w fun e w' => e = .returned (.int .i64 4) ∧ ∃ k, w' = w.drewN k := by
  have := At_any abcd 1 1 w (by decide) (by decide) (by decide)
  rw [show atI abcd.data.toList 1 1 = 4 by decide] at this
  unfold spotV at this
  rw [f1] at this
  exact this
theorem sk_lines (w : World) : Calls Try.prog 39 #[.string abcd] w fun e w' => e = .returned (.int .i64 2) ∧ w = w' := by
  have := Lines_any abcd w (by decide)
  rw [show lineN abcd.data.toList = 1 by decide] at this
  exact this
theorem text_ext {x y : ByteArray} (h : x.data.toList = y.data.toList) : x = y := by
  cases x; cases y; simp only [ByteArray.mk.injEq]; exact Array.toList_inj.1 h
theorem sk_line (w : World) : Calls Try.prog 40 #[.string abcd, .int .i64 1] w fun e w' => e = .returned (.string { data := #[99, 100] }) ∧ ∃ k, w' = w.drewN k := by
  refine (Line_any abcd 1 w (by decide) (by decide) (by decide)).mono ?_
  rintro e w' ⟨⟨x, hx, rfl⟩, h⟩
  obtain rfl : x = { data := #[99, 100] } := text_ext (hx.trans (by decide))
  exact ⟨rfl, h⟩
theorem sk_move (w : World) : Calls Try.prog 41 #[.complex .f64 4613937818241073152 4611686018427387904, .complex .f64 4607182418800017408 0] w fun e w' => e = .returned (.complex .f64 4616189618054758400 4611686018427387904) ∧ w = w' := by
  have := Move_any 3 2 1 0 w (by decide) (by decide) (by decide) (by decide) (by decide) (by decide) (by decide) (by decide)
  rw [show moved 3 2 1 0 = spotV 4 2 from rfl] at this
  unfold spotV at this
  rw [f1, f2, f3, f4, z0] at this
  exact this
theorem sk_move2 (w : World) : Calls Try.prog 41 #[.complex .f64 4613937818241073152 4611686018427387904, .complex .f64 4607182418800017408 4607182418800017408] w fun e w' => e = .returned (.complex .f64 4607182418800017408 4613937818241073152) ∧ w = w' := by
  have := Move_any 3 2 1 1 w (by decide) (by decide) (by decide) (by decide) (by decide) (by decide) (by decide) (by decide)
  rw [show moved 3 2 1 1 = spotV 1 3 from rfl] at this
  unfold spotV at this
  rw [f1, f2, f3] at this
  exact this
theorem sk_half (w : World) : Calls Try.prog 48 #[.float .f64 4602678819172646912, .int .i64 2] w fun e w' => e = .returned (.tuple #[.int .i64 0, .bool false]) ∧ w = w' := by
  have := whole_in 4602678819172646912 0 2 w (by decide +kernel) (by decide +kernel) (by decide +kernel)
  rw [show (FloatKind.f64.format.order (fl 0) 4602678819172646912 == some Ordering.eq) = false by decide +kernel] at this
  exact this

theorem sk_at2 (w : World) : Calls Try.prog 37 #[.string abcd, .complex .f64 4602678819172646912 0] w fun e w' => e = .returned (.int .i64 (-1)) ∧ ∃ k, w' = w.drewN k := by
  have k1 := hid fun w => sk_lines w
  have k2 := hid fun w => whole_fl_any 0 1 w (by decide) (by decide)
  rw [if_pos (by decide), z0] at k2
  have k3 : Hid (∀ w, Calls Try.prog 40 #[.string abcd, .int .i64 0] w fun e w' => e = .returned (.string { data := #[97, 98] }) ∧ ∃ k, w' = w.drewN k) := fun w => by
    refine (Line_any abcd 0 w (by decide) (by decide) (by decide)).mono ?_
    rintro e w' ⟨⟨x, hx, rfl⟩, h⟩
    obtain rfl : x = { data := #[97, 98] } := text_ext (hx.trans (by decide))
    exact ⟨rfl, h⟩
  have k4 := hid fun w => sk_half w
  go_enter Try.func37, Try.ntmps37
  go_wp2_with fail
  refine (k1.out _).mono ?_
  rintro e w' ⟨rfl, rfl⟩
  go_wp2_with fail
  refine (k2.out _).mono ?_
  rintro e w' ⟨rfl, rfl⟩
  go_wp2_with fail
  refine (k3.out _).mono ?_
  rintro e w' ⟨rfl, k, rfl⟩
  go_wp2_with fail
  refine (k4.out _).mono ?_
  rintro e w' ⟨rfl, rfl⟩
  go_wp2
  go_ret
  exact ⟨rfl, k, rfl⟩

set_option maxRecDepth 100000 in
set_option maxHeartbeats 1000000 in
theorem spot_works (w : World) : Calls Try.prog 33 #[] w fun e w' => e = .returned (.bool true) ∧ ∃ k, w' = w.drewN k := by
  have o1 : (FloatKind.f64.format.order 4607182418800017408 4607182418800017408 == some Ordering.eq) = true := by decide +kernel
  have o2 : (FloatKind.f64.format.order 4611686018427387904 4611686018427387904 == some Ordering.eq) = true := by decide +kernel
  have o3 : (FloatKind.f64.format.order 4613937818241073152 4613937818241073152 == some Ordering.eq) = true := by decide +kernel
  have o4 : (FloatKind.f64.format.order 4616189618054758400 4616189618054758400 == some Ordering.eq) = true := by decide +kernel
  go_enter Try.func33, Try.ntmps33
  go_wp2_with fail
  refine (sk_of _).mono ?_
  rintro e w' ⟨rfl, rfl⟩
  go_wp2_with fail
  refine (sk_at _).mono ?_
  rintro e w' ⟨rfl, k1, rfl⟩
  go_wp2_with fail
  refine (sk_lines _).mono ?_
  rintro e w' ⟨rfl, rfl⟩
  go_wp2_with fail
  refine (sk_line _).mono ?_
  rintro e w' ⟨rfl, k2, rfl⟩
  go_wp2_with fail
  refine (sk_at2 _).mono ?_
  rintro e w' ⟨rfl, k3, rfl⟩
  go_wp2_with fail
  refine (sk_move _).mono ?_
  rintro e w' ⟨rfl, rfl⟩
  go_wp2_with fail
  refine (sk_move2 _).mono ?_
  rintro e w' ⟨rfl, rfl⟩
  go_wp2
  go_ret
  exact ⟨rfl, _, rfl⟩

end Go.Proofs.Ytlkplncfiohlcaa
