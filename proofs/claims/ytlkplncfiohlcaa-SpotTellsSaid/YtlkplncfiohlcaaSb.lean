/- spot's inner calls: whole, begin; and strings.Cut at a byte 10. -/
import Derived.Deep.QuietTactic
import Derived.BigQuiet
import Derived.OwnWalk
import Derived.Test.YtlkplncfiohlcaaSa
import Derived.Test.YtlkplncfiohlcaaSn
namespace Go.Proofs.Ytlkplncfiohlcaa
open Go Go.RowKit Go.Lib

theorem whole_in (b : Nat) (n most : Int) (w : World) (t1 : (FloatKind.f64.format.order b 0 == some Ordering.gt || FloatKind.f64.format.order b 0 == some Ordering.eq) = true)
    (t2 : (FloatKind.f64.format.order b (fl most) == some Ordering.lt || FloatKind.f64.format.order b (fl most) == some Ordering.eq) = true) (hn : floatToIntVal .f64 b .i64 = some n) :
    Calls Try.prog 48 #[.float .f64 b, .int .i64 most] w fun e w' => e = .returned (.tuple #[.int .i64 n, .bool (FloatKind.f64.format.order (fl n) b == some Ordering.eq)]) ∧ w = w' := by
  have hc := fun w => run_convert_float_int (P := Try.prog) w 39 3 .f64 .i64 b n (by kernel_rfl) Try.underlying3 hn
  have HN := hid hn
  clear hn
  go_enter Try.func48, Try.ntmps48
  go_wp2
  go_ret2
  exact ⟨rfl, rfl⟩

theorem whole_out (b : Nat) (most : Int) (w : World) (t : (FloatKind.f64.format.order b 0 == some Ordering.gt || FloatKind.f64.format.order b 0 == some Ordering.eq) = false ∨
    ((FloatKind.f64.format.order b 0 == some Ordering.gt || FloatKind.f64.format.order b 0 == some Ordering.eq) = true ∧ (FloatKind.f64.format.order b (fl most) == some Ordering.lt || FloatKind.f64.format.order b (fl most) == some Ordering.eq) = false)) :
    Calls Try.prog 48 #[.float .f64 b, .int .i64 most] w fun e w' => e = .returned (.tuple #[.int .i64 0, .bool false]) ∧ w = w' := by
  rcases t with t1 | ⟨t1, t2⟩
  all_goals
    go_enter Try.func48, Try.ntmps48
    go_wp2
    go_ret2
    exact ⟨rfl, rfl⟩

theorem z0 : fl 0 = 0 := by decide

/-- whole, at a whole number. -/
theorem whole_fl_any (z most : Int) (w : World) (hz : z.natAbs < 2 ^ 53) (hm : most.natAbs < 2 ^ 53) :
    Calls Try.prog 48 #[.float .f64 (fl z), .int .i64 most] w fun e w' => e = .returned (if 0 ≤ z ∧ z ≤ most then .tuple #[.int .i64 z, .bool true] else .tuple #[.int .i64 0, .bool false]) ∧ w = w' := by
  have o1 : FloatKind.f64.format.order (fl z) 0 = some (compare z 0) := by rw [← z0]; exact order_fl hz (by omega)
  have o2 := order_fl hz hm
  by_cases h : 0 ≤ z ∧ z ≤ most
  · rw [if_pos h]
    have := whole_in (fl z) z most w ?_ ?_ (int_fl hz)
    · rw [order_fl hz hz, Int.compare_eq_eq.2 rfl] at this
      exact this
    · rw [o1]
      rcases Int.lt_trichotomy z 0 with h' | h' | h'
      · omega
      · rw [Int.compare_eq_eq.2 h']; rfl
      · rw [Int.compare_eq_gt.2 h']; rfl
    · rw [o2]
      rcases Int.lt_trichotomy z most with h' | h' | h'
      · rw [Int.compare_eq_lt.2 h']; rfl
      · rw [Int.compare_eq_eq.2 h']; rfl
      · omega
  · rw [if_neg h]
    refine whole_out (fl z) most w ?_
    rw [o1, o2]
    by_cases hz0 : 0 ≤ z
    · right
      refine ⟨?_, by rw [Int.compare_eq_gt.2 (by omega)]; rfl⟩
      rcases Int.lt_trichotomy z 0 with h' | h' | h'
      · omega
      · rw [Int.compare_eq_eq.2 h']; rfl
      · rw [Int.compare_eq_gt.2 h']; rfl
    · left
      rw [Int.compare_eq_lt.2 (by omega)]; rfl

theorem Cut_in (s : ByteArray) (w : World) (hs : s.size < 4611686018427387904) :
    Calls Try.prog 57 #[.string s, .string { data := #[10] }] w fun e w' => (∃ (x : ByteArray) (y : Value) (z : Value), x.data.toList = upN s.data.toList ∧ e = .returned (.tuple #[.string x, y, z])) ∧ ∃ n, w' = w.drewN n := by
  have k1 := hid fun w => Try.stringslite_Index_one s 10 w
  have hl : s.data.toList.length = s.size := rfl
  rcases index_cases s.data.toList with ⟨e1, e2, _, _⟩ | ⟨i, e1, e2, e3, _⟩
  · rw [e1] at k1
    have E2 := hid e2
    clear e1 e2 hl
    go_enter Try.func57, Try.ntmps57
    go_wp2_with fail
    refine (k1.out _).mono ?_
    rintro e w' ⟨rfl, rfl⟩
    go_wp2
    go_ret3
    exact ⟨⟨s, _, _, E2.out.symm, rfl⟩, 0, rfl⟩
  · rw [e1] at k1
    have E3 := hid e3
    have h1 : (i : Int) ≤ (s.size : Int) := by omega
    have h2 : (0 : Int) ≤ (i : Int) := by omega
    have h3 : (i : Int) + 1 ≤ (s.size : Int) := by omega
    have h4 : (0 : Int) ≤ (i : Int) + 1 := by omega
    have h5 : (s.size : Int) ≤ 4611686018427387904 := by omega
    clear e1 e2 e3 hl
    go_enter Try.func57, Try.ntmps57
    go_wp2_with fail
    refine (k1.out _).mono ?_
    rintro e w' ⟨rfl, rfl⟩
    go_wp2_with fail
    go_quiet (fail)
    go_wp2
    go_ret3
    refine ⟨⟨s.extract 0 i, _, _, ?_, rfl⟩, _, rfl⟩
    rw [list_cut, List.drop_zero, E3.out]

theorem Cut_10 (s : ByteArray) (w : World) (hs : s.size < 4611686018427387904) :
    Calls Try.prog 50 #[.string s, .string { data := #[10] }] w fun e w' => (∃ (x : ByteArray) (y : Value) (z : Value), x.data.toList = upN s.data.toList ∧ e = .returned (.tuple #[.string x, y, z])) ∧ ∃ n, w' = w.drewN n := by
  have k1 := hid fun w => Cut_in s w hs
  go_enter Try.func50, Try.ntmps50
  go_wp2_with fail
  refine (k1.out _).mono ?_
  rintro e w' ⟨⟨x, y, z, hx, rfl⟩, n, rfl⟩
  have HX := hid hx
  clear hx
  go_wp2
  go_ret3
  exact ⟨⟨x, y, z, HX.out, rfl⟩, n, rfl⟩

end Go.Proofs.Ytlkplncfiohlcaa
