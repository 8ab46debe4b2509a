/- Where one text behind another one ends; the walk of the law SpotMany of package spot. -/
import Derived.Test.YtlkplncfiohlcaaSi
namespace Go.Proofs.Ytlkplncfiohlcaa
open Go Go.RowKit Go.Lib

theorem list_join (x y : ByteArray) : (x ++ y).data.toList = x.data.toList ++ y.data.toList := by
  rw [ByteArray.data_append, Array.toList_append]

/-- Where a text ends. -/
abbrev spotL (l : List UInt8) : Value := spotV (colN l : Nat) (lineN l : Nat)

theorem moved_append (l m : List UInt8) : moved (colN l : Nat) (lineN l : Nat) (colN m : Nat) (lineN m : Nat) = spotL (l ++ m) := by
  unfold moved spotL
  rw [colN_append, lineN_append]
  by_cases h : lineN m = 0
  · rw [if_pos (by omega), if_pos h, h]
    rfl
  · rw [if_neg (by omega), if_neg h]
    rfl
theorem Move_spot (l m : List UInt8) (w : World) (h1 : l.length ≤ 1000000) (h2 : m.length ≤ 1000000) : Calls Try.prog 41 #[spotL l, spotL m] w fun e w' => e = .returned (spotL (l ++ m)) ∧ w = w' := by
  have a1 := colN_le l
  have a2 := lineN_le l
  have a3 := colN_le m
  have a4 := lineN_le m
  have := Move_any (colN l : Nat) (lineN l : Nat) (colN m : Nat) (lineN m : Nat) w (by omega) (by omega) (by omega) (by omega) (by omega) (by omega) (by omega) (by omega)
  rw [moved_append] at this
  exact this
theorem RMove_spot (l m : List UInt8) (w : World) (h1 : l.length ≤ 1000000) (h2 : m.length ≤ 1000000) : Calls Try.prog 42 #[spotL l, spotL m] w fun e w' => e = .returned (spotL (l ++ m)) ∧ w = w' := by
  have a1 := colN_le l
  have a2 := lineN_le l
  have a3 := colN_le m
  have a4 := lineN_le m
  have := RMove_any (colN l : Nat) (lineN l : Nat) (colN m : Nat) (lineN m : Nat) w (by omega) (by omega) (by omega) (by omega) (by omega) (by omega) (by omega) (by omega)
  rw [moved_append] at this
  exact this
theorem spotL_nil : spotL [] = .complex .f64 0 0 := by
  show Value.complex .f64 (fl ((0 : Nat) : Int)) (fl ((0 : Nat) : Int)) = _
  rw [show fl ((0 : Nat) : Int) = 0 from z0]
theorem Of_end (t : ByteArray) (a : Int) (w : World) (ht : t.size < 4611686018427387904) (ha : a = (t.size : Int)) : Calls Try.prog 35 #[.string t, .int .i64 a] w fun e w' => e = .returned (spotL t.data.toList) ∧ w = w' := by
  have := Of_nat t a t.size w ht (.inr (.inl ⟨ha, Nat.le_refl _⟩))
  rwa [List.take_of_length_le (Nat.le_refl t.size)] at this
theorem same_spot (l : List UInt8) (h : l.length ≤ 1000000) : (FloatKind.f64.format.order (fl (colN l : Nat)) (fl (colN l : Nat)) == some Ordering.eq) = true ∧ (FloatKind.f64.format.order (fl (lineN l : Nat)) (fl (lineN l : Nat)) == some Ordering.eq) = true := by
  have a1 := colN_le l
  have a2 := lineN_le l
  exact ⟨same_fl (by omega), same_fl (by omega)⟩

set_option maxRecDepth 100000 in
set_option maxHeartbeats 2000000 in
theorem many_walk (a b c : ByteArray) (w : World) : Calls Try.prog 13 #[.string a, .string b, .string c] w fun e w' => e = .returned (.bool true) ∧ ∃ k, w' = w.drewN k := by
  by_cases hall : (a.size : Int) ≤ 300 ∧ (b.size : Int) ≤ 300 ∧ (c.size : Int) ≤ 300
  · obtain ⟨g1, g2, g3⟩ := hall
    have la : a.data.toList.length = a.size := rfl
    have lb : b.data.toList.length = b.size := rfl
    have lc : c.data.toList.length = c.size := rfl
    have o1 := hid fun w => Of_end a a.size w (by omega) rfl
    have o2 := hid fun w => Of_end b b.size w (by omega) rfl
    have o3 := hid fun w => Of_end c c.size w (by omega) rfl
    have m1 := hid fun w => Move_spot a.data.toList b.data.toList w (by omega) (by omega)
    have m2 := hid fun w => Move_spot (a.data.toList ++ b.data.toList) c.data.toList w (by simp; omega) (by omega)
    have m3 := hid fun w => Move_spot b.data.toList c.data.toList w (by omega) (by omega)
    have m4 := hid fun w => Move_spot a.data.toList (b.data.toList ++ c.data.toList) w (by omega) (by simp; omega)
    have m5 := hid fun w => Move_spot [] a.data.toList w (by simp) (by omega)
    have m6 := hid fun w => Move_spot a.data.toList [] w (by omega) (by simp)
    rw [List.nil_append, spotL_nil] at m5
    rw [List.append_nil, spotL_nil] at m6
    rw [← List.append_assoc] at m4
    have o4 : Hid (∀ (n : Int), n = (a.size : Int) + b.size + c.size → ∀ w, Calls Try.prog 35 #[.string (a ++ b ++ c), .int .i64 n] w fun e w' => e = .returned (spotL (a.data.toList ++ b.data.toList ++ c.data.toList)) ∧ w = w') := fun n hn w => by
      have hz : (a ++ b ++ c).size = a.size + b.size + c.size := by rw [ByteArray.size_append, ByteArray.size_append]
      have := Of_end (a ++ b ++ c) n w (by omega) (by omega)
      rwa [list_join, list_join] at this
    obtain ⟨s1, s2⟩ := same_spot a.data.toList (by omega)
    obtain ⟨s3, s4⟩ := same_spot (a.data.toList ++ b.data.toList ++ c.data.toList) (by simp; omega)
    unfold spotL spotV at *
    clear la lb lc
    generalize fl (colN (a.data.toList ++ b.data.toList ++ c.data.toList) : Nat) = X1 at *
    generalize fl (lineN (a.data.toList ++ b.data.toList ++ c.data.toList) : Nat) = X2 at *
    generalize fl (colN (a.data.toList ++ b.data.toList) : Nat) = X3 at *
    generalize fl (lineN (a.data.toList ++ b.data.toList) : Nat) = X4 at *
    generalize fl (colN (b.data.toList ++ c.data.toList) : Nat) = X5 at *
    generalize fl (lineN (b.data.toList ++ c.data.toList) : Nat) = X6 at *
    generalize fl (colN a.data.toList : Nat) = X7 at *
    generalize fl (lineN a.data.toList : Nat) = X8 at *
    generalize fl (colN b.data.toList : Nat) = X9 at *
    generalize fl (lineN b.data.toList : Nat) = X10 at *
    generalize fl (colN c.data.toList : Nat) = X11 at *
    generalize fl (lineN c.data.toList : Nat) = X12 at *
    go_enter Try.func13, Try.ntmps13
    go_wp2_with fail
    refine (spot_works w).mono ?_
    rintro e w' ⟨rfl, k, rfl⟩
    go_wp2_with fail
    refine (o1.out _).mono ?_
    rintro e w' ⟨rfl, rfl⟩
    go_wp2_with fail
    refine (o2.out _).mono ?_
    rintro e w' ⟨rfl, rfl⟩
    go_wp2_with fail
    refine (o3.out _).mono ?_
    rintro e w' ⟨rfl, rfl⟩
    go_wp2_with fail
    refine (m1.out _).mono ?_
    rintro e w' ⟨rfl, rfl⟩
    go_wp2_with fail
    refine (m2.out _).mono ?_
    rintro e w' ⟨rfl, rfl⟩
    go_wp2_with fail
    refine (m3.out _).mono ?_
    rintro e w' ⟨rfl, rfl⟩
    go_wp2_with fail
    refine (m4.out _).mono ?_
    rintro e w' ⟨rfl, rfl⟩
    go_wp2_with fail
    refine (o4.out _ (by omega) _).mono ?_
    rintro e w' ⟨rfl, rfl⟩
    go_wp2_with fail
    refine (m3.out _).mono ?_
    rintro e w' ⟨rfl, rfl⟩
    go_wp2_with fail
    refine (m4.out _).mono ?_
    rintro e w' ⟨rfl, rfl⟩
    go_wp2_with fail
    refine (m5.out _).mono ?_
    rintro e w' ⟨rfl, rfl⟩
    go_wp2_with fail
    refine (m6.out _).mono ?_
    rintro e w' ⟨rfl, rfl⟩
    go_wp2
    go_ret
    exact ⟨rfl, k, rfl⟩
  · have hcs : 300 < (a.size : Int) ∨ ((a.size : Int) ≤ 300 ∧ 300 < (b.size : Int)) ∨ ((a.size : Int) ≤ 300 ∧ (b.size : Int) ≤ 300 ∧ 300 < (c.size : Int)) := by omega
    clear hall
    rcases hcs with h1 | ⟨h1, h2⟩ | ⟨h1, h2, h3⟩
    all_goals
      go_enter Try.func13, Try.ntmps13
      go_wp2_with fail
      refine (spot_works w).mono ?_
      rintro e w' ⟨rfl, k, rfl⟩
      go_wp2
      go_ret
      exact ⟨rfl, k, rfl⟩

end Go.Proofs.Ytlkplncfiohlcaa
