/- The walk of the law SpotMoves of package spot. -/
import Derived.Test.YtlkplncfiohlcaaSj
namespace Go.Proofs.Ytlkplncfiohlcaa
open Go Go.RowKit Go.Lib

set_option maxRecDepth 100000 in
set_option maxHeartbeats 2000000 in
theorem moves_walk (a b : ByteArray) (n : Int) (w : World) : Calls Try.prog 10 #[.string a, .string b, .int .i64 n] w fun e w' => e = .returned (.bool true) ∧ ∃ k, w' = w.drewN k := by
  by_cases hall : (a.size : Int) ≤ 300 ∧ (b.size : Int) ≤ 300 ∧ 0 ≤ n ∧ n ≤ (b.size : Int)
  · obtain ⟨g1, g2, g3, g4⟩ := hall
    obtain ⟨n, rfl⟩ : ∃ m : Nat, n = m := ⟨n.toNat, by omega⟩
    have la : a.data.toList.length = a.size := rfl
    have lb : b.data.toList.length = b.size := rfl
    have ln : (b.data.toList.take n).length = n := by rw [List.length_take]; omega
    have hz : (a ++ b).size = a.size + b.size := ByteArray.size_append
    have o1 := hid fun w => Of_end a a.size w (by omega) rfl
    have o2 := hid fun w => Of_nat b n n w (by omega) (.inr (.inl ⟨rfl, by omega⟩))
    have o3 := hid fun w => Of_nat (a ++ b) ((a.size : Int) + n) (a.size + n) w (by omega) (.inr (.inl ⟨rfl, by omega⟩))
    rw [list_join, List.take_append, List.take_of_length_le (by omega), la, Nat.add_sub_cancel_left] at o3
    have m1 := hid fun w => Move_spot a.data.toList (b.data.toList.take n) w (by omega) (by omega)
    have m2 := hid fun w => RMove_spot a.data.toList (b.data.toList.take n) w (by omega) (by omega)
    have l1 := hid fun w => Lines_any (a ++ b) w (by omega)
    have l2 := hid fun w => Lines_any a w (by omega)
    have l3 := hid fun w => Lines_any b w (by omega)
    rw [list_join, lineN_append] at l1
    have r1 := lineN_le a.data.toList
    have r2 := lineN_le b.data.toList
    obtain ⟨s3, s4⟩ := same_spot (a.data.toList ++ b.data.toList.take n) (by simp; omega)
    unfold spotL spotV at *
    rw [la] at r1
    rw [lb] at r2
    clear ln la lb
    generalize fl (colN (a.data.toList ++ b.data.toList.take n) : Nat) = X1 at *
    generalize fl (lineN (a.data.toList ++ b.data.toList.take n) : Nat) = X2 at *
    generalize fl (colN a.data.toList : Nat) = X3 at *
    generalize fl (lineN a.data.toList : Nat) = X4 at *
    generalize fl (colN (b.data.toList.take n) : Nat) = X5 at *
    generalize fl (lineN (b.data.toList.take n) : Nat) = X6 at *
    generalize lineN a.data.toList = R1 at *
    generalize lineN b.data.toList = R2 at *
    have q1 : (R1 : Int) ≤ 300 := by omega
    have q2 : (R2 : Int) ≤ 300 := by omega
    have HQ : Hid (((((R1 + R2 : Nat) : Int) + 1) == (R1 : Int) + 1 + ((R2 : Int) + 1) - 1) = true) := by
      show _ = _
      simp; omega
    clear hz r1 r2
    go_enter Try.func10, Try.ntmps10
    go_wp2_with fail
    refine (spot_works w).mono ?_
    rintro e w' ⟨rfl, k, rfl⟩
    go_wp2_with fail
    refine (o1.out _).mono ?_
    rintro e w' ⟨rfl, rfl⟩
    go_wp2_with fail
    refine (o2.out _).mono ?_
    rintro e w' ⟨rfl, rfl⟩
    go_wp2_with fail
    refine (o3.out _).mono ?_
    rintro e w' ⟨rfl, rfl⟩
    go_wp2_with fail
    refine (m1.out _).mono ?_
    rintro e w' ⟨rfl, rfl⟩
    go_wp2_with fail
    refine (l1.out _).mono ?_
    rintro e w' ⟨rfl, rfl⟩
    go_wp2_with fail
    refine (l2.out _).mono ?_
    rintro e w' ⟨rfl, rfl⟩
    go_wp2_with fail
    refine (l3.out _).mono ?_
    rintro e w' ⟨rfl, rfl⟩
    have hq := HQ.out
    go_wp2_with fail
    refine (m1.out _).mono ?_
    rintro e w' ⟨rfl, rfl⟩
    go_wp2_with fail
    refine (m2.out _).mono ?_
    rintro e w' ⟨rfl, rfl⟩
    go_wp2
    go_ret
    exact ⟨rfl, k, rfl⟩
  · have hcs : 300 < (a.size : Int) ∨ ((a.size : Int) ≤ 300 ∧ 300 < (b.size : Int)) ∨ ((a.size : Int) ≤ 300 ∧ (b.size : Int) ≤ 300 ∧ n < 0) ∨ ((a.size : Int) ≤ 300 ∧ (b.size : Int) ≤ 300 ∧ 0 ≤ n ∧ (b.size : Int) < n) := by omega
    clear hall
    rcases hcs with h1 | ⟨h1, h2⟩ | ⟨h1, h2, h3⟩ | ⟨h1, h2, h3, h4⟩
    all_goals
      go_enter Try.func10, Try.ntmps10
      go_wp2_with fail
      refine (spot_works w).mono ?_
      rintro e w' ⟨rfl, k, rfl⟩
      go_wp2
      go_ret
      exact ⟨rfl, k, rfl⟩

end Go.Proofs.Ytlkplncfiohlcaa
