/- The walk of the law DocParts of package doc. -/
import Derived.Test.YtjjclppepkljkaaDd
namespace Go.Proofs.Ytjjclppepkljkaa
open Go Go.RowKit Go.Lib

theorem text_ext {x y : ByteArray} (h : x.data.toList = y.data.toList) : x = y := by
  cases x; cases y; simp only [ByteArray.mk.injEq]; exact Array.toList_inj.1 h
theorem list_cut (x : ByteArray) (i j : Nat) : (x.extract i j).data.toList = (x.data.toList.take j).drop i := by
  rw [ByteArray.data_extract, Array.toList_extract, List.extract_eq_take_drop, List.drop_take]
theorem list_join (x y : ByteArray) : (x ++ y).data.toList = x.data.toList ++ y.data.toList := by
  rw [ByteArray.data_append, Array.toList_append]

/-- One behind another, cut out again. -/
theorem parts_one (T s t : ByteArray) (a b c d : Nat) (h1 : a ≤ b) (h2 : b ≤ c) (h3 : c ≤ d) (h4 : d ≤ T.size) :
    (T.extract 0 c ++ t ++ T.extract d T.size).extract 0 a ++ s ++ (T.extract 0 c ++ t ++ T.extract d T.size).extract b (T.extract 0 c ++ t ++ T.extract d T.size).size = T.extract 0 a ++ s ++ T.extract b c ++ t ++ T.extract d T.size := by
  apply text_ext
  have hT : T.data.toList.length = T.size := rfl
  have hall : ∀ x : ByteArray, (x.data.toList.take x.size) = x.data.toList := fun x => List.take_of_length_le (Nat.le_refl _)
  simp only [list_join, list_cut, List.drop_zero, hall]
  generalize hl : T.data.toList = l at *
  have hTl : l.take T.size = l := List.take_of_length_le (by omega)
  rw [List.take_append_of_le_length (by simp; omega), List.take_append_of_le_length (by simp; omega), List.take_take, Nat.min_eq_left (by omega)]
  rw [show ((l.take c ++ t.data.toList ++ l.drop d).take (T.extract 0 c ++ t ++ T.extract d T.size).size) = l.take c ++ t.data.toList ++ l.drop d from List.take_of_length_le (by
    have := congrArg List.length (show (T.extract 0 c ++ t ++ T.extract d T.size).data.toList = l.take c ++ t.data.toList ++ l.drop d by simp only [list_join, list_cut, List.drop_zero, hl, hTl])
    rw [← this]; exact Nat.le_refl _)]
  rw [List.append_assoc (l.take c), List.drop_append_of_le_length (by simp; omega)]
  simp [List.append_assoc]

theorem parts_two (T s t : ByteArray) (a b c d : Nat) (h1 : a ≤ b) (h2 : b ≤ c) (h3 : c ≤ d) (h4 : d ≤ T.size) :
    (T.extract 0 a ++ s ++ T.extract b T.size).extract 0 (c - b + a + s.size) ++ t ++ (T.extract 0 a ++ s ++ T.extract b T.size).extract (d - b + a + s.size) (T.extract 0 a ++ s ++ T.extract b T.size).size = T.extract 0 a ++ s ++ T.extract b c ++ t ++ T.extract d T.size := by
  apply text_ext
  have hT : T.data.toList.length = T.size := rfl
  have hS : s.data.toList.length = s.size := rfl
  have hall : ∀ x : ByteArray, (x.data.toList.take x.size) = x.data.toList := fun x => List.take_of_length_le (Nat.le_refl _)
  simp only [list_join, list_cut, List.drop_zero, hall]
  generalize hl : T.data.toList = l at *
  have hTl : l.take T.size = l := List.take_of_length_le (by omega)
  generalize hm : s.data.toList = m at *
  have e1 : (l.take a ++ m ++ l.drop b).take (c - b + a + s.size) = l.take a ++ m ++ (l.take c).drop b := by
    rw [List.take_append, List.take_of_length_le (by simp; omega)]
    congr 1
    rw [List.drop_take]
    congr 1
    simp; omega
  have e2 : (l.take a ++ m ++ l.drop b).drop (d - b + a + s.size) = l.drop d := by
    rw [List.drop_append, List.drop_of_length_le (by simp; omega), List.nil_append, List.drop_drop]
    congr 1
    simp; omega
  rw [show ((l.take a ++ m ++ l.drop b).take (T.extract 0 a ++ s ++ T.extract b T.size).size) = l.take a ++ m ++ l.drop b from List.take_of_length_le (by
    have := congrArg List.length (show (T.extract 0 a ++ s ++ T.extract b T.size).data.toList = l.take a ++ m ++ l.drop b by simp only [list_join, list_cut, List.drop_zero, hl, hm, hTl])
    rw [← this]; exact Nat.le_refl _)]
  rw [e1, e2]

set_option maxRecDepth 100000 in
set_option maxHeartbeats 4000000 in
theorem parts_walk (T s t : ByteArray) (a b c d : Int) (w : World) : Calls Try.prog 4 #[.string T, .int .i64 a, .int .i64 b, .int .i64 c, .int .i64 d, .string s, .string t] w fun e w' => e = .returned (.bool true) ∧ Below w.heap.size w w' := by
  by_cases hall : (T.size : Int) ≤ 40 ∧ (s.size : Int) ≤ 40 ∧ (t.size : Int) ≤ 40 ∧ 0 ≤ a ∧ a ≤ b ∧ b ≤ c ∧ c ≤ d ∧ d ≤ (T.size : Int)
  · obtain ⟨g1, g2, g3, g4, g5, g6, g7, g8⟩ := hall
    obtain ⟨a, rfl⟩ : ∃ n : Nat, a = n := ⟨a.toNat, by omega⟩
    obtain ⟨b, rfl⟩ : ∃ n : Nat, b = n := ⟨b.toNat, by omega⟩
    obtain ⟨c, rfl⟩ : ∃ n : Nat, c = n := ⟨c.toNat, by omega⟩
    obtain ⟨d, rfl⟩ : ∃ n : Nat, d = n := ⟨d.toNat, by omega⟩
    have i2 : (0 : Int) ≤ b := by omega
    have i3 : (0 : Int) ≤ c := by omega
    have i4 : (0 : Int) ≤ d := by omega
    have i5 : (c : Int) ≤ T.size := by omega
    have i6 : (b : Int) ≤ T.size := by omega
    have i7 : (a : Int) ≤ T.size := by omega
    have zX : ((T.extract 0 c ++ t ++ T.extract d T.size).size : Int) = c + t.size + (T.size - d) := by
      rw [ByteArray.size_append, ByteArray.size_append, ByteArray.size_extract, ByteArray.size_extract]; omega
    have zZ : ((T.extract 0 a ++ s ++ T.extract b T.size).size : Int) = a + s.size + (T.size - b) := by
      rw [ByteArray.size_append, ByteArray.size_append, ByteArray.size_extract, ByteArray.size_extract]; omega
    have k1 := hid fun w => Put_ok T t c d w g7 g8 (by omega) (by omega) (by omega)
    have k2 := hid fun w => Put_ok (T.extract 0 c ++ t ++ T.extract d T.size) s a b w g5 (by omega) (by omega) (by omega) (by omega)
    rw [parts_one T s t a b c d (by omega) (by omega) (by omega) (by omega)] at k2
    have k3 := hid fun w => Put_ok T s a b w g5 (by omega) (by omega) (by omega) (by omega)
    have k4 := hid fun w => Put_ok (T.extract 0 a ++ s ++ T.extract b T.size) t (c - b + a + s.size) (d - b + a + s.size) w (by omega) (by omega) (by omega) (by omega) (by omega)
    rw [parts_two T s t a b c d (by omega) (by omega) (by omega) (by omega)] at k4
    rw [show ((c - b + a + s.size : Nat) : Int) = (c : Int) - b + a + s.size from by omega, show ((d - b + a + s.size : Nat) : Int) = (d : Int) - b + a + s.size from by omega] at k4
    clear zX zZ
    generalize hX : T.extract 0 c ++ t ++ T.extract d T.size = X at *
    generalize hZ : T.extract 0 a ++ s ++ T.extract b T.size = Z at *
    clear hX hZ
    go_enter Try.func4, Try.ntmps4
    go_wp2_with fail
    refine (works_any w).mono ?_
    rintro e w1 ⟨rfl, hB⟩
    go_wp2_with fail
    refine (k1.out _).mono ?_
    rintro e w' ⟨rfl, n1, rfl⟩
    go_wp2_with fail
    refine (k2.out _).mono ?_
    rintro e w' ⟨rfl, n2, rfl⟩
    go_wp2_with fail
    refine (k3.out _).mono ?_
    rintro e w' ⟨rfl, n3, rfl⟩
    go_wp2_with fail
    refine (k4.out _).mono ?_
    rintro e w' ⟨rfl, n4, rfl⟩
    go_wp2_with fail
    go_quiet (fail)
    go_wp2
    go_ret
    exact ⟨rfl, below_drewN (below_drewN hB _) _⟩
  · have hcs : 40 < (T.size : Int) ∨ ((T.size : Int) ≤ 40 ∧ 40 < (s.size : Int)) ∨ ((T.size : Int) ≤ 40 ∧ (s.size : Int) ≤ 40 ∧ 40 < (t.size : Int)) ∨
        ((T.size : Int) ≤ 40 ∧ (s.size : Int) ≤ 40 ∧ (t.size : Int) ≤ 40 ∧ a < 0) ∨ ((T.size : Int) ≤ 40 ∧ (s.size : Int) ≤ 40 ∧ (t.size : Int) ≤ 40 ∧ 0 ≤ a ∧ b < a) ∨
        ((T.size : Int) ≤ 40 ∧ (s.size : Int) ≤ 40 ∧ (t.size : Int) ≤ 40 ∧ 0 ≤ a ∧ a ≤ b ∧ c < b) ∨ ((T.size : Int) ≤ 40 ∧ (s.size : Int) ≤ 40 ∧ (t.size : Int) ≤ 40 ∧ 0 ≤ a ∧ a ≤ b ∧ b ≤ c ∧ d < c) ∨
        ((T.size : Int) ≤ 40 ∧ (s.size : Int) ≤ 40 ∧ (t.size : Int) ≤ 40 ∧ 0 ≤ a ∧ a ≤ b ∧ b ≤ c ∧ c ≤ d ∧ (T.size : Int) < d) := by omega
    clear hall
    rcases hcs with h1 | ⟨h1, h2⟩ | ⟨h1, h2, h3⟩ | ⟨h1, h2, h3, h4⟩ | ⟨h1, h2, h3, h4, h5⟩ | ⟨h1, h2, h3, h4, h5, h6⟩ | ⟨h1, h2, h3, h4, h5, h6, h7⟩ | ⟨h1, h2, h3, h4, h5, h6, h7, h8⟩
    all_goals
      go_enter Try.func4, Try.ntmps4
      go_wp2_with fail
      refine (works_any w).mono ?_
      rintro e w1 ⟨rfl, hB⟩
      go_wp2
      go_ret
      exact ⟨rfl, hB⟩

end Go.Proofs.Ytjjclppepkljkaa
