/- The document's own Put, byte by byte, comes to the same. -/
import Derived.WalkSpells
import Derived.Test.YtjjclppepkljkaaDa
namespace Go.Proofs.Ytjjclppepkljkaa
open Go Go.RowKit Go.Lib

theorem RPut_bad (t s : ByteArray) (a b : Int) (w : World) (h : a < 0 ∨ b < a ∨ (t.size : Int) < b) :
    Calls Try.prog 7 #[.string t, .int .i64 a, .int .i64 b, .string s] w fun e w' => e = .returned (.tuple #[noText, .int .i64 1]) ∧ w = w' := by
  have hc : a < 0 ∨ (0 ≤ a ∧ b < a) ∨ (0 ≤ a ∧ a ≤ b ∧ (t.size : Int) < b) := by omega
  clear h
  rcases hc with h | ⟨h1, h2⟩ | ⟨h1, h2, h3⟩
  all_goals
    go_enter Try.func7, Try.ntmps7
    go_wp2
    go_ret2
    exact ⟨rfl, rfl⟩

theorem RPut_many (t s : ByteArray) (a b : Int) (w : World) (h1 : 0 ≤ a) (h2 : a ≤ b) (h3 : b ≤ (t.size : Int)) (ht : (t.size : Int) ≤ 1000000) (hs : (s.size : Int) ≤ 1000000) (h : 20000 < (t.size : Int) - (b - a) + (s.size : Int)) :
    Calls Try.prog 7 #[.string t, .int .i64 a, .int .i64 b, .string s] w fun e w' => e = .returned (.tuple #[noText, .int .i64 4]) ∧ w = w' := by
  go_enter Try.func7, Try.ntmps7
  go_wp2
  go_ret2
  exact ⟨rfl, rfl⟩

theorem cut_step (t : ByteArray) (b j : Nat) (h : b ≤ j) : t.extract b j ++ t.extract j (j + 1) = t.extract b (j + 1) := by
  rw [ByteArray.extract_append_extract, Nat.min_eq_left h, Nat.max_eq_right (by omega)]
theorem cut_none (t : ByteArray) (b : Nat) : t.extract b b = ByteArray.empty := by simp

set_option maxRecDepth 100000 in
theorem RPut_ok (t s : ByteArray) (a b : Nat) (w : World) (h2 : (a : Int) ≤ b) (h3 : (b : Int) ≤ (t.size : Int)) (ht : (t.size : Int) ≤ 1000000) (hs : (s.size : Int) ≤ 1000000) (h : (t.size : Int) - ((b : Int) - a) + (s.size : Int) ≤ 20000) :
    Calls Try.prog 7 #[.string t, .int .i64 (a : Int), .int .i64 (b : Int), .string s] w fun e w' => e = .returned (.tuple #[.string (t.extract 0 a ++ s ++ t.extract b t.size), .int .i64 0]) ∧ w = w' := by
  have i1 : (0 : Int) ≤ (a : Int) := by omega
  have i2 : (a : Int) ≤ (t.size : Int) := by omega
  have i3 : (0 : Int) ≤ (b : Int) := by omega
  go_enter Try.func7, Try.ntmps7
  go_wp2
  go_loop [10, 11] (fun v i => ∃ k : Nat, k ≤ a ∧ i = .int .i64 (k : Int) ∧ v = .string (t.extract 0 k)) (fun _ i => a - (intOf i).toNat)
  case atStart => exact ⟨0, Nat.zero_le _, rfl, by rw [cut_none]; rfl⟩
  case round =>
    obtain ⟨k, hk, rfl, rfl⟩ := hrel
    by_cases hlt : k < a
    · have j1 : (k : Int) + 1 ≤ (t.size : Int) := by omega
      have j0 : (0 : Int) ≤ (k : Int) := by omega
      have j2 : (k : Int) ≤ (k : Int) + 1 := by omega
      have HS := hid (cut_step t 0 k (Nat.zero_le _))
      go_wp2
      exact ⟨⟨k + 1, by omega, by go_num, by first | rfl | rw [HS.out]⟩, by simp [intOf]; omega⟩
    · obtain rfl : k = a := by omega
      go_wp2
      go_loop [10, 12] (fun v i => ∃ j : Nat, b ≤ j ∧ j ≤ t.size ∧ i = .int .i64 (j : Int) ∧ v = .string (t.extract 0 k ++ s ++ t.extract b j)) (fun _ i => t.size - (intOf i).toNat)
      case atStart => exact ⟨b, Nat.le_refl _, by omega, rfl, by rw [cut_none, ByteArray.append_empty]⟩
      case round =>
        obtain ⟨j, hj, hj2, rfl, rfl⟩ := hrel
        by_cases hlt2 : j < t.size
        · have j1 : (j : Int) + 1 ≤ (t.size : Int) := by omega
          have j0 : (0 : Int) ≤ (j : Int) := by omega
          have j2 : (j : Int) ≤ (j : Int) + 1 := by omega
          have HS := hid (cut_step t b j hj)
          go_wp2
          exact ⟨⟨j + 1, by omega, by omega, by go_num, by first | rfl | rw [ByteArray.append_assoc, HS.out]⟩, by simp [intOf]; omega⟩
        · obtain rfl : j = t.size := by omega
          go_wp2
          go_ret2
          exact ⟨rfl, rfl⟩

end Go.Proofs.Ytjjclppepkljkaa
