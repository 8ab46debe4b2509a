/- The document's own answers for sets of small numbers: whether a set has a number, and the set of one number. -/
import Derived.Test.YtmfobiimihaiiaaHi
import Derived.Test.YtmfobiimihaiiaaJz
namespace Go.Proofs.Ytmfobiimihaiiaa
open Go Go.RowKit Go.Lib

theorem shr_half (a k : Nat) : a >>> k / 2 = a >>> (k + 1) := by
  rw [← shr_one a k, Nat.shiftRight_eq_div_pow (a >>> k) 1]

theorem hasN_shr (a n : Nat) (hn : n < 64) : hasN a (n : Int) = decide (a >>> n % 2 = 1) := by
  rw [← testBit_shr, Bool.eq_iff_iff, has_iff]
  constructor
  · exact fun h => by simpa using h.2.2
  · exact fun h => ⟨by omega, by omega, by simpa using h⟩

theorem shr_le (a k : Nat) : a >>> k ≤ a := by rw [Nat.shiftRight_eq_div_pow]; exact Nat.div_le_self _ _

theorem RHas_any (a : Nat) (n : Int) (ha : a < 18446744073709551616) (w : World) : Calls Try.prog 58 #[u64 a, .int .i64 n] w fun e w' => e = .returned (.bool (hasN a n)) ∧ w = w' := by
  by_cases h0 : n < 0
  · have e : hasN a n = false := by
      cases h : hasN a n
      · rfl
      · have := (has_iff a n).1 h; omega
    rw [e]
    have E := hid e
    clear e
    go_enter Try.func58, Try.ntmps58
    go_wp2
    go_ret
    exact ⟨rfl, rfl⟩
  · by_cases h1 : 63 < n
    · have e : hasN a n = false := by
        cases h : hasN a n
        · rfl
        · have := (has_iff a n).1 h; omega
      rw [e]
      have E := hid e
      clear e
      go_enter Try.func58, Try.ntmps58
      go_wp2
      go_ret
      exact ⟨rfl, rfl⟩
    · obtain ⟨m, rfl⟩ : ∃ m : Nat, n = m := ⟨n.toNat, by omega⟩
      have e := hasN_shr a m (by omega)
      generalize hasN a (m : Int) = B at *
      have E := hid e
      clear e
      go_enter Try.func58, Try.ntmps58
      go_wp2
      go_loop [0, 5] (fun s i => ∃ k : Nat, k ≤ m ∧ i = .int .i64 (k : Int) ∧ s = u64 (a >>> k)) (fun _ i => m - (intOf i).toNat)
      case atStart => exact ⟨0, Nat.zero_le _, rfl, rfl⟩
      case round =>
        obtain ⟨k, hk, rfl, rfl⟩ := hrel
        have hs := shr_le a k
        have HH := hid (shr_half a k)
        generalize hx : a >>> k = x at *
        have HX := hid hx
        clear hx
        have hx0 : (0 : Int) ≤ (x : Int) := by omega
        by_cases hlt : k < m
        · go_wp2
          exact ⟨⟨k + 1, by omega, by go_num, by rw [← HH.out]; rfl⟩, by simp [intOf]; omega⟩
        · obtain rfl : k = m := by omega
          go_wp2
          go_ret
          refine ⟨?_, rfl⟩
          rw [E.out, HX.out]
          show Ending.returned (.bool (((x : Int) % 2) == 1)) = _
          congr 2
          rw [Bool.eq_iff_iff]
          simp
          omega

theorem bitN_succ (k : Nat) (h : k + 1 < 64) : bitN ((k : Int) + 1) = bitN (k : Int) * 2 := by
  unfold bitN
  rw [if_pos (by omega), if_pos (by omega)]
  rw [show ((k : Int) + 1).toNat = k + 1 by omega, Int.toNat_natCast, Nat.pow_succ]

theorem RBit_any (m : Nat) (hm : m < 64) (w : World) : Calls Try.prog 56 #[.int .i64 (m : Int)] w fun e w' => e = .returned (u64 (bitN (m : Int))) ∧ w = w' := by
  go_enter Try.func56, Try.ntmps56
  go_wp2
  go_loop [3, 4] (fun s i => ∃ k : Nat, k ≤ m ∧ i = .int .i64 (k : Int) ∧ s = u64 (bitN (k : Int))) (fun _ i => m - (intOf i).toNat)
  case atStart => exact ⟨0, Nat.zero_le _, rfl, rfl⟩
  case round =>
    obtain ⟨k, hk, rfl, rfl⟩ := hrel
    by_cases hlt : k < m
    · have HB := hid (bitN_succ k (by omega))
      have hb := bitN_lt ((k : Int) + 1)
      rw [HB.out] at hb
      generalize bitN (k : Int) = x at *
      have HX : IntKind.u64.wrap ((x : Int) * 2) = ((x * 2 : Nat) : Int) := by rw [IntKind.wrap_u64]; omega
      have HY := hid HX
      clear HX
      go_wp2
      exact ⟨⟨k + 1, by omega, by go_num, by rw [show ((k + 1 : Nat) : Int) = (k : Int) + 1 from rfl, HB.out]; first | rfl | rw [HY.out]⟩, by simp [intOf]; omega⟩
    · obtain rfl : k = m := by omega
      go_wp2
      go_ret
      exact ⟨rfl, rfl⟩

end Go.Proofs.Ytmfobiimihaiiaa
