/- The document's own set of some numbers: number by number. -/
import Derived.Test.YtmfobiimihaiiaaJb
namespace Go.Proofs.Ytmfobiimihaiiaa
open Go Go.RowKit Go.Lib

/-- A set's numbers below k. -/
def lowN (s k : Nat) : Nat := s % 2 ^ k
theorem lowN_hit {s k : Nat} (hk : k < 64) (h : s.testBit k = true) : lowN s (k + 1) = lowN s k + bitN (k : Int) := by
  rw [Nat.testBit_eq_decide_div_mod_eq, decide_eq_true_eq] at h
  unfold lowN bitN
  rw [Nat.mod_pow_succ, h, if_pos (by omega)]
  simp
theorem lowN_miss {s k : Nat} (h : s.testBit k = false) : lowN s (k + 1) = lowN s k := by
  rw [Nat.testBit_eq_decide_div_mod_eq, decide_eq_false_iff_not] at h
  unfold lowN
  rw [Nat.mod_pow_succ, show s / 2 ^ k % 2 = 0 by omega]
  simp
theorem lowN_all {s : Nat} (h : s < 18446744073709551616) : lowN s 64 = s := Nat.mod_eq_of_lt h
theorem lowN_le (s k : Nat) : lowN s k ≤ s := Nat.mod_le _ _

/-- Is a number among the first j of a list? -/
def inTake (l : List Int) (k j : Nat) : Bool := decide ((k : Int) ∈ l.take j)
theorem inTake_step {l : List Int} {k j : Nat} (hj : j < l.length) : inTake l k (j + 1) = (inTake l k j || (l.getD j 0 == (k : Int))) := by
  unfold inTake
  rw [take_snoc hj, Bool.eq_iff_iff]
  simp
  exact or_congr Iff.rfl eq_comm
theorem inTake_all {l : List Int} {k : Nat} (hk : k < 64) : inTake l k l.length = (ofN l).testBit k := by
  rw [testBit_ofN, inTake, List.take_length]; simp [hk]

set_option maxHeartbeats 1000000 in
theorem ROf_reads {v : Value} {l : List Int} {w : World} (hl : l.length ≤ 9223372036854775807) (h : Reads w v l) :
    Calls Try.prog 38 #[v] w fun e w' => e = .returned (u64 (ofN l)) ∧ w = w' := by
  obtain ⟨A, cap, rfl, hrd⟩ := h
  have HRD := hid hrd
  clear hrd
  have hof := ofN_lt l
  go_enter Try.func38, Try.ntmps38
  go_wp2
  go_loop [3, 4, 5, 6] (fun s n _ _ => ∃ k : Nat, k ≤ 64 ∧ n = .int .i64 (k : Int) ∧ s = u64 (lowN (ofN l) k)) (fun _ n _ _ => 64 - (intOf n).toNat)
  case atStart => exact ⟨0, by omega, rfl, by simp [lowN]⟩
  case round =>
    obtain ⟨k, hk, rfl, rfl⟩ := hrel
    by_cases hlt : k < 64
    · have HA := hid (inTake_all (l := l) hlt)
      go_wp2
      go_loop [5, 6] (fun b i => ∃ j : Nat, j ≤ l.length ∧ i = .int .i64 (j : Int) ∧ b = .bool (inTake l k j)) (fun _ i => l.length - (intOf i).toNat)
      case atStart => exact ⟨0, Nat.zero_le _, rfl, by simp [inTake]⟩
      case round =>
        obtain ⟨j, hj, rfl, rfl⟩ := hrel
        by_cases hjl : j < l.length
        · obtain ⟨b, off, rfl, hc⟩ := HRD.out (fun e => by rw [e] at hjl; simp at hjl)
          have g1 := hc j hjl
          clear hc
          have HS := hid (inTake_step (k := k) hjl)
          generalize hx : l.getD j 0 = x at *
          clear hx
          have hi : (0 : Int) ≤ (j : Int) := by omega
          have hi2 : (j : Int) < (l.length : Int) := by omega
          generalize inTake l k j = B at *
          cases B
          · go_wp2
            exact ⟨⟨j + 1, by omega, by go_num, by rw [HS.out]; rfl⟩, by simp [intOf]; omega⟩
          · go_wp2
            exact ⟨⟨j + 1, by omega, by go_num, by rw [HS.out]; rfl⟩, by simp [intOf]; omega⟩
        · obtain rfl : j = l.length := by omega
          have HA2 := HA.out
          cases hb : (ofN l).testBit k
          · rw [hb] at HA2
            rw [HA2]
            have HU := hid (lowN_miss hb)
            clear hb HA2
            go_wp2
            exact ⟨⟨k + 1, by omega, by go_num, by rw [HU.out]⟩, by simp [intOf]; omega⟩
          · rw [hb] at HA2
            rw [HA2]
            have HU := hid (lowN_hit hlt hb)
            have h2 := lowN_le (ofN l) (k + 1)
            rw [HU.out] at h2
            clear hb HA2
            have kb := hid fun w => RBit_any k hlt w
            generalize lowN (ofN l) k = x at *
            generalize bitN (k : Int) = y at *
            go_wp2_with (go_at_call 56; refine (kb.out _).mono ?_; rintro e w' ⟨rfl, rfl⟩)
            exact ⟨⟨k + 1, by omega, by go_num, by rw [HU.out]; exact congrArg (Value.int .u64) (Int.natCast_add x y).symm⟩, by simp [intOf]; omega⟩
    · obtain rfl : k = 64 := by omega
      go_wp2
      go_ret
      exact ⟨by rw [lowN_all hof]; rfl, rfl⟩

end Go.Proofs.Ytmfobiimihaiiaa
