/- The document's own answers for what is in both sets, in the first one alone, and in one of both. -/
import Derived.Test.YtlkplncfiohlcaaRc
namespace Go.Proofs.Ytlkplncfiohlcaa
open Go Go.RowKit Go.Shelf Go.Lib

theorem ROf_listed {base s : Nat} {v : Value} {W : World} (hs : s < 18446744073709551616) (h : Listed base (upto s 64) W v) :
    Calls Try.prog 17 #[v] W fun e w' => e = .returned (u64 s) ∧ W = w' := by
  have hl := upto_length s 64
  have := ROf_reads (by simp [ints]; omega) h.reads
  rwa [show ofN (ints (upto s 64)) = s from ofN_upto hs] at this

set_option maxHeartbeats 1000000 in
theorem RMeet_any (a b : Nat) (ha : a < 18446744073709551616) (hb : b < 18446744073709551616) (w : World) :
    Calls Try.prog 27 #[u64 a, u64 b] w fun e W' => e = .returned (u64 (a &&& b)) ∧ Below w.heap.size w W' := by
  obtain ⟨i0, hi, hz0, hz1, hz2⟩ := info_parts info3
  have hs : a &&& b < 18446744073709551616 := and_lt ha b
  have tb : ∀ k, (a &&& b).testBit k = (a.testBit k && b.testBit k) := fun k => by rw [Nat.testBit_and]
  generalize a &&& b = S at *
  have TB := hid tb
  clear tb
  go_enter Try.func27, Try.ntmps27
  go_wp2
  go_loopw [5, 6] (fun v i wr => ∃ k : Nat, k ≤ 64 ∧ i = .int .i64 (k : Int) ∧ Listed w.heap.size (upto S k) wr v ∧ Below w.heap.size w wr) (fun _ i _ => 64 - (intOf i).toNat)
  case atStart => exact ⟨0, by omega, rfl, listed_nil _ _, Below.refl _ _⟩
  case round =>
    obtain ⟨k, hk, rfl, hL, hB⟩ := hrel
    have hlen := upto_length S k
    have hsz := hB.size
    by_cases hlt : k < 64
    · have kha := hid fun w => RHas_any a k ha w
      have khb := hid fun w => RHas_any b k hb w
      have ta := TB.out k
      rw [hasN_shr a k hlt, ← testBit_shr] at kha
      rw [hasN_shr b k hlt, ← testBit_shr] at khb
      generalize a.testBit k = x at *
      generalize b.testBit k = y at *
      clear TB
      rcases (by cases x <;> cases y <;> simp : (x = false) ∨ (x = true ∧ y = false) ∨ (x = true ∧ y = true)) with rfl | ⟨rfl, rfl⟩ | ⟨rfl, rfl⟩
      · have HU := hid (upto_miss (by simpa using ta))
        clear ta
        go_wp2_with (go_at_call 21; first | ((with_reducible refine (kha.out _).mono ?_); rintro e w' ⟨rfl, rfl⟩) | ((with_reducible refine (khb.out _).mono ?_); rintro e w' ⟨rfl, rfl⟩))
        exact ⟨⟨k + 1, by omega, by go_num, by rw [HU.out]; exact hL, hB⟩, by simp [intOf]; omega⟩
      · have HU := hid (upto_miss (by simpa using ta))
        clear ta
        go_wp2_with (go_at_call 21; first | ((with_reducible refine (kha.out _).mono ?_); rintro e w' ⟨rfl, rfl⟩) | ((with_reducible refine (khb.out _).mono ?_); rintro e w' ⟨rfl, rfl⟩))
        exact ⟨⟨k + 1, by omega, by go_num, by rw [HU.out]; exact hL, hB⟩, by simp [intOf]; omega⟩
      · have HU := hid (upto_hit (by simpa using ta))
        clear ta
        generalize upto S k = l at *
        have hrow := hL.1
        go_wp2_with (first | (go_at_call 21; first | ((with_reducible refine (kha.out _).mono ?_); rintro e w' ⟨rfl, rfl⟩) | ((with_reducible refine (khb.out _).mono ?_); rintro e w' ⟨rfl, rfl⟩)) | (at_builtin; go_must (refine wpList_append_own _ rfl _ _ 24 rfl w.heap.size 3 i0 (.int .i64 0) 1 8 Try.underlying24 hi hz0 hz1 hz2 rfl (by decide) _ _ _ rfl (hrow.alloc _) ⟨wr.heap.size, 0, none⟩ 1 1 [.int .i64 (k : Int)] rfl rfl (cell_one_new _ _ _) (by simp [Value.oneCell']) (by unfold maxLen; omega) (by omega) (by simp; omega) ?_); intro v' w1 hown' hgrow _))
        exact ⟨⟨k + 1, by omega, by go_num, by rw [HU.out]; exact listed_snoc hown', below_append hB hsz hL hgrow⟩, by simp [intOf]; omega⟩
    · obtain rfl : k = 64 := by omega
      go_wp2_with (go_at_call 17; refine (ROf_listed hs hL).mono ?_; rintro e w' ⟨rfl, rfl⟩)
      go_ret
      exact ⟨rfl, hB⟩

set_option maxHeartbeats 1000000 in
theorem RLess_any (a b : Nat) (ha : a < 18446744073709551616) (hb : b < 18446744073709551616) (w : World) :
    Calls Try.prog 29 #[u64 a, u64 b] w fun e W' => e = .returned (u64 (lessN a b)) ∧ Below w.heap.size w W' := by
  obtain ⟨i0, hi, hz0, hz1, hz2⟩ := info_parts info3
  have hs : lessN a b < 18446744073709551616 := lessN_lt ha b
  have tb : ∀ k, (lessN a b).testBit k = (a.testBit k && !b.testBit k) := fun k => by rw [testBit_lessN]
  generalize lessN a b = S at *
  have TB := hid tb
  clear tb
  go_enter Try.func29, Try.ntmps29
  go_wp2
  go_loopw [5, 6] (fun v i wr => ∃ k : Nat, k ≤ 64 ∧ i = .int .i64 (k : Int) ∧ Listed w.heap.size (upto S k) wr v ∧ Below w.heap.size w wr) (fun _ i _ => 64 - (intOf i).toNat)
  case atStart => exact ⟨0, by omega, rfl, listed_nil _ _, Below.refl _ _⟩
  case round =>
    obtain ⟨k, hk, rfl, hL, hB⟩ := hrel
    have hlen := upto_length S k
    have hsz := hB.size
    by_cases hlt : k < 64
    · have kha := hid fun w => RHas_any a k ha w
      have khb := hid fun w => RHas_any b k hb w
      have ta := TB.out k
      rw [hasN_shr a k hlt, ← testBit_shr] at kha
      rw [hasN_shr b k hlt, ← testBit_shr] at khb
      generalize a.testBit k = x at *
      generalize b.testBit k = y at *
      clear TB
      rcases (by cases x <;> cases y <;> simp : (x = false) ∨ (x = true ∧ y = false) ∨ (x = true ∧ y = true)) with rfl | ⟨rfl, rfl⟩ | ⟨rfl, rfl⟩
      · have HU := hid (upto_miss (by simpa using ta))
        clear ta
        go_wp2_with (go_at_call 21; first | ((with_reducible refine (kha.out _).mono ?_); rintro e w' ⟨rfl, rfl⟩) | ((with_reducible refine (khb.out _).mono ?_); rintro e w' ⟨rfl, rfl⟩))
        exact ⟨⟨k + 1, by omega, by go_num, by rw [HU.out]; exact hL, hB⟩, by simp [intOf]; omega⟩
      · have HU := hid (upto_hit (by simpa using ta))
        clear ta
        generalize upto S k = l at *
        have hrow := hL.1
        go_wp2_with (first | (go_at_call 21; first | ((with_reducible refine (kha.out _).mono ?_); rintro e w' ⟨rfl, rfl⟩) | ((with_reducible refine (khb.out _).mono ?_); rintro e w' ⟨rfl, rfl⟩)) | (at_builtin; go_must (refine wpList_append_own _ rfl _ _ 24 rfl w.heap.size 3 i0 (.int .i64 0) 1 8 Try.underlying24 hi hz0 hz1 hz2 rfl (by decide) _ _ _ rfl (hrow.alloc _) ⟨wr.heap.size, 0, none⟩ 1 1 [.int .i64 (k : Int)] rfl rfl (cell_one_new _ _ _) (by simp [Value.oneCell']) (by unfold maxLen; omega) (by omega) (by simp; omega) ?_); intro v' w1 hown' hgrow _))
        exact ⟨⟨k + 1, by omega, by go_num, by rw [HU.out]; exact listed_snoc hown', below_append hB hsz hL hgrow⟩, by simp [intOf]; omega⟩
      · have HU := hid (upto_miss (by simpa using ta))
        clear ta
        go_wp2_with (go_at_call 21; first | ((with_reducible refine (kha.out _).mono ?_); rintro e w' ⟨rfl, rfl⟩) | ((with_reducible refine (khb.out _).mono ?_); rintro e w' ⟨rfl, rfl⟩))
        exact ⟨⟨k + 1, by omega, by go_num, by rw [HU.out]; exact hL, hB⟩, by simp [intOf]; omega⟩
    · obtain rfl : k = 64 := by omega
      go_wp2_with (go_at_call 17; refine (ROf_listed hs hL).mono ?_; rintro e w' ⟨rfl, rfl⟩)
      go_ret
      exact ⟨rfl, hB⟩

end Go.Proofs.Ytlkplncfiohlcaa
