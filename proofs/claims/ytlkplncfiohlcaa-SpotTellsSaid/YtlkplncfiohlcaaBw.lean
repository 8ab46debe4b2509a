/- The document's example of package bits holds. -/
import Derived.Test.YtlkplncfiohlcaaBi
namespace Go.Proofs.Ytlkplncfiohlcaa
open Go Go.RowKit Go.Shelf Go.Lib

theorem wk_of (w : World) : Calls Try.prog 16 #[.slice (some ⟨w.heap.size, 0, none⟩) 3 3] (w.alloc (.cells #[.int .i64 3, .int .i64 1, .int .i64 64] 3)) fun e w' => e = .returned (.int .u64 10) ∧ w.alloc (.cells #[.int .i64 3, .int .i64 1, .int .i64 64] 3) = w' := by
  have := Of_some w.heap.size 0 3 [3, 1, 64] (w.alloc (.cells #[.int .i64 3, .int .i64 1, .int .i64 64] 3)) (by decide) (fun i hi => by
    match i, hi with
    | 0, _ => simp
    | 1, _ => simp
    | 2, _ => simp)
  rw [show ofN [3, 1, 64] = 10 from by decide] at this
  exact this
theorem wk_list (w : World) : Calls Try.prog 19 #[.int .u64 10] w fun e w' => ∃ g cap, e = .returned (.slice (some ⟨g, 0, none⟩) 2 cap) ∧ w'.cell? ⟨g, 0, none⟩ = some (.int .i64 1) ∧ w'.cell? ⟨g, 1, none⟩ = some (.int .i64 3) ∧ Below w.heap.size w w' := by
  refine (List_any 10 (by decide) w).mono ?_
  rintro e W' ⟨v, rfl, ⟨ho, hn⟩, hB⟩
  rw [show upto 10 64 = [1, 3] from by decide] at ho hn
  obtain ⟨g, cap, rfl⟩ := ownsRow_succ ho
  exact ⟨g, cap, rfl, ho.cellAt 0 (by decide), ho.cellAt 1 (by decide), hB⟩
theorem wk_has3 (w : World) : Calls Try.prog 20 #[.int .u64 10, .int .i64 3] w fun e w' => e = .returned (.bool true) ∧ w = w' := by
  have := Has_any 10 3 (by decide) w; rw [show hasN 10 3 = true from by decide] at this; exact this
theorem wk_has64 (w : World) : Calls Try.prog 20 #[.int .u64 10, .int .i64 64] w fun e w' => e = .returned (.bool false) ∧ w = w' := by
  have := Has_any 10 64 (by decide) w; rw [show hasN 10 64 = false from by decide] at this; exact this
theorem wk_count (w : World) : Calls Try.prog 22 #[.int .u64 10] w fun e w' => e = .returned (.int .i64 2) ∧ Below w.heap.size w w' := by
  have := Count_any 10 (by decide) w; rw [show upto 10 64 = [1, 3] from by decide] at this; exact this
theorem wk_first (w : World) : Calls Try.prog 23 #[.int .u64 10] w fun e w' => e = .returned (.int .i64 1) ∧ Below w.heap.size w w' := by
  have := First_any 10 (by decide) w; rw [show upto 10 64 = [1, 3] from by decide] at this; exact this
theorem wk_with (w : World) : Calls Try.prog 31 #[.int .u64 10, .int .i64 0] w fun e w' => e = .returned (.int .u64 11) ∧ w = w' := by
  have := With_any 10 0 (by decide) w; rw [show 10 ||| bitN 0 = 11 from by decide] at this; exact this
theorem wk_without (w : World) : Calls Try.prog 32 #[.int .u64 10, .int .i64 1] w fun e w' => e = .returned (.int .u64 8) ∧ w = w' := by
  have := Without_any 10 1 (by decide) w; rw [show lessN 10 (bitN 1) = 8 from by decide] at this; exact this
theorem wk_union (w : World) : Calls Try.prog 24 #[.int .u64 10, .int .u64 4] w fun e w' => e = .returned (.int .u64 14) ∧ w = w' := by
  have := Union_any 10 4 (by decide) (by decide) w; rw [show 10 ||| 4 = 14 from by decide] at this; exact this
theorem wk_meet (w : World) : Calls Try.prog 26 #[.int .u64 10, .int .u64 6] w fun e w' => e = .returned (.int .u64 2) ∧ w = w' := by
  have := Meet_any 10 6 (by decide) (by decide) w; rw [show 10 &&& 6 = 2 from by decide] at this; exact this
theorem wk_less (w : World) : Calls Try.prog 28 #[.int .u64 10, .int .u64 6] w fun e w' => e = .returned (.int .u64 8) ∧ w = w' := by
  have := Less_any 10 6 (by decide) (by decide) w; rw [show lessN 10 6 = 8 from by decide] at this; exact this
theorem wk_in (w : World) : Calls Try.prog 30 #[.int .u64 8, .int .u64 10] w fun e w' => e = .returned (.bool true) ∧ w = w' := by
  have := In_any 8 10 (by decide) (by decide) w; rw [show inN 8 10 = true from by decide] at this; exact this

set_option maxRecDepth 100000 in
set_option maxHeartbeats 1000000 in
theorem works_any (w : World) : Calls Try.prog 14 #[] w fun e w' => e = .returned (.bool true) ∧ Below w.heap.size w w' := by
  go_enter Try.func14, Try.ntmps14
  go_wp2_with fail
  refine (wk_of w).mono ?_
  rintro e w' ⟨rfl, rfl⟩
  go_wp2_with fail
  refine (wk_list _).mono ?_
  rintro e w1 ⟨g, cap, rfl, hc0, hc1, hB1⟩
  have hB : Below w.heap.size w w1 := ((Below.refl _ w).alloc (Nat.le_refl _) _).trans (hB1.mono (by simp))
  clear hB1
  go_wp2_with fail
  refine (wk_has3 _).mono ?_
  rintro e w' ⟨rfl, rfl⟩
  go_wp2_with fail
  refine (wk_has64 _).mono ?_
  rintro e w' ⟨rfl, rfl⟩
  clear hc0 hc1
  go_wp2_with fail
  refine (wk_count _).mono ?_
  rintro e w2 ⟨rfl, hB2⟩
  replace hB := hB.trans (hB2.mono hB.size)
  clear hB2
  go_wp2_with fail
  refine (wk_first _).mono ?_
  rintro e w3 ⟨rfl, hB2⟩
  replace hB := hB.trans (hB2.mono hB.size)
  clear hB2
  go_wp2_with (first | (go_at_call 31; refine (wk_with _).mono ?_; rintro e w' ⟨rfl, rfl⟩) | (go_at_call 32; refine (wk_without _).mono ?_; rintro e w' ⟨rfl, rfl⟩) | (go_at_call 24; refine (wk_union _).mono ?_; rintro e w' ⟨rfl, rfl⟩) | (go_at_call 26; refine (wk_meet _).mono ?_; rintro e w' ⟨rfl, rfl⟩) | (go_at_call 28; refine (wk_less _).mono ?_; rintro e w' ⟨rfl, rfl⟩) | (go_at_call 30; refine (wk_in _).mono ?_; rintro e w' ⟨rfl, rfl⟩))
  go_ret
  exact ⟨rfl, hB⟩

end Go.Proofs.Ytlkplncfiohlcaa
