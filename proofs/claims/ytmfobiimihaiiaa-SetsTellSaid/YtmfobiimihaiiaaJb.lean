/- The document's own answers for sets: its list of a set's numbers, and its set of some numbers. -/
import Derived.OwnWalk
import Derived.Maps.AppendAt
import Derived.Test.YtmfobiimihaiiaaJa
namespace Go.Proofs.Ytmfobiimihaiiaa
open Go Go.RowKit Go.Lib

theorem listed_nil (base : Nat) (W : World) : Listed base [] W (.slice none 0 0) := ⟨World.ownsRow_nil _ _ _ _, by simp⟩
theorem listed_snoc {base k : Nat} {l : List Nat} {W : World} {v : Value} (h : W.ownsRow base 3 1 v (l.length + 1) (nums l ++ [.int .i64 (k : Int)])) : Listed base (l ++ [k]) W v := by
  obtain ⟨g, cap, rfl⟩ := ownsRow_succ h
  exact ⟨by simpa [nums] using h, by simp⟩
theorem below_append {base : Nat} {w wr w1 : World} {v : Value} {l : List Nat} {o : Obj} (hB : Below base w wr) (hb : base ≤ wr.heap.size) (hL : Listed base l wr v) (hg : (wr.alloc o).grownBy w1 v.ownBlock) : Below base w w1 :=
  (hB.alloc hb o).grown hg (by simp; omega) fun k e => (hL.1.lt k e).1

set_option maxHeartbeats 1000000 in
theorem RList_any (a : Nat) (ha : a < 18446744073709551616) (w : World) :
    Calls Try.prog 53 #[u64 a] w fun e W' => ∃ v, e = .returned v ∧ Listed w.heap.size (upto a 64) W' v ∧ Below w.heap.size w W' := by
  obtain ⟨i0, hi, hz0, hz1, hz2⟩ := info_parts info3
  go_enter Try.func53, Try.ntmps53
  go_wp2
  go_loopw [3, 4] (fun v i wr => ∃ k : Nat, k ≤ 64 ∧ i = .int .i64 (k : Int) ∧ Listed w.heap.size (upto a k) wr v ∧ Below w.heap.size w wr) (fun _ i _ => 64 - (intOf i).toNat)
  case atStart => exact ⟨0, by omega, rfl, listed_nil _ _, Below.refl _ _⟩
  case round =>
    obtain ⟨k, hk, rfl, hL, hB⟩ := hrel
    have hlen := upto_length a k
    have hsz := hB.size
    by_cases hlt : k < 64
    · have kh := hid fun w => RHas_any a k ha w
      cases hb : a.testBit k
      · rw [show hasN a (k : Int) = false by rw [hasN_shr a k hlt, ← testBit_shr, hb]] at kh
        have HU := hid (upto_miss hb)
        clear hb
        go_wp2_with (go_at_call 58; refine (kh.out _).mono ?_; rintro e w' ⟨rfl, rfl⟩)
        exact ⟨⟨k + 1, by omega, by go_num, by rw [HU.out]; exact hL, hB⟩, by simp [intOf]; omega⟩
      · rw [show hasN a (k : Int) = true by rw [hasN_shr a k hlt, ← testBit_shr, hb]] at kh
        have HU := hid (upto_hit hb)
        clear hb
        generalize hl : upto a k = l at *
        clear hl
        have hrow := hL.1
        go_wp2_with (first | (go_at_call 58; refine (kh.out _).mono ?_; rintro e w' ⟨rfl, rfl⟩) | (at_builtin; go_must (refine wpList_append_own _ rfl _ _ 64 rfl w.heap.size 3 i0 (.int .i64 0) 1 8 Try.underlying64 hi hz0 hz1 hz2 rfl (by decide) _ _ _ rfl (hrow.alloc _) ⟨wr.heap.size, 0, none⟩ 1 1 [.int .i64 (k : Int)] rfl rfl (cell_one_new _ _ _) (by simp [Value.oneCell']) (by unfold maxLen; omega) (by omega) (by simp; omega) ?_); intro v' w1 hown' hgrow _))
        exact ⟨⟨k + 1, by omega, by go_num, by rw [HU.out]; exact listed_snoc hown', below_append hB hsz hL hgrow⟩, by simp [intOf]; omega⟩
    · obtain rfl : k = 64 := by omega
      go_wp2
      go_ret
      exact ⟨_, rfl, hL, hB⟩

end Go.Proofs.Ytmfobiimihaiiaa
