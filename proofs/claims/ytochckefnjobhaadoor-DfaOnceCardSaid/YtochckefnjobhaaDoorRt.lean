/- regex.Parse. -/
import Derived.Test.YtochckefnjobhaaDoorRs
namespace Go.Proofs.YtochckefnjobhaaDoor
open Go Go.RowKit Go.Lib
set_option linter.unusedVariables false
set_option linter.unusedSimpArgs false

/-- What Parse hands back. -/
def ParseP (w : World) (r : Nat ⊕ X3.RX) (e : Ending) (w' : World) : Prop :=
  match r with
  | .inl c => e = .returned (.tuple #[nodeV 0 0 0 0 0 noKids, .int .i64 c]) ∧ Below w.heap.size w w'
  | .inr r => ∃ v, e = .returned (.tuple #[v, .int .i64 0]) ∧ Rep w.heap.size w' r v ∧ Below w.heap.size w w'

theorem parse_whole {s : List UInt8} (h : s.length ≤ 200) : X3.parseX s = match wholeX s with | .err c => .inl c | .ok r _ => .inr r := by
  unfold X3.parseX wholeX
  rw [if_neg (by omega)]
  cases X3.waysX s (s.length + 1) 0 with
  | err c => rfl
  | ok r i =>
    show (if i < s.length then (Sum.inl 5 : Nat ⊕ X3.RX) else if 500 < r.size then Sum.inl 4 else Sum.inr r) = match (if i < s.length then X3.PR.err 5 else X3.sizedX r i) with | .err c => (Sum.inl c : Nat ⊕ X3.RX) | .ok r _ => Sum.inr r
    unfold X3.sizedX
    by_cases h1 : i < s.length
    · rw [if_pos h1, if_pos h1]
    · rw [if_neg h1, if_neg h1]
      by_cases h2 : 500 < r.size
      · rw [if_pos h2, if_pos h2]
      · rw [if_neg h2, if_neg h2]

set_option maxRecDepth 100000 in
set_option maxHeartbeats 4000000 in
theorem parse_any (s : ByteArray) (w : World) (hm : s.size ≤ maxLen) : Calls Tryd.prog 23 #[.string s] w (ParseP w (X3.parseX (LL s))) := by
  have hll : (LL s).length = s.size := rfl
  unfold maxLen at hm
  obtain ⟨w0, e0⟩ : ∃ w0, w.alloc (.cells zero6 38) = w0 := ⟨_, rfl⟩
  have hb0 : Below w.heap.size w w0 := by rw [← e0]; exact (Below.refl _ _).alloc (Nat.le_refl _) _
  have hz0 : w0.heap[w.heap.size]? = some (.cells zero6 38 (0, 0)) := by rw [← e0]; exact new_block _ _
  have hs0 : w0.heap.size = w.heap.size + 1 := by rw [← e0]; simp
  unfold zero6 at e0 hz0
  by_cases hlt : 200 < s.size
  · have hX : X3.parseX (LL s) = .inl 4 := by unfold X3.parseX; rw [if_pos (by rw [hll]; exact hlt)]
    rw [hX]
    have h1 : (200 : Int) < (s.size : Int) := by omega
    obtain ⟨n0, n1, n2, n3, n4, n5⟩ := cells6 hz0
    obtain ⟨f0, f1, f2, f3, f4, f5⟩ := frozen6 hz0
    obtain ⟨w8, e8, hz8, hg8, hs8⟩ := six hz0 (.int .i64 0) (.int .u64 0) (.int .u64 0) (.int .u64 0) (.int .u64 0) (.slice none 0 0)
    go_enter Tryd.func23, Tryd.ntmps23
    go_wp2_with fail
    obtain ⟨y0, y1, y2, y3, y4, y5⟩ := cells6 hz8
    exact bodyPost_ret (v := .tuple #[nodeV 0 0 0 0 0 noKids, .int .i64 4]) (by simp [results, Tryd.results23, go_sem, y0, y1, y2, y3, y4, y5]) rfl ⟨rfl, below_fresh hb0 (by omega) (Nat.le_refl _) hg8⟩
  · have h1 : ¬ (200 : Int) < (s.size : Int) := by omega
    obtain ⟨w1, e1⟩ : ∃ w1, w0.alloc (.cells #[.string s, .int .i64 0] 96) = w1 := ⟨_, rfl⟩
    have hb1 : Below w0.heap.size w0 w1 := by rw [← e1]; exact (Below.refl _ _).alloc (Nat.le_refl _) _
    have hr1 : Rd (w.heap.size + 1) s 0 w1 := by rw [← e1, ← hs0]; exact new_block _ _
    have hs1 : w1.heap.size = w.heap.size + 1 + 1 := by rw [← e1]; simp [hs0]
    have hz1 := (hb1.block w.heap.size (by omega)).trans hz0
    have KW := hid (whole_any (w.heap.size + 1) s w1 hr1 (by omega))
    rw [parse_whole (by rw [hll]; omega)]
    have hB1 : Below w.heap.size w w1 := hb0.trans (hb1.mono (by omega))
    cases hW : wholeX (LL s) with
    | err c =>
      rw [hW] at KW
      go_enter Tryd.func23, Tryd.ntmps23
      go_wp2_with fail
      refine KW.out.mono ?_
      rintro e w2 ⟨rfl, hg2⟩
      have hz2 := (hg2.block w.heap.size (by omega) (fun e => by have := Option.some.inj e; omega)).trans hz1
      have hs2 := hg2.size
      obtain ⟨n0, n1, n2, n3, n4, n5⟩ := cells6 hz2
      obtain ⟨f0, f1, f2, f3, f4, f5⟩ := frozen6 hz2
      obtain ⟨w8, e8, hz8, hg8, hs8⟩ := six hz2 (.int .i64 0) (.int .u64 0) (.int .u64 0) (.int .u64 0) (.int .u64 0) (.slice none 0 0)
      go_wp2_with fail
      obtain ⟨y0, y1, y2, y3, y4, y5⟩ := cells6 hz8
      exact bodyPost_ret (v := .tuple #[nodeV 0 0 0 0 0 noKids, .int .i64 c]) (by simp [results, Tryd.results23, go_sem, y0, y1, y2, y3, y4, y5]) rfl ⟨rfl, below_fresh (below_fresh hB1 (by omega) (by omega) hg2) (by omega) (Nat.le_refl _) hg8⟩
    | ok r j =>
      rw [hW] at KW
      go_enter Tryd.func23, Tryd.ntmps23
      go_wp2_with fail
      refine KW.out.mono ?_
      rintro e w2 ⟨v, rfl, hR, hg2⟩
      obtain ⟨ka, kx, ky, kz, ku, ko, kn, kc, rfl⟩ := hR.shape
      have hz2 := (hg2.block w.heap.size (by omega) (fun e => by have := Option.some.inj e; omega)).trans hz1
      have hs2 := hg2.size
      obtain ⟨n0, n1, n2, n3, n4, n5⟩ := cells6 hz2
      obtain ⟨f0, f1, f2, f3, f4, f5⟩ := frozen6 hz2
      obtain ⟨w8, e8, hz8, hg8, hs8⟩ := six hz2 (.int .i64 ka) (.int .u64 kx) (.int .u64 ky) (.int .u64 kz) (.int .u64 ku) (.slice ko kn kc)
      have HR8 := hid (hR.kept (keep_gr (b := w.heap.size) (by omega) hg8))
      clear hR
      go_wp2_with fail
      obtain ⟨y0, y1, y2, y3, y4, y5⟩ := cells6 hz8
      exact bodyPost_ret (v := .tuple #[nodeV ka kx ky kz ku (.slice ko kn kc), .int .i64 0]) (by simp [results, Tryd.results23, go_sem, y0, y1, y2, y3, y4, y5]) rfl ⟨_, rfl, HR8.out.mono (by omega), below_fresh (below_fresh hB1 (by omega) (by omega) hg2) (by omega) (Nat.le_refl _) hg8⟩

end Go.Proofs.YtochckefnjobhaaDoor
