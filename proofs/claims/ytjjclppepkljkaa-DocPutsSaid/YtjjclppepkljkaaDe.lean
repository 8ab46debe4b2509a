/- The walk of the law DocPuts of package doc. -/
import Derived.Test.YtjjclppepkljkaaDd
namespace Go.Proofs.Ytjjclppepkljkaa
open Go Go.RowKit Go.Lib

set_option maxRecDepth 100000 in
set_option maxHeartbeats 2000000 in
theorem puts_walk (t s : ByteArray) (a b : Int) (w : World) : Calls Try.prog 3 #[.string t, .int .i64 a, .int .i64 b, .string s] w fun e w' => e = .returned (.bool true) ∧ Below w.heap.size w w' := by
  have hcs : (40 < (t.size : Int)) ∨ ((t.size : Int) ≤ 40 ∧ 40 < (s.size : Int) ∧ (s.size : Int) < 20000) ∨ ((t.size : Int) ≤ 40 ∧ 20000 ≤ (s.size : Int) ∧ 30000 < (s.size : Int)) ∨
      ((t.size : Int) ≤ 40 ∧ (s.size : Int) ≤ 40) ∨ ((t.size : Int) ≤ 40 ∧ 20000 ≤ (s.size : Int) ∧ (s.size : Int) ≤ 30000) := by omega
  have H : Hid ((t.size : Int) ≤ 40 → (s.size : Int) ≤ 30000 → ∃ r : Value, (∀ w, Calls Try.prog 6 #[.string t, .int .i64 a, .int .i64 b, .string s] w fun e w' => e = .returned r ∧ ∃ n, w' = w.drewN n) ∧
      (∀ w, Calls Try.prog 7 #[.string t, .int .i64 a, .int .i64 b, .string s] w fun e w' => e = .returned r ∧ w = w') ∧ ∃ (x : ByteArray) (e : Int), r = .tuple #[.string x, .int .i64 e]) := by
    intro h1 h2
    by_cases hb : a < 0 ∨ b < a ∨ (t.size : Int) < b
    · exact ⟨_, fun w => Put_bad t s a b w hb, fun w => RPut_bad t s a b w hb, _, _, rfl⟩
    · obtain ⟨a, rfl⟩ : ∃ n : Nat, a = n := ⟨a.toNat, by omega⟩
      obtain ⟨b, rfl⟩ : ∃ n : Nat, b = n := ⟨b.toNat, by omega⟩
      by_cases hm : 20000 < (t.size : Int) - ((b : Int) - a) + (s.size : Int)
      · exact ⟨_, fun w => Put_many t s a b w (by omega) (by omega) (by omega) (by omega) (by omega) hm, fun w => RPut_many t s a b w (by omega) (by omega) (by omega) (by omega) (by omega) hm, _, _, rfl⟩
      · exact ⟨_, fun w => Put_ok t s a b w (by omega) (by omega) (by omega) (by omega) (by omega), fun w => RPut_ok t s a b w (by omega) (by omega) (by omega) (by omega) (by omega), _, _, rfl⟩
  rcases hcs with h | ⟨h1, h2, h3⟩ | ⟨h1, h2, h3⟩ | ⟨h1, h2⟩ | ⟨h1, h2, h3⟩
  iterate 3
    · go_enter Try.func3, Try.ntmps3
      go_wp2_with fail
      refine (works_any w).mono ?_
      rintro e w1 ⟨rfl, hB⟩
      go_wp2
      go_ret
      exact ⟨rfl, hB⟩
  all_goals
    obtain ⟨r, k1, k2, x, er, rfl⟩ := H.out h1 (by omega)
    have K1 := hid k1
    have K2 := hid k2
    clear k1 k2 H
    go_enter Try.func3, Try.ntmps3
    go_wp2_with fail
    refine (works_any w).mono ?_
    rintro e w1 ⟨rfl, hB⟩
    go_wp2_with fail
    refine (K1.out _).mono ?_
    rintro e w' ⟨rfl, n1, rfl⟩
    go_wp2_with fail
    refine (K2.out _).mono ?_
    rintro e w' ⟨rfl, rfl⟩
    go_wp2
    go_ret
    exact ⟨rfl, below_drewN hB n1⟩

end Go.Proofs.Ytjjclppepkljkaa
