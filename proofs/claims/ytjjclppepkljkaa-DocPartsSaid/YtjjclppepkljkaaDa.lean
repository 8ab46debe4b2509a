/- doc.Put and the document's own Put, at every text and place. -/
import Derived.WalkKit
import Derived.Lib.Hide
import Derived.Deep.QuietTactic
import Derived.BigQuiet
import Derived.WalkSmall
import Derived.Outline
import Derived.Test.YtjjclppepkljkaaProg
namespace Go.Proofs.Ytjjclppepkljkaa
open Go Go.RowKit Go.Lib

abbrev noText : Value := .string { data := #[] }

theorem Put_bad (t s : ByteArray) (a b : Int) (w : World) (h : a < 0 ∨ b < a ∨ (t.size : Int) < b) :
    Calls Try.prog 6 #[.string t, .int .i64 a, .int .i64 b, .string s] w fun e w' => e = .returned (.tuple #[noText, .int .i64 1]) ∧ ∃ n, w' = w.drewN n := by
  have hc : a < 0 ∨ (0 ≤ a ∧ b < a) ∨ (0 ≤ a ∧ a ≤ b ∧ (t.size : Int) < b) := by omega
  clear h
  rcases hc with h | ⟨h1, h2⟩ | ⟨h1, h2, h3⟩
  all_goals
    go_enter Try.func6, Try.ntmps6
    go_wp2
    go_ret2
    exact ⟨rfl, 0, rfl⟩

theorem Put_many (t s : ByteArray) (a b : Int) (w : World) (h1 : 0 ≤ a) (h2 : a ≤ b) (h3 : b ≤ (t.size : Int)) (ht : (t.size : Int) ≤ 1000000) (hs : (s.size : Int) ≤ 1000000) (h : 20000 < (t.size : Int) - (b - a) + (s.size : Int)) :
    Calls Try.prog 6 #[.string t, .int .i64 a, .int .i64 b, .string s] w fun e w' => e = .returned (.tuple #[noText, .int .i64 4]) ∧ ∃ n, w' = w.drewN n := by
  go_enter Try.func6, Try.ntmps6
  go_wp2
  go_ret2
  exact ⟨rfl, 0, rfl⟩

theorem Put_ok (t s : ByteArray) (a b : Nat) (w : World) (h2 : (a : Int) ≤ b) (h3 : (b : Int) ≤ (t.size : Int)) (ht : (t.size : Int) ≤ 1000000) (hs : (s.size : Int) ≤ 1000000) (h : (t.size : Int) - ((b : Int) - a) + (s.size : Int) ≤ 20000) :
    Calls Try.prog 6 #[.string t, .int .i64 (a : Int), .int .i64 (b : Int), .string s] w fun e w' => e = .returned (.tuple #[.string (t.extract 0 a ++ s ++ t.extract b t.size), .int .i64 0]) ∧ ∃ n, w' = w.drewN n := by
  have i1 : (0 : Int) ≤ (a : Int) := by omega
  have i2 : (a : Int) ≤ (t.size : Int) := by omega
  have i3 : (0 : Int) ≤ (b : Int) := by omega
  go_enter Try.func6, Try.ntmps6
  go_wp2
  go_quiet (fail)
  go_wp2
  go_ret2

  exact ⟨rfl, _, rfl⟩

end Go.Proofs.Ytjjclppepkljkaa
