/- regex's reader, byte by byte: peek, fail, take, passed. -/
import Derived.Test.YtochckefnjobhaaDoorProg
import Derived.WalkKit
import Derived.WalkLawsBesides
import Derived.Lib.Hide
import Derived.WalkSmall
import Derived.Outline
import Derived.Deep.QuietTactic
import Derived.BigQuiet
namespace Go.Proofs.YtochckefnjobhaaDoor
open Go Go.RowKit Go.Lib
set_option linter.unusedVariables false

/-- A reader at byte i of a text. -/
abbrev Rd (b : Nat) (s : ByteArray) (i : Nat) (w : World) : Prop := w.heap[b]? = some (.cells #[.string s, .int .i64 i] 96 (0, 0))

theorem below_drewN {B : Nat} {w w' : World} (h : Below B w w') (n : Nat) : Below B w (w'.drewN n) := by
  induction n with
  | zero => exact h
  | succ n ih => exact ih.drew

theorem fail_any (b : Nat) (n : Int) (w : World) :
    Calls Tryd.prog 63 #[.pointer (some ⟨b, 0, none⟩), .int .i64 n] w fun e w' => e = .panicked [{ v := .iface 118 (.agg #[.int .i64 n]), recovered := false }] ∧ w' = w := by
  go_enter Tryd.func63, Tryd.ntmps63
  go_wp2
  exact ⟨rfl, rfl, rfl⟩

theorem peek_mid (b : Nat) (s : ByteArray) (i : Nat) (w : World) (h : Rd b s i w) (hs : s.size ≤ maxLen) (hi : i < s.size) :
    Calls Tryd.prog 86 #[.pointer (some ⟨b, 0, none⟩)] w fun e w' => e = .returned (.tuple #[.int .u8 (s[i]'hi).toNat, .bool true]) ∧ (Below w.heap.size w w' ∧ w'.heap = w.heap) := by
  have c0 : w.cell? ⟨b, 0, none⟩ = some (.string s) := by rw [Lib.cell_of_heap h]; rfl
  have c1 : w.cell? ⟨b, 1, none⟩ = some (.int .i64 i) := by rw [Lib.cell_of_heap h]; rfl
  have hne : ((i : Int) == (s.size : Int)) = false := by simp; omega
  unfold maxLen at hs
  go_enter Tryd.func86, Tryd.ntmps86
  go_wp2_with fail
  go_quiet (fail)
  go_wp2_with fail
  have c0' : (w.drewN nq).cell? ⟨b, 0, none⟩ = some (.string s) := c0
  have c1' : (w.drewN nq).cell? ⟨b, 1, none⟩ = some (.int .i64 i) := c1
  go_quiet (fail)
  go_wp2_with fail
  go_ret2
  exact ⟨rfl, below_drewN (below_drewN (Below.refl _ _) _) _, rfl⟩

theorem peek_end (b : Nat) (s : ByteArray) (w : World) (h : Rd b s s.size w) (hs : s.size ≤ maxLen) :
    Calls Tryd.prog 86 #[.pointer (some ⟨b, 0, none⟩)] w fun e w' => e = .returned (.tuple #[.int .u8 0, .bool false]) ∧ (Below w.heap.size w w' ∧ w'.heap = w.heap) := by
  have c0 : w.cell? ⟨b, 0, none⟩ = some (.string s) := by rw [Lib.cell_of_heap h]; rfl
  have c1 : w.cell? ⟨b, 1, none⟩ = some (.int .i64 s.size) := by rw [Lib.cell_of_heap h]; rfl
  unfold maxLen at hs
  go_enter Tryd.func86, Tryd.ntmps86
  go_wp2_with fail
  go_quiet (fail)
  go_wp2_with fail
  go_ret2
  exact ⟨rfl, below_drewN (Below.refl _ _) _, rfl⟩

end Go.Proofs.YtochckefnjobhaaDoor
