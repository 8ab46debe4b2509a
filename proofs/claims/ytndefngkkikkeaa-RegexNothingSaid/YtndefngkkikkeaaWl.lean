/- Parse, Match, Show on any text: one form for a tree and for an error. -/
import Derived.Test.YtndefngkkikkeaaWk
import Derived.Test.YtndefngkkikkeaaXm
import Derived.Test.YtndefngkkikkeaaXj
set_option linter.unusedVariables false
set_option linter.unusedSimpArgs false
namespace Go.Proofs.X3
def errOf : Nat ⊕ RX → Nat
  | .inl c => c
  | .inr _ => 0
def treeOf : Nat ⊕ RX → RX
  | .inl _ => .empty
  | .inr r => r
theorem tree_size (s : List UInt8) : (treeOf (parseX s)).size ≤ 500 := by
  cases h : parseX s with
  | inl c => exact (by decide : RX.size .empty ≤ 500)
  | inr r => exact (parse_good h).2
theorem tree_good (s : List UInt8) : good (treeOf (parseX s)) := by
  cases h : parseX s with
  | inl c => exact trivial
  | inr r => exact (parse_good h).1
/-- An error, or the tree. -/
theorem parse_is (s : List UInt8) : (errOf (parseX s) ≠ 0) ∨ (errOf (parseX s) = 0 ∧ parseX s = .inr (treeOf (parseX s))) := by
  cases h : parseX s with
  | inl c => exact .inl (parse_e h)
  | inr r => exact .inr ⟨rfl, rfl⟩
theorem many_is (r : RX) : errOf (orMany r) = 4 ∨ (errOf (orMany r) = 0 ∧ treeOf (orMany r) = r) := by
  unfold orMany
  split
  · exact .inl rfl
  · exact .inr ⟨rfl, rfl⟩
end Go.Proofs.X3
namespace Go.Proofs.Ytndefngkkikkeaa
open Go Go.RowKit Go.Lib
open X3 (errOf treeOf parseX mtB)

theorem parse_tree (s : ByteArray) (hs : s.size ≤ maxLen) (w : World) : Calls Try.prog 10 #[.string s] w fun e w' => ∃ (k x y z u : Int) (o : Option Addr) (n cc : Nat),
    e = .returned (.tuple #[nodeV k x y z u (.slice o n cc), .int .i64 (errOf (parseX (LL s)) : Int)]) ∧ Below w.heap.size w w' ∧ RepS (fun g => g < w'.heap.size) w' (treeOf (parseX (LL s))) (nodeV k x y z u (.slice o n cc)) := by
  refine (parse_any s w hs).mono ?_
  intro e w' h
  cases hR : parseX (LL s) with
  | inl c =>
    rw [hR] at h
    exact ⟨0, 0, 0, 0, 0, none, 0, 0, h.1, h.2, RepS.empty⟩
  | inr r =>
    rw [hR] at h
    obtain ⟨v, rfl, hr, hb⟩ := h
    obtain ⟨k, x, y, z, u, o, n, c, rfl⟩ := hr.shape
    exact ⟨k, x, y, z, u, o, n, c, rfl, hb, hr.monoS fun g _ hg => hg⟩
theorem match_tree (t : List UInt8) (s : ByteArray) (hs : s.size ≤ 1000) {w : World} {v : Value} (h : RepS (fun g => g < w.heap.size) w (treeOf (parseX t)) v) :
    Calls Try.prog 17 #[v, .string s] w fun e w' => e = .returned (.bool (mtB (treeOf (parseX t)) (LL s))) ∧ Below w.heap.size w w' :=
  match_any _ w _ v s h (Nat.le_trans (X3.tree_size t) (by decide)) hs
theorem null_tree (t : List UInt8) {w : World} {v : Value} (h : RepS (fun g => g < w.heap.size) w (treeOf (parseX t)) v) :
    Calls Try.prog 18 #[v] w fun e w' => e = .returned (.bool (X3.nullX (treeOf (parseX t)))) ∧ Below w.heap.size w w' :=
  null_any _ _ _ _ _ (Nat.le_refl _) (Nat.lt_of_le_of_lt (X3.tree_size t) (by decide)) h
theorem show_tree (t : List UInt8) {w : World} {v : Value} (h : RepS (fun g => g < w.heap.size) w (treeOf (parseX t)) v) :
    Calls Try.prog 13 #[v] w fun e w' => e = .returned (.string (bs (X3.showX (treeOf (parseX t))))) ∧ Below w.heap.size w w' :=
  Show_any h (Nat.le_trans (X3.tree_size t) (by decide))
end Go.Proofs.Ytndefngkkikkeaa
