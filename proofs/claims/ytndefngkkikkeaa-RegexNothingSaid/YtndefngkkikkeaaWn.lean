/- Parse at a text, as a contract with an error and a tree; texts that are put together. -/
import Derived.Test.YtndefngkkikkeaaWm
set_option linter.unusedVariables false
namespace Go.Proofs.Ytndefngkkikkeaa
open Go Go.RowKit Go.Lib
open X3 (errOf treeOf parseX mtB orMany)

def PC (t : ByteArray) (E : Int) (R : X3.RX) : Prop := ∀ w : World, Calls Try.prog 10 #[.string t] w fun e w' => ∃ (k x y z u : Int) (o : Option Addr) (n cc : Nat),
    e = .returned (.tuple #[nodeV k x y z u (.slice o n cc), .int .i64 E]) ∧ Below w.heap.size w w' ∧ RepS (fun g => g < w'.heap.size) w' R (nodeV k x y z u (.slice o n cc))
def MC (s : ByteArray) : Prop := ∀ (R : X3.RX) (w : World) (v : Value), RepS (fun g => g < w.heap.size) w R v → R.size ≤ 500 →
    Calls Try.prog 17 #[v, .string s] w fun e w' => e = .returned (.bool (mtB R (LL s))) ∧ Below w.heap.size w w'
theorem match_MC (s : ByteArray) (hs : s.size ≤ 1000) : MC s := fun R w v h hz => match_any _ w R v s h (Nat.le_trans hz (by decide)) hs
theorem parse_PC (t : ByteArray) (ht : t.size ≤ maxLen) : ∃ (E : Int) (R : X3.RX), PC t E R ∧ R.size ≤ 500 ∧ ((E ≠ 0 ∧ errOf (parseX (LL t)) ≠ 0) ∨ (E = 0 ∧ parseX (LL t) = .inr R)) ∧ ∀ r, parseX (LL t) = orMany r → E = 4 ∨ (E = 0 ∧ R = r) := by
  refine ⟨_, _, parse_tree t ht, X3.tree_size _, ?_, ?_⟩
  · rcases X3.parse_is (LL t) with h | h
    · exact .inl ⟨by omega, h⟩
    · exact .inr ⟨by rw [h.1]; rfl, h.2⟩
  · intro r h
    rw [h]
    rcases X3.many_is r with h | h
    · exact .inl (by rw [h]; rfl)
    · exact .inr ⟨by rw [h.1]; rfl, h.2⟩
theorem ll_app (a b : ByteArray) : LL (a ++ b) = LL a ++ LL b := by
  unfold LL
  rw [ByteArray.data_append, Array.toList_append]
theorem size_app (a b : ByteArray) : (a ++ b).size = a.size + b.size := ByteArray.size_append
theorem ll_len (a : ByteArray) : (LL a).length = a.size := rfl
theorem ll_sign (a : ByteArray) (b : UInt8) : LL (({ data := #[40] } : ByteArray) ++ a ++ { data := #[41, b] }) = 40 :: (LL a ++ 41 :: [b]) := by
  rw [ll_app, ll_app]; simp [LL]
theorem ll_pair_star (a b : ByteArray) : LL (({ data := #[40] } : ByteArray) ++ a ++ { data := #[41, 40] } ++ b ++ { data := #[41, 42] }) = 40 :: (LL a ++ 41 :: (40 :: (LL b ++ [41, 42]))) := by
  rw [ll_app, ll_app, ll_app, ll_app]; simp [LL]
theorem ll_pair (a b : ByteArray) : LL (({ data := #[40] } : ByteArray) ++ a ++ { data := #[41, 40] } ++ b ++ { data := #[41] }) = 40 :: (LL a ++ 41 :: (40 :: (LL b ++ [41]))) := by
  rw [ll_app, ll_app, ll_app, ll_app]; simp [LL]
theorem ll_bar (a b : ByteArray) : LL (({ data := #[40] } : ByteArray) ++ a ++ { data := #[41, 124, 40] } ++ b ++ { data := #[41] }) = 40 :: (LL a ++ 41 :: (124 :: 40 :: (LL b ++ [41]))) := by
  rw [ll_app, ll_app, ll_app, ll_app]; simp [LL]
theorem ll_bar_none (a : ByteArray) : LL (({ data := #[40] } : ByteArray) ++ a ++ { data := #[41, 124, 91, 93] }) = 40 :: (LL a ++ 41 :: [124, 91, 93]) := by
  rw [ll_app, ll_app]; simp [LL]
theorem ll_pair_none (a : ByteArray) : LL (({ data := #[40] } : ByteArray) ++ a ++ { data := #[41, 91, 93] }) = 40 :: (LL a ++ 41 :: [91, 93]) := by
  rw [ll_app, ll_app]; simp [LL]
theorem ll_round (a : ByteArray) : LL (({ data := #[91, 93, 42, 40] } : ByteArray) ++ a ++ { data := #[41, 40, 41] }) = 91 :: 93 :: 42 :: 40 :: (LL a ++ 41 :: [40, 41]) := by
  rw [ll_app, ll_app]; simp [LL]
end Go.Proofs.Ytndefngkkikkeaa
