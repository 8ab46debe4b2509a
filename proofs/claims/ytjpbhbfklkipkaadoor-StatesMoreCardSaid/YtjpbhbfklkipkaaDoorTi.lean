/- Kernel within kernel, as StatesMore looks for it round by round. -/
import Derived.Test.YtjpbhbfklkipkaaDoorTf
import Derived.Test.YtjpbhbfklkipkaaDoorHm2
namespace Go.Proofs.YtjpbhbfklkipkaaDoor
open Go Go.RowKit Go.Lib
open X14 (It BuiltOk iterB)
def inU (l : List It) (x : It) (m : Nat) : Bool := (List.range m).any fun t => decide (l.getD t (0, 0) = x)
def allU (l l' : List It) (j : Nat) : Bool := (List.range j).all fun t => inU l' (l.getD t (0, 0)) l'.length
def foundU (KB : List (List It)) (l : List It) (k : Nat) : Bool := (List.range k).any fun t => allU l (KB.getD t []) l.length
theorem inU_more (l : List It) (x : It) (m : Nat) : inU l x (m + 1) = (inU l x m || decide (l.getD m (0, 0) = x)) := by unfold inU; rw [List.range_succ, List.any_append]; simp
theorem allU_more (l l' : List It) (j : Nat) : allU l l' (j + 1) = (allU l l' j && inU l' (l.getD j (0, 0)) l'.length) := by unfold allU; rw [List.range_succ, List.all_append]; simp
theorem foundU_more (KB : List (List It)) (l : List It) (k : Nat) : foundU KB l (k + 1) = (foundU KB l k || allU l (KB.getD k []) l.length) := by unfold foundU; rw [List.range_succ, List.any_append]; simp
theorem inU_yes {l : List It} {x : It} (h : x ∈ l) : inU l x l.length = true := by
  obtain ⟨i, hi, e⟩ := List.getElem_of_mem h
  unfold inU
  refine List.any_eq_true.2 ⟨i, List.mem_range.2 hi, decide_eq_true ?_⟩
  rw [List.getD_eq_getElem?_getD, List.getElem?_eq_getElem hi]
  exact e
theorem allU_yes {l l' : List It} (h : ∀ x ∈ l, x ∈ l') : allU l l' l.length = true := by
  unfold allU
  refine List.all_eq_true.2 fun i hi => inU_yes (h _ ?_)
  have hi := List.mem_range.1 hi
  rw [List.getD_eq_getElem?_getD, List.getElem?_eq_getElem hi]
  exact List.getElem_mem hi
theorem foundU_yes {KB : List (List It)} {l k' : List It} {r : Nat} (hr : KB[r]? = some k') (h : ∀ x ∈ l, x ∈ k') : foundU KB l KB.length = true := by
  unfold foundU
  refine List.any_eq_true.2 ⟨r, List.mem_range.2 (List.getElem?_eq_some_iff.1 hr).1, ?_⟩
  rw [X14.getD_get hr]
  exact allU_yes h
/-- Each kernel is found. -/
theorem found_more {G H : GD} (h : X14.More G H) {n m : Nat} (hG : BuiltOk G n) (hH : BuiltOk H m) {q : Nat} {k : List It} (hq : (iterB G n).ker[q]? = some k) : foundU (iterB H m).ker k (iterB H m).ker.length = true := by
  obtain ⟨r, k', hr, hx⟩ := X14.More.kernel h hG hH q k hq
  exact foundU_yes hr hx
theorem more_moreG (G : GD) (p : PD) : X14.More G (moreG G p) := ⟨rfl, rfl, rfl, ⟨p, rfl⟩⟩
end Go.Proofs.YtjpbhbfklkipkaaDoor
