/- Texts that are handed in, opened. -/
import Derived.SliceStrings
import Derived.OpenShut
import Derived.ChangeSame
import Derived.Test.YtochckefnjobhaaGreatDoorWf
namespace Go.Proofs.YtochckefnjobhaaGreatDoor
open Go Go.RowKit Go.Lib Go.WideShapes Go.ChangeShapes
set_option linter.unusedVariables false
theorem block_lt {w : World} {a : Addr} {v : Value} (h : w.cell? a = some v) : a.block < w.heap.size := Nat.lt_of_not_le fun h' => by
 simp [World.cell?, Array.getElem?_eq_none h'] at h
end Go.Proofs.YtochckefnjobhaaGreatDoor
