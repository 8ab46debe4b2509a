/- Items that are handed in; the table of powers of ten, as a row lists it. -/
import Derived.LaidSub
import Derived.MakeChecks
import Derived.Test.YticmnfmijdgmbaaGreatDoorQHs
import Derived.Test.YticmnfmijdgmbaaGreatDoorPg
namespace Go.Proofs.YticmnfmijdgmbaaGreatDoor
open Go Go.RowKit Go.Lib Go.WideShapes Go.ChangeShapes Go.Deep
open X14 (It)
set_option linter.unusedVariables false
set_option maxRecDepth 100000 in
theorem tab_of_laid {W : World} {L : List (String × DataW Unit)} (hL : laidMetH Tryz.prog L W) (hf : (L.filter fun x => x.1 == "internal/strconv.uint64pow10") = [("internal/strconv.uint64pow10", Lib.tabData .u64 Lib.pow10Tab)]) : Tab W.heap.size W := by
 have h := hL.filter fun x => x.1 == "internal/strconv.uint64pow10"
 rw [hf, MakeChecks.laidMetH_plain _ _ _ (by kernel_rfl)] at h
 exact Lib.tabBelow_of_tabIs (Lib.tabIs_of_head (g := 0) (t := 226) (e := 68) (n := 20) (by kernel_rfl) (by kernel_rfl) Tryz.underlying226 Tryz.underlying68 (by kernel_rfl) (by kernel_rfl) h)
section
variable {H : Type} {enc : TypeId × Value → H} {w : World} {base : Nat} {spare : Nat → Bool} {held : Bool}
end
end Go.Proofs.YticmnfmijdgmbaaGreatDoor
