/-
  NARROWER THAN 'FOR EVERY INPUT', by the rows' own cells (each row's printed sentence says how): LookAll: laid · LookClosed: laid · LookFollows: laid · LookEmpty: laid · LookBegins: laid · TableAll: laid · TableBuild: laid · TableAccepts: laid · TablePrefix: laid · TableMay: laid · TableLonger: laid · TableEmpty: laid.
  DERIVED. THE GIVEN ROWS OF THIS SEAT. 12 by the template 'for every input the law returns true; each argument reads behind the call as it read before'; 0 by the template 'total and deterministic' (their statements: YticmnfmijdgmbaaGreatDoorTotals.lean).
  GIVEN WITH THE SEED: the statements are not yours to turn. If you find one false, say at which input.
  Laid BY PROGRAM, IN A SANDBOX (cutbox-rows.mjs): the forced cells as the released guide's own fill.sh prints them over the translation c20bcd83e0e66998… (all of the seat's roots in one cut). By AI agents, Wed Nov 11 2026. No macro, syntax, notation, axiom, sorry.
-/
import Derived.Test.YticmnfmijdgmbaaGreatDoorChecked
import GoSem.Claim
import GoSem.ClaimJoined
import GoSem.ClaimMapViews
import Derived.JoinedTies
import Derived.KernelRfl
namespace Go.Proofs.YticmnfmijdgmbaaGreatDoor
/- THE CELL 'sum', in the pinned program and in every row, IS THE sha256 OF THE DUMP (.gsa) THAT YticmnfmijdgmbaaGreatDoorProg.lean LOADS. Nothing in Lean hashes anything: it is a label: what it is worth is what the hold of that sum in a sandbox is worth. -/
noncomputable def Tryz.pinned : Pinned := { name := "yticmnfmijdgmbaagreatdoor", sum := "c20bcd83e0e669980445e1646caee87315d30fc32ec663599f591070b1c642a9", checked := Tryz.checked }
namespace Rows
def none {H : Type} : Left H := { results := [], args := [] }

/- WHAT THE LISTED PACKAGE-LEVEL VARIABLES READ AS WHEN THE CALL BEGINS. Each datum BY PROGRAM (the guide's laid-datum.mjs) off the statement by which the dump's own 'gosem.cut.vars' lays the variable. In a bare row this is a premise. The card (YticmnfmijdgmbaaGreatDoorCards.lean) ties it to the program's text. -/
def laid_math_bits_deBruijn32tab {H : Type} : DataW H := .agg [.lit (.int .u8 0), .lit (.int .u8 1), .lit (.int .u8 28), .lit (.int .u8 2), .lit (.int .u8 29), .lit (.int .u8 14), .lit (.int .u8 24), .lit (.int .u8 3), .lit (.int .u8 30), .lit (.int .u8 22), .lit (.int .u8 20), .lit (.int .u8 15), .lit (.int .u8 25), .lit (.int .u8 17), .lit (.int .u8 4), .lit (.int .u8 8), .lit (.int .u8 31), .lit (.int .u8 27), .lit (.int .u8 13), .lit (.int .u8 23), .lit (.int .u8 21), .lit (.int .u8 19), .lit (.int .u8 16), .lit (.int .u8 7), .lit (.int .u8 26), .lit (.int .u8 12), .lit (.int .u8 18), .lit (.int .u8 6), .lit (.int .u8 11), .lit (.int .u8 5), .lit (.int .u8 10), .lit (.int .u8 9)]
def laid_math_bits_deBruijn64tab {H : Type} : DataW H := .agg [.lit (.int .u8 0), .lit (.int .u8 1), .lit (.int .u8 56), .lit (.int .u8 2), .lit (.int .u8 57), .lit (.int .u8 49), .lit (.int .u8 28), .lit (.int .u8 3), .lit (.int .u8 61), .lit (.int .u8 58), .lit (.int .u8 42), .lit (.int .u8 50), .lit (.int .u8 38), .lit (.int .u8 29), .lit (.int .u8 17), .lit (.int .u8 4), .lit (.int .u8 62), .lit (.int .u8 47), .lit (.int .u8 59), .lit (.int .u8 36), .lit (.int .u8 45), .lit (.int .u8 43), .lit (.int .u8 51), .lit (.int .u8 22), .lit (.int .u8 53), .lit (.int .u8 39), .lit (.int .u8 33), .lit (.int .u8 30), .lit (.int .u8 24), .lit (.int .u8 18), .lit (.int .u8 12), .lit (.int .u8 5), .lit (.int .u8 63), .lit (.int .u8 55), .lit (.int .u8 48), .lit (.int .u8 27), .lit (.int .u8 60), .lit (.int .u8 41), .lit (.int .u8 37), .lit (.int .u8 16), .lit (.int .u8 46), .lit (.int .u8 35), .lit (.int .u8 44), .lit (.int .u8 21), .lit (.int .u8 52), .lit (.int .u8 32), .lit (.int .u8 23), .lit (.int .u8 11), .lit (.int .u8 54), .lit (.int .u8 26), .lit (.int .u8 40), .lit (.int .u8 15), .lit (.int .u8 34), .lit (.int .u8 20), .lit (.int .u8 31), .lit (.int .u8 10), .lit (.int .u8 25), .lit (.int .u8 14), .lit (.int .u8 19), .lit (.int .u8 9), .lit (.int .u8 13), .lit (.int .u8 8), .lit (.int .u8 7), .lit (.int .u8 6)]
def laid_internal_strconv_uint64pow10 {H : Type} : DataW H := .agg [.lit (.int .u64 1), .lit (.int .u64 10), .lit (.int .u64 100), .lit (.int .u64 1000), .lit (.int .u64 10000), .lit (.int .u64 100000), .lit (.int .u64 1000000), .lit (.int .u64 10000000), .lit (.int .u64 100000000), .lit (.int .u64 1000000000), .lit (.int .u64 10000000000), .lit (.int .u64 100000000000), .lit (.int .u64 1000000000000), .lit (.int .u64 10000000000000), .lit (.int .u64 100000000000000), .lit (.int .u64 1000000000000000), .lit (.int .u64 10000000000000000), .lit (.int .u64 100000000000000000), .lit (.int .u64 1000000000000000000), .lit (.int .u64 10000000000000000000)]

/-- 'syntagmlaw15.LookAll': WHATEVER THE INPUT: true; the input reads as it did. -/
def lookAllSpec : ChangeSpec := { name := "lookAll", fn := fun _ => fun
  | [d] => { results := [.lit (.bool true)], args := [d] }
  | _ => none }
def lookAllRow : OpenClaim := { program := "yticmnfmijdgmbaagreatdoor", sum := "c20bcd83e0e669980445e1646caee87315d30fc32ec663599f591070b1c642a9", func := "syntagm/syntagmlaw15.LookAll", spec := "lookAll", unfollowed := true, recurses := true, named := ["internal/strconv.uint64pow10", "math/bits.deBruijn32tab", "math/bits.deBruijn64tab"], plainKeys := false, apart := false, laid := [("math/bits.deBruijn32tab", laid_math_bits_deBruijn32tab), ("math/bits.deBruijn64tab", laid_math_bits_deBruijn64tab), ("internal/strconv.uint64pow10", laid_internal_strconv_uint64pow10)] }
def LookAllSaid : Prop := lookAllRow.holds Tryz.pinned (OpenSpec.ofChange lookAllSpec)

/-- ITS FALSE NEIGHBOUR: 'it returns false'. Refute it at one input. -/
def lookAllWrong : ChangeSpec := { name := "lookAll", fn := fun _ => fun
  | [d] => { results := [.lit (.bool false)], args := [d] }
  | _ => none }
def LookAllWrongFalsely : Prop := lookAllRow.holds Tryz.pinned (OpenSpec.ofChange lookAllWrong)

/-- 'syntagmlaw15.LookClosed': WHATEVER THE INPUT: true; the input reads as it did. -/
def lookClosedSpec : ChangeSpec := { name := "lookClosed", fn := fun _ => fun
  | [d] => { results := [.lit (.bool true)], args := [d] }
  | _ => none }
def lookClosedRow : OpenClaim := { program := "yticmnfmijdgmbaagreatdoor", sum := "c20bcd83e0e669980445e1646caee87315d30fc32ec663599f591070b1c642a9", func := "syntagm/syntagmlaw15.LookClosed", spec := "lookClosed", unfollowed := true, recurses := true, named := ["internal/strconv.uint64pow10", "math/bits.deBruijn32tab", "math/bits.deBruijn64tab"], plainKeys := false, apart := false, laid := [("math/bits.deBruijn32tab", laid_math_bits_deBruijn32tab), ("math/bits.deBruijn64tab", laid_math_bits_deBruijn64tab), ("internal/strconv.uint64pow10", laid_internal_strconv_uint64pow10)] }
def LookClosedSaid : Prop := lookClosedRow.holds Tryz.pinned (OpenSpec.ofChange lookClosedSpec)

/-- ITS FALSE NEIGHBOUR: 'it returns false'. Refute it at one input. -/
def lookClosedWrong : ChangeSpec := { name := "lookClosed", fn := fun _ => fun
  | [d] => { results := [.lit (.bool false)], args := [d] }
  | _ => none }
def LookClosedWrongFalsely : Prop := lookClosedRow.holds Tryz.pinned (OpenSpec.ofChange lookClosedWrong)

/-- 'syntagmlaw15.LookFollows': WHATEVER THE INPUT: true; the input reads as it did. -/
def lookFollowsSpec : ChangeSpec := { name := "lookFollows", fn := fun _ => fun
  | [d] => { results := [.lit (.bool true)], args := [d] }
  | _ => none }
def lookFollowsRow : OpenClaim := { program := "yticmnfmijdgmbaagreatdoor", sum := "c20bcd83e0e669980445e1646caee87315d30fc32ec663599f591070b1c642a9", func := "syntagm/syntagmlaw15.LookFollows", spec := "lookFollows", unfollowed := true, recurses := true, named := ["internal/strconv.uint64pow10", "math/bits.deBruijn32tab", "math/bits.deBruijn64tab"], plainKeys := false, apart := false, laid := [("math/bits.deBruijn32tab", laid_math_bits_deBruijn32tab), ("math/bits.deBruijn64tab", laid_math_bits_deBruijn64tab), ("internal/strconv.uint64pow10", laid_internal_strconv_uint64pow10)] }
def LookFollowsSaid : Prop := lookFollowsRow.holds Tryz.pinned (OpenSpec.ofChange lookFollowsSpec)

/-- ITS FALSE NEIGHBOUR: 'it returns false'. Refute it at one input. -/
def lookFollowsWrong : ChangeSpec := { name := "lookFollows", fn := fun _ => fun
  | [d] => { results := [.lit (.bool false)], args := [d] }
  | _ => none }
def LookFollowsWrongFalsely : Prop := lookFollowsRow.holds Tryz.pinned (OpenSpec.ofChange lookFollowsWrong)

/-- 'syntagmlaw15.LookEmpty': WHATEVER THE INPUT: true; the input reads as it did. -/
def lookEmptySpec : ChangeSpec := { name := "lookEmpty", fn := fun _ => fun
  | [d] => { results := [.lit (.bool true)], args := [d] }
  | _ => none }
def lookEmptyRow : OpenClaim := { program := "yticmnfmijdgmbaagreatdoor", sum := "c20bcd83e0e669980445e1646caee87315d30fc32ec663599f591070b1c642a9", func := "syntagm/syntagmlaw15.LookEmpty", spec := "lookEmpty", unfollowed := true, recurses := true, named := ["internal/strconv.uint64pow10", "math/bits.deBruijn32tab", "math/bits.deBruijn64tab"], plainKeys := false, apart := false, laid := [("math/bits.deBruijn32tab", laid_math_bits_deBruijn32tab), ("math/bits.deBruijn64tab", laid_math_bits_deBruijn64tab), ("internal/strconv.uint64pow10", laid_internal_strconv_uint64pow10)] }
def LookEmptySaid : Prop := lookEmptyRow.holds Tryz.pinned (OpenSpec.ofChange lookEmptySpec)

/-- ITS FALSE NEIGHBOUR: 'it returns false'. Refute it at one input. -/
def lookEmptyWrong : ChangeSpec := { name := "lookEmpty", fn := fun _ => fun
  | [d] => { results := [.lit (.bool false)], args := [d] }
  | _ => none }
def LookEmptyWrongFalsely : Prop := lookEmptyRow.holds Tryz.pinned (OpenSpec.ofChange lookEmptyWrong)

/-- 'syntagmlaw15.LookBegins': WHATEVER THE INPUT: true; the input reads as it did. -/
def lookBeginsSpec : ChangeSpec := { name := "lookBegins", fn := fun _ => fun
  | [d] => { results := [.lit (.bool true)], args := [d] }
  | _ => none }
def lookBeginsRow : OpenClaim := { program := "yticmnfmijdgmbaagreatdoor", sum := "c20bcd83e0e669980445e1646caee87315d30fc32ec663599f591070b1c642a9", func := "syntagm/syntagmlaw15.LookBegins", spec := "lookBegins", unfollowed := true, recurses := true, named := ["internal/strconv.uint64pow10", "math/bits.deBruijn32tab", "math/bits.deBruijn64tab"], plainKeys := false, apart := false, laid := [("math/bits.deBruijn32tab", laid_math_bits_deBruijn32tab), ("math/bits.deBruijn64tab", laid_math_bits_deBruijn64tab), ("internal/strconv.uint64pow10", laid_internal_strconv_uint64pow10)] }
def LookBeginsSaid : Prop := lookBeginsRow.holds Tryz.pinned (OpenSpec.ofChange lookBeginsSpec)

/-- ITS FALSE NEIGHBOUR: 'it returns false'. Refute it at one input. -/
def lookBeginsWrong : ChangeSpec := { name := "lookBegins", fn := fun _ => fun
  | [d] => { results := [.lit (.bool false)], args := [d] }
  | _ => none }
def LookBeginsWrongFalsely : Prop := lookBeginsRow.holds Tryz.pinned (OpenSpec.ofChange lookBeginsWrong)

/-- 'syntagmlaw16.TableAll': WHATEVER THE INPUT: true; the input reads as it did. -/
def tableAllSpec : ChangeSpec := { name := "tableAll", fn := fun _ => fun
  | [d] => { results := [.lit (.bool true)], args := [d] }
  | _ => none }
def tableAllRow : OpenClaim := { program := "yticmnfmijdgmbaagreatdoor", sum := "c20bcd83e0e669980445e1646caee87315d30fc32ec663599f591070b1c642a9", func := "syntagm/syntagmlaw16.TableAll", spec := "tableAll", unfollowed := true, recurses := true, named := ["internal/strconv.uint64pow10", "math/bits.deBruijn32tab", "math/bits.deBruijn64tab"], plainKeys := false, apart := false, laid := [("math/bits.deBruijn32tab", laid_math_bits_deBruijn32tab), ("math/bits.deBruijn64tab", laid_math_bits_deBruijn64tab), ("internal/strconv.uint64pow10", laid_internal_strconv_uint64pow10)] }
def TableAllSaid : Prop := tableAllRow.holds Tryz.pinned (OpenSpec.ofChange tableAllSpec)

/-- ITS FALSE NEIGHBOUR: 'it returns false'. Refute it at one input. -/
def tableAllWrong : ChangeSpec := { name := "tableAll", fn := fun _ => fun
  | [d] => { results := [.lit (.bool false)], args := [d] }
  | _ => none }
def TableAllWrongFalsely : Prop := tableAllRow.holds Tryz.pinned (OpenSpec.ofChange tableAllWrong)

/-- 'syntagmlaw16.TableBuild': WHATEVER THE INPUT: true; the input reads as it did. -/
def tableBuildSpec : ChangeSpec := { name := "tableBuild", fn := fun _ => fun
  | [d] => { results := [.lit (.bool true)], args := [d] }
  | _ => none }
def tableBuildRow : OpenClaim := { program := "yticmnfmijdgmbaagreatdoor", sum := "c20bcd83e0e669980445e1646caee87315d30fc32ec663599f591070b1c642a9", func := "syntagm/syntagmlaw16.TableBuild", spec := "tableBuild", unfollowed := true, recurses := true, named := ["internal/strconv.uint64pow10", "math/bits.deBruijn32tab", "math/bits.deBruijn64tab"], plainKeys := false, apart := false, laid := [("math/bits.deBruijn32tab", laid_math_bits_deBruijn32tab), ("math/bits.deBruijn64tab", laid_math_bits_deBruijn64tab), ("internal/strconv.uint64pow10", laid_internal_strconv_uint64pow10)] }
def TableBuildSaid : Prop := tableBuildRow.holds Tryz.pinned (OpenSpec.ofChange tableBuildSpec)

/-- ITS FALSE NEIGHBOUR: 'it returns false'. Refute it at one input. -/
def tableBuildWrong : ChangeSpec := { name := "tableBuild", fn := fun _ => fun
  | [d] => { results := [.lit (.bool false)], args := [d] }
  | _ => none }
def TableBuildWrongFalsely : Prop := tableBuildRow.holds Tryz.pinned (OpenSpec.ofChange tableBuildWrong)

/-- 'syntagmlaw16.TableAccepts': WHATEVER THE INPUT: true; the input reads as it did. -/
def tableAcceptsSpec : ChangeSpec := { name := "tableAccepts", fn := fun _ => fun
  | [d1, d2] => { results := [.lit (.bool true)], args := [d1, d2] }
  | _ => none }
def tableAcceptsRow : OpenClaim := { program := "yticmnfmijdgmbaagreatdoor", sum := "c20bcd83e0e669980445e1646caee87315d30fc32ec663599f591070b1c642a9", func := "syntagm/syntagmlaw16.TableAccepts", spec := "tableAccepts", unfollowed := true, recurses := true, named := ["internal/strconv.uint64pow10", "math/bits.deBruijn32tab", "math/bits.deBruijn64tab"], plainKeys := false, apart := false, laid := [("math/bits.deBruijn32tab", laid_math_bits_deBruijn32tab), ("math/bits.deBruijn64tab", laid_math_bits_deBruijn64tab), ("internal/strconv.uint64pow10", laid_internal_strconv_uint64pow10)] }
def TableAcceptsSaid : Prop := tableAcceptsRow.holds Tryz.pinned (OpenSpec.ofChange tableAcceptsSpec)

/-- ITS FALSE NEIGHBOUR: 'it returns false'. Refute it at one input. -/
def tableAcceptsWrong : ChangeSpec := { name := "tableAccepts", fn := fun _ => fun
  | [d1, d2] => { results := [.lit (.bool false)], args := [d1, d2] }
  | _ => none }
def TableAcceptsWrongFalsely : Prop := tableAcceptsRow.holds Tryz.pinned (OpenSpec.ofChange tableAcceptsWrong)

/-- 'syntagmlaw16.TablePrefix': WHATEVER THE INPUT: true; the input reads as it did. -/
def tablePrefixSpec : ChangeSpec := { name := "tablePrefix", fn := fun _ => fun
  | [d1, d2] => { results := [.lit (.bool true)], args := [d1, d2] }
  | _ => none }
def tablePrefixRow : OpenClaim := { program := "yticmnfmijdgmbaagreatdoor", sum := "c20bcd83e0e669980445e1646caee87315d30fc32ec663599f591070b1c642a9", func := "syntagm/syntagmlaw16.TablePrefix", spec := "tablePrefix", unfollowed := true, recurses := true, named := ["internal/strconv.uint64pow10", "math/bits.deBruijn32tab", "math/bits.deBruijn64tab"], plainKeys := false, apart := false, laid := [("math/bits.deBruijn32tab", laid_math_bits_deBruijn32tab), ("math/bits.deBruijn64tab", laid_math_bits_deBruijn64tab), ("internal/strconv.uint64pow10", laid_internal_strconv_uint64pow10)] }
def TablePrefixSaid : Prop := tablePrefixRow.holds Tryz.pinned (OpenSpec.ofChange tablePrefixSpec)

/-- ITS FALSE NEIGHBOUR: 'it returns false'. Refute it at one input. -/
def tablePrefixWrong : ChangeSpec := { name := "tablePrefix", fn := fun _ => fun
  | [d1, d2] => { results := [.lit (.bool false)], args := [d1, d2] }
  | _ => none }
def TablePrefixWrongFalsely : Prop := tablePrefixRow.holds Tryz.pinned (OpenSpec.ofChange tablePrefixWrong)

/-- 'syntagmlaw16.TableMay': WHATEVER THE INPUT: true; the input reads as it did. -/
def tableMaySpec : ChangeSpec := { name := "tableMay", fn := fun _ => fun
  | [d] => { results := [.lit (.bool true)], args := [d] }
  | _ => none }
def tableMayRow : OpenClaim := { program := "yticmnfmijdgmbaagreatdoor", sum := "c20bcd83e0e669980445e1646caee87315d30fc32ec663599f591070b1c642a9", func := "syntagm/syntagmlaw16.TableMay", spec := "tableMay", unfollowed := true, recurses := true, named := ["internal/strconv.uint64pow10", "math/bits.deBruijn32tab", "math/bits.deBruijn64tab"], plainKeys := false, apart := false, laid := [("math/bits.deBruijn32tab", laid_math_bits_deBruijn32tab), ("math/bits.deBruijn64tab", laid_math_bits_deBruijn64tab), ("internal/strconv.uint64pow10", laid_internal_strconv_uint64pow10)] }
def TableMaySaid : Prop := tableMayRow.holds Tryz.pinned (OpenSpec.ofChange tableMaySpec)

/-- ITS FALSE NEIGHBOUR: 'it returns false'. Refute it at one input. -/
def tableMayWrong : ChangeSpec := { name := "tableMay", fn := fun _ => fun
  | [d] => { results := [.lit (.bool false)], args := [d] }
  | _ => none }
def TableMayWrongFalsely : Prop := tableMayRow.holds Tryz.pinned (OpenSpec.ofChange tableMayWrong)

/-- 'syntagmlaw16.TableLonger': WHATEVER THE INPUT: true; the input reads as it did. -/
def tableLongerSpec : ChangeSpec := { name := "tableLonger", fn := fun _ => fun
  | [d1, d2, d3] => { results := [.lit (.bool true)], args := [d1, d2, d3] }
  | _ => none }
def tableLongerRow : OpenClaim := { program := "yticmnfmijdgmbaagreatdoor", sum := "c20bcd83e0e669980445e1646caee87315d30fc32ec663599f591070b1c642a9", func := "syntagm/syntagmlaw16.TableLonger", spec := "tableLonger", unfollowed := true, recurses := true, named := ["internal/strconv.uint64pow10", "math/bits.deBruijn32tab", "math/bits.deBruijn64tab"], plainKeys := false, apart := false, laid := [("math/bits.deBruijn32tab", laid_math_bits_deBruijn32tab), ("math/bits.deBruijn64tab", laid_math_bits_deBruijn64tab), ("internal/strconv.uint64pow10", laid_internal_strconv_uint64pow10)] }
def TableLongerSaid : Prop := tableLongerRow.holds Tryz.pinned (OpenSpec.ofChange tableLongerSpec)

/-- ITS FALSE NEIGHBOUR: 'it returns false'. Refute it at one input. -/
def tableLongerWrong : ChangeSpec := { name := "tableLonger", fn := fun _ => fun
  | [d1, d2, d3] => { results := [.lit (.bool false)], args := [d1, d2, d3] }
  | _ => none }
def TableLongerWrongFalsely : Prop := tableLongerRow.holds Tryz.pinned (OpenSpec.ofChange tableLongerWrong)

/-- 'syntagmlaw16.TableEmpty': WHATEVER THE INPUT: true; the input reads as it did. -/
def tableEmptySpec : ChangeSpec := { name := "tableEmpty", fn := fun _ => fun
  | [d] => { results := [.lit (.bool true)], args := [d] }
  | _ => none }
def tableEmptyRow : OpenClaim := { program := "yticmnfmijdgmbaagreatdoor", sum := "c20bcd83e0e669980445e1646caee87315d30fc32ec663599f591070b1c642a9", func := "syntagm/syntagmlaw16.TableEmpty", spec := "tableEmpty", unfollowed := true, recurses := true, named := ["internal/strconv.uint64pow10", "math/bits.deBruijn32tab", "math/bits.deBruijn64tab"], plainKeys := false, apart := false, laid := [("math/bits.deBruijn32tab", laid_math_bits_deBruijn32tab), ("math/bits.deBruijn64tab", laid_math_bits_deBruijn64tab), ("internal/strconv.uint64pow10", laid_internal_strconv_uint64pow10)] }
def TableEmptySaid : Prop := tableEmptyRow.holds Tryz.pinned (OpenSpec.ofChange tableEmptySpec)

/-- ITS FALSE NEIGHBOUR: 'it returns false'. Refute it at one input. -/
def tableEmptyWrong : ChangeSpec := { name := "tableEmpty", fn := fun _ => fun
  | [d] => { results := [.lit (.bool false)], args := [d] }
  | _ => none }
def TableEmptyWrongFalsely : Prop := tableEmptyRow.holds Tryz.pinned (OpenSpec.ofChange tableEmptyWrong)

/- THE SECOND FORM. 'bulk': how many values and letters a reading holds, each counted each time it is reached (what is shared counts as often as it is met; a slice's spare places count too). A statement '..UptoSaid' is the law's where the arguments, and the package variables that the reading takes, are together of bulk at most 1048576: NARROWER than '..Said'. Prove '..Said' where nothing that the law and all that it calls make is longer than what came in: it says more and counts as full. Else prove '..UptoSaid'. A law counts once. -/
mutual
def uptoBulk {H : Type} : DataW H → Nat
  | .lit (.string bytes) => bytes.length + 1
  | .lit _ => 1
  | .nil => 1
  | .ptr d => uptoBulk d + 1
  | .slice elems spare => uptoBulkAll elems + uptoBulkAll spare + 1
  | .agg parts => uptoBulkAll parts + 1
  | .iface _ d => uptoBulk d + 1
  | .map entries => uptoBulkEntries entries + 1
  | .held _ => 1
def uptoBulkAll {H : Type} : List (DataW H) → Nat
  | [] => 0
  | d :: r => uptoBulk d + uptoBulkAll r
def uptoBulkEntries {H : Type} : List (Lit × DataW H) → Nat
  | [] => 0
  | x :: r => uptoBulkEntry x + uptoBulkEntries r
def uptoBulkEntry {H : Type} : Lit × DataW H → Nat
  | (.string bytes, d) => bytes.length + uptoBulk d + 1
  | (_, d) => uptoBulk d + 1
 end
def uptoSmall : (H : Type) → List (DataW H) → Bool := fun _ ds => decide (uptoBulkAll ds ≤ 1048576)
def OpenSpec.upto (s : _root_.Go.ChangeSpec) : _root_.Go.OpenSpec := { _root_.Go.OpenSpec.ofChange s with cond := some uptoSmall }

/-- 'syntagmlaw15.LookAll', WHERE WHAT IT READS IS OF BULK AT MOST 1048576: true; the input reads as it did. -/
def lookAllUptoRow : OpenClaim := { program := "yticmnfmijdgmbaagreatdoor", sum := "c20bcd83e0e669980445e1646caee87315d30fc32ec663599f591070b1c642a9", func := "syntagm/syntagmlaw15.LookAll", spec := "lookAll", unfollowed := true, recurses := true, named := ["internal/strconv.uint64pow10", "math/bits.deBruijn32tab", "math/bits.deBruijn64tab"], plainKeys := false, apart := false, laid := [("math/bits.deBruijn32tab", laid_math_bits_deBruijn32tab), ("math/bits.deBruijn64tab", laid_math_bits_deBruijn64tab), ("internal/strconv.uint64pow10", laid_internal_strconv_uint64pow10)], narrowed := true }
def LookAllUptoSaid : Prop := lookAllUptoRow.holds Tryz.pinned (OpenSpec.upto lookAllSpec)

/-- 'syntagmlaw15.LookClosed', WHERE WHAT IT READS IS OF BULK AT MOST 1048576: true; the input reads as it did. -/
def lookClosedUptoRow : OpenClaim := { program := "yticmnfmijdgmbaagreatdoor", sum := "c20bcd83e0e669980445e1646caee87315d30fc32ec663599f591070b1c642a9", func := "syntagm/syntagmlaw15.LookClosed", spec := "lookClosed", unfollowed := true, recurses := true, named := ["internal/strconv.uint64pow10", "math/bits.deBruijn32tab", "math/bits.deBruijn64tab"], plainKeys := false, apart := false, laid := [("math/bits.deBruijn32tab", laid_math_bits_deBruijn32tab), ("math/bits.deBruijn64tab", laid_math_bits_deBruijn64tab), ("internal/strconv.uint64pow10", laid_internal_strconv_uint64pow10)], narrowed := true }
def LookClosedUptoSaid : Prop := lookClosedUptoRow.holds Tryz.pinned (OpenSpec.upto lookClosedSpec)

/-- 'syntagmlaw15.LookFollows', WHERE WHAT IT READS IS OF BULK AT MOST 1048576: true; the input reads as it did. -/
def lookFollowsUptoRow : OpenClaim := { program := "yticmnfmijdgmbaagreatdoor", sum := "c20bcd83e0e669980445e1646caee87315d30fc32ec663599f591070b1c642a9", func := "syntagm/syntagmlaw15.LookFollows", spec := "lookFollows", unfollowed := true, recurses := true, named := ["internal/strconv.uint64pow10", "math/bits.deBruijn32tab", "math/bits.deBruijn64tab"], plainKeys := false, apart := false, laid := [("math/bits.deBruijn32tab", laid_math_bits_deBruijn32tab), ("math/bits.deBruijn64tab", laid_math_bits_deBruijn64tab), ("internal/strconv.uint64pow10", laid_internal_strconv_uint64pow10)], narrowed := true }
def LookFollowsUptoSaid : Prop := lookFollowsUptoRow.holds Tryz.pinned (OpenSpec.upto lookFollowsSpec)

/-- 'syntagmlaw15.LookEmpty', WHERE WHAT IT READS IS OF BULK AT MOST 1048576: true; the input reads as it did. -/
def lookEmptyUptoRow : OpenClaim := { program := "yticmnfmijdgmbaagreatdoor", sum := "c20bcd83e0e669980445e1646caee87315d30fc32ec663599f591070b1c642a9", func := "syntagm/syntagmlaw15.LookEmpty", spec := "lookEmpty", unfollowed := true, recurses := true, named := ["internal/strconv.uint64pow10", "math/bits.deBruijn32tab", "math/bits.deBruijn64tab"], plainKeys := false, apart := false, laid := [("math/bits.deBruijn32tab", laid_math_bits_deBruijn32tab), ("math/bits.deBruijn64tab", laid_math_bits_deBruijn64tab), ("internal/strconv.uint64pow10", laid_internal_strconv_uint64pow10)], narrowed := true }
def LookEmptyUptoSaid : Prop := lookEmptyUptoRow.holds Tryz.pinned (OpenSpec.upto lookEmptySpec)

/-- 'syntagmlaw15.LookBegins', WHERE WHAT IT READS IS OF BULK AT MOST 1048576: true; the input reads as it did. -/
def lookBeginsUptoRow : OpenClaim := { program := "yticmnfmijdgmbaagreatdoor", sum := "c20bcd83e0e669980445e1646caee87315d30fc32ec663599f591070b1c642a9", func := "syntagm/syntagmlaw15.LookBegins", spec := "lookBegins", unfollowed := true, recurses := true, named := ["internal/strconv.uint64pow10", "math/bits.deBruijn32tab", "math/bits.deBruijn64tab"], plainKeys := false, apart := false, laid := [("math/bits.deBruijn32tab", laid_math_bits_deBruijn32tab), ("math/bits.deBruijn64tab", laid_math_bits_deBruijn64tab), ("internal/strconv.uint64pow10", laid_internal_strconv_uint64pow10)], narrowed := true }
def LookBeginsUptoSaid : Prop := lookBeginsUptoRow.holds Tryz.pinned (OpenSpec.upto lookBeginsSpec)

/-- 'syntagmlaw16.TableAll', WHERE WHAT IT READS IS OF BULK AT MOST 1048576: true; the input reads as it did. -/
def tableAllUptoRow : OpenClaim := { program := "yticmnfmijdgmbaagreatdoor", sum := "c20bcd83e0e669980445e1646caee87315d30fc32ec663599f591070b1c642a9", func := "syntagm/syntagmlaw16.TableAll", spec := "tableAll", unfollowed := true, recurses := true, named := ["internal/strconv.uint64pow10", "math/bits.deBruijn32tab", "math/bits.deBruijn64tab"], plainKeys := false, apart := false, laid := [("math/bits.deBruijn32tab", laid_math_bits_deBruijn32tab), ("math/bits.deBruijn64tab", laid_math_bits_deBruijn64tab), ("internal/strconv.uint64pow10", laid_internal_strconv_uint64pow10)], narrowed := true }
def TableAllUptoSaid : Prop := tableAllUptoRow.holds Tryz.pinned (OpenSpec.upto tableAllSpec)

/-- 'syntagmlaw16.TableBuild', WHERE WHAT IT READS IS OF BULK AT MOST 1048576: true; the input reads as it did. -/
def tableBuildUptoRow : OpenClaim := { program := "yticmnfmijdgmbaagreatdoor", sum := "c20bcd83e0e669980445e1646caee87315d30fc32ec663599f591070b1c642a9", func := "syntagm/syntagmlaw16.TableBuild", spec := "tableBuild", unfollowed := true, recurses := true, named := ["internal/strconv.uint64pow10", "math/bits.deBruijn32tab", "math/bits.deBruijn64tab"], plainKeys := false, apart := false, laid := [("math/bits.deBruijn32tab", laid_math_bits_deBruijn32tab), ("math/bits.deBruijn64tab", laid_math_bits_deBruijn64tab), ("internal/strconv.uint64pow10", laid_internal_strconv_uint64pow10)], narrowed := true }
def TableBuildUptoSaid : Prop := tableBuildUptoRow.holds Tryz.pinned (OpenSpec.upto tableBuildSpec)

/-- 'syntagmlaw16.TableAccepts', WHERE WHAT IT READS IS OF BULK AT MOST 1048576: true; the input reads as it did. -/
def tableAcceptsUptoRow : OpenClaim := { program := "yticmnfmijdgmbaagreatdoor", sum := "c20bcd83e0e669980445e1646caee87315d30fc32ec663599f591070b1c642a9", func := "syntagm/syntagmlaw16.TableAccepts", spec := "tableAccepts", unfollowed := true, recurses := true, named := ["internal/strconv.uint64pow10", "math/bits.deBruijn32tab", "math/bits.deBruijn64tab"], plainKeys := false, apart := false, laid := [("math/bits.deBruijn32tab", laid_math_bits_deBruijn32tab), ("math/bits.deBruijn64tab", laid_math_bits_deBruijn64tab), ("internal/strconv.uint64pow10", laid_internal_strconv_uint64pow10)], narrowed := true }
def TableAcceptsUptoSaid : Prop := tableAcceptsUptoRow.holds Tryz.pinned (OpenSpec.upto tableAcceptsSpec)

/-- 'syntagmlaw16.TablePrefix', WHERE WHAT IT READS IS OF BULK AT MOST 1048576: true; the input reads as it did. -/
def tablePrefixUptoRow : OpenClaim := { program := "yticmnfmijdgmbaagreatdoor", sum := "c20bcd83e0e669980445e1646caee87315d30fc32ec663599f591070b1c642a9", func := "syntagm/syntagmlaw16.TablePrefix", spec := "tablePrefix", unfollowed := true, recurses := true, named := ["internal/strconv.uint64pow10", "math/bits.deBruijn32tab", "math/bits.deBruijn64tab"], plainKeys := false, apart := false, laid := [("math/bits.deBruijn32tab", laid_math_bits_deBruijn32tab), ("math/bits.deBruijn64tab", laid_math_bits_deBruijn64tab), ("internal/strconv.uint64pow10", laid_internal_strconv_uint64pow10)], narrowed := true }
def TablePrefixUptoSaid : Prop := tablePrefixUptoRow.holds Tryz.pinned (OpenSpec.upto tablePrefixSpec)

/-- 'syntagmlaw16.TableMay', WHERE WHAT IT READS IS OF BULK AT MOST 1048576: true; the input reads as it did. -/
def tableMayUptoRow : OpenClaim := { program := "yticmnfmijdgmbaagreatdoor", sum := "c20bcd83e0e669980445e1646caee87315d30fc32ec663599f591070b1c642a9", func := "syntagm/syntagmlaw16.TableMay", spec := "tableMay", unfollowed := true, recurses := true, named := ["internal/strconv.uint64pow10", "math/bits.deBruijn32tab", "math/bits.deBruijn64tab"], plainKeys := false, apart := false, laid := [("math/bits.deBruijn32tab", laid_math_bits_deBruijn32tab), ("math/bits.deBruijn64tab", laid_math_bits_deBruijn64tab), ("internal/strconv.uint64pow10", laid_internal_strconv_uint64pow10)], narrowed := true }
def TableMayUptoSaid : Prop := tableMayUptoRow.holds Tryz.pinned (OpenSpec.upto tableMaySpec)

/-- 'syntagmlaw16.TableLonger', WHERE WHAT IT READS IS OF BULK AT MOST 1048576: true; the input reads as it did. -/
def tableLongerUptoRow : OpenClaim := { program := "yticmnfmijdgmbaagreatdoor", sum := "c20bcd83e0e669980445e1646caee87315d30fc32ec663599f591070b1c642a9", func := "syntagm/syntagmlaw16.TableLonger", spec := "tableLonger", unfollowed := true, recurses := true, named := ["internal/strconv.uint64pow10", "math/bits.deBruijn32tab", "math/bits.deBruijn64tab"], plainKeys := false, apart := false, laid := [("math/bits.deBruijn32tab", laid_math_bits_deBruijn32tab), ("math/bits.deBruijn64tab", laid_math_bits_deBruijn64tab), ("internal/strconv.uint64pow10", laid_internal_strconv_uint64pow10)], narrowed := true }
def TableLongerUptoSaid : Prop := tableLongerUptoRow.holds Tryz.pinned (OpenSpec.upto tableLongerSpec)

/-- 'syntagmlaw16.TableEmpty', WHERE WHAT IT READS IS OF BULK AT MOST 1048576: true; the input reads as it did. -/
def tableEmptyUptoRow : OpenClaim := { program := "yticmnfmijdgmbaagreatdoor", sum := "c20bcd83e0e669980445e1646caee87315d30fc32ec663599f591070b1c642a9", func := "syntagm/syntagmlaw16.TableEmpty", spec := "tableEmpty", unfollowed := true, recurses := true, named := ["internal/strconv.uint64pow10", "math/bits.deBruijn32tab", "math/bits.deBruijn64tab"], plainKeys := false, apart := false, laid := [("math/bits.deBruijn32tab", laid_math_bits_deBruijn32tab), ("math/bits.deBruijn64tab", laid_math_bits_deBruijn64tab), ("internal/strconv.uint64pow10", laid_internal_strconv_uint64pow10)], narrowed := true }
def TableEmptyUptoSaid : Prop := tableEmptyUptoRow.holds Tryz.pinned (OpenSpec.upto tableEmptySpec)

end Rows
end Go.Proofs.YticmnfmijdgmbaaGreatDoor
