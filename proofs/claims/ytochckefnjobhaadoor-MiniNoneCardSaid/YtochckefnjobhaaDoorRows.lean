/-
  NARROWER THAN 'FOR EVERY INPUT', by the rows' own cells (each row's printed sentence says how): DfaFew: laid · DfaParts: laid · DfaClasses: laid · DfaOnce: laid · MiniRuns: laid · MiniNone: laid · MiniOrder: laid.
  DERIVED. THE GIVEN ROWS OF THIS SEAT. 7 by the template 'for every input the law returns true; each argument reads behind the call as it read before'; 0 by the template 'total and deterministic' (their statements: YtochckefnjobhaaDoorTotals.lean).
  GIVEN WITH THE SEED: the statements are not yours to turn. If you find one false, say at which input.
  Laid BY PROGRAM, IN A SANDBOX (cutbox-rows.mjs): the forced cells as the released guide's own fill.sh prints them over the translation a78460acfe2a02bf… (all of the seat's roots in one cut). By AI agents, Wed Nov 11 2026. No macro, syntax, notation, axiom, sorry.
-/
import Derived.Test.YtochckefnjobhaaDoorChecked
import GoSem.Claim
import GoSem.ClaimJoined
import GoSem.ClaimMapViews
import Derived.JoinedTies
import Derived.KernelRfl
namespace Go.Proofs.YtochckefnjobhaaDoor
/- THE CELL 'sum', in the pinned program and in every row, IS THE sha256 OF THE DUMP (.gsa) THAT YtochckefnjobhaaDoorProg.lean LOADS. Nothing in Lean hashes anything: it is a label: what it is worth is what the hold of that sum in a sandbox is worth. -/
noncomputable def Tryd.pinned : Pinned := { name := "ytochckefnjobhaadoor", sum := "a78460acfe2a02bf51510315c4fec6d505f21a5e5537ad3b6408fa12e66ff533", checked := Tryd.checked }
namespace Rows
def none {H : Type} : Left H := { results := [], args := [] }

/- WHAT THE LISTED PACKAGE-LEVEL VARIABLES READ AS WHEN THE CALL BEGINS. Each datum BY PROGRAM (the guide's laid-datum.mjs) off the statement by which the dump's own 'gosem.cut.vars' lays the variable. In a bare row this is a premise. The card (YtochckefnjobhaaDoorCards.lean) ties it to the program's text. -/
def laid_math_bits_deBruijn32tab {H : Type} : DataW H := .agg [.lit (.int .u8 0), .lit (.int .u8 1), .lit (.int .u8 28), .lit (.int .u8 2), .lit (.int .u8 29), .lit (.int .u8 14), .lit (.int .u8 24), .lit (.int .u8 3), .lit (.int .u8 30), .lit (.int .u8 22), .lit (.int .u8 20), .lit (.int .u8 15), .lit (.int .u8 25), .lit (.int .u8 17), .lit (.int .u8 4), .lit (.int .u8 8), .lit (.int .u8 31), .lit (.int .u8 27), .lit (.int .u8 13), .lit (.int .u8 23), .lit (.int .u8 21), .lit (.int .u8 19), .lit (.int .u8 16), .lit (.int .u8 7), .lit (.int .u8 26), .lit (.int .u8 12), .lit (.int .u8 18), .lit (.int .u8 6), .lit (.int .u8 11), .lit (.int .u8 5), .lit (.int .u8 10), .lit (.int .u8 9)]
def laid_math_bits_deBruijn64tab {H : Type} : DataW H := .agg [.lit (.int .u8 0), .lit (.int .u8 1), .lit (.int .u8 56), .lit (.int .u8 2), .lit (.int .u8 57), .lit (.int .u8 49), .lit (.int .u8 28), .lit (.int .u8 3), .lit (.int .u8 61), .lit (.int .u8 58), .lit (.int .u8 42), .lit (.int .u8 50), .lit (.int .u8 38), .lit (.int .u8 29), .lit (.int .u8 17), .lit (.int .u8 4), .lit (.int .u8 62), .lit (.int .u8 47), .lit (.int .u8 59), .lit (.int .u8 36), .lit (.int .u8 45), .lit (.int .u8 43), .lit (.int .u8 51), .lit (.int .u8 22), .lit (.int .u8 53), .lit (.int .u8 39), .lit (.int .u8 33), .lit (.int .u8 30), .lit (.int .u8 24), .lit (.int .u8 18), .lit (.int .u8 12), .lit (.int .u8 5), .lit (.int .u8 63), .lit (.int .u8 55), .lit (.int .u8 48), .lit (.int .u8 27), .lit (.int .u8 60), .lit (.int .u8 41), .lit (.int .u8 37), .lit (.int .u8 16), .lit (.int .u8 46), .lit (.int .u8 35), .lit (.int .u8 44), .lit (.int .u8 21), .lit (.int .u8 52), .lit (.int .u8 32), .lit (.int .u8 23), .lit (.int .u8 11), .lit (.int .u8 54), .lit (.int .u8 26), .lit (.int .u8 40), .lit (.int .u8 15), .lit (.int .u8 34), .lit (.int .u8 20), .lit (.int .u8 31), .lit (.int .u8 10), .lit (.int .u8 25), .lit (.int .u8 14), .lit (.int .u8 19), .lit (.int .u8 9), .lit (.int .u8 13), .lit (.int .u8 8), .lit (.int .u8 7), .lit (.int .u8 6)]
def laid_internal_strconv_uint64pow10 {H : Type} : DataW H := .agg [.lit (.int .u64 1), .lit (.int .u64 10), .lit (.int .u64 100), .lit (.int .u64 1000), .lit (.int .u64 10000), .lit (.int .u64 100000), .lit (.int .u64 1000000), .lit (.int .u64 10000000), .lit (.int .u64 100000000), .lit (.int .u64 1000000000), .lit (.int .u64 10000000000), .lit (.int .u64 100000000000), .lit (.int .u64 1000000000000), .lit (.int .u64 10000000000000), .lit (.int .u64 100000000000000), .lit (.int .u64 1000000000000000), .lit (.int .u64 10000000000000000), .lit (.int .u64 100000000000000000), .lit (.int .u64 1000000000000000000), .lit (.int .u64 10000000000000000000)]

/-- 'syntagmlaw05.DfaFew': WHATEVER THE INPUT: true; the input reads as it did. -/
def dfaFewSpec : ChangeSpec := { name := "dfaFew", fn := fun _ => fun
  | [d1, d2] => { results := [.lit (.bool true)], args := [d1, d2] }
  | _ => none }
def dfaFewRow : OpenClaim := { program := "ytochckefnjobhaadoor", sum := "a78460acfe2a02bf51510315c4fec6d505f21a5e5537ad3b6408fa12e66ff533", func := "syntagm/syntagmlaw05.DfaFew", spec := "dfaFew", unfollowed := true, recurses := true, named := ["internal/strconv.uint64pow10", "math/bits.deBruijn32tab", "math/bits.deBruijn64tab"], plainKeys := false, apart := false, laid := [("math/bits.deBruijn32tab", laid_math_bits_deBruijn32tab), ("math/bits.deBruijn64tab", laid_math_bits_deBruijn64tab), ("internal/strconv.uint64pow10", laid_internal_strconv_uint64pow10)] }
def DfaFewSaid : Prop := dfaFewRow.holds Tryd.pinned (OpenSpec.ofChange dfaFewSpec)

/-- ITS FALSE NEIGHBOUR: 'it returns false'. Refute it at one input. -/
def dfaFewWrong : ChangeSpec := { name := "dfaFew", fn := fun _ => fun
  | [d1, d2] => { results := [.lit (.bool false)], args := [d1, d2] }
  | _ => none }
def DfaFewWrongFalsely : Prop := dfaFewRow.holds Tryd.pinned (OpenSpec.ofChange dfaFewWrong)

/-- 'syntagmlaw05.DfaParts': WHATEVER THE INPUT: true; the input reads as it did. -/
def dfaPartsSpec : ChangeSpec := { name := "dfaParts", fn := fun _ => fun
  | [d1, d2, d3] => { results := [.lit (.bool true)], args := [d1, d2, d3] }
  | _ => none }
def dfaPartsRow : OpenClaim := { program := "ytochckefnjobhaadoor", sum := "a78460acfe2a02bf51510315c4fec6d505f21a5e5537ad3b6408fa12e66ff533", func := "syntagm/syntagmlaw05.DfaParts", spec := "dfaParts", unfollowed := true, recurses := true, named := ["internal/strconv.uint64pow10", "math/bits.deBruijn32tab", "math/bits.deBruijn64tab"], plainKeys := false, apart := false, laid := [("math/bits.deBruijn32tab", laid_math_bits_deBruijn32tab), ("math/bits.deBruijn64tab", laid_math_bits_deBruijn64tab), ("internal/strconv.uint64pow10", laid_internal_strconv_uint64pow10)] }
def DfaPartsSaid : Prop := dfaPartsRow.holds Tryd.pinned (OpenSpec.ofChange dfaPartsSpec)

/-- ITS FALSE NEIGHBOUR: 'it returns false'. Refute it at one input. -/
def dfaPartsWrong : ChangeSpec := { name := "dfaParts", fn := fun _ => fun
  | [d1, d2, d3] => { results := [.lit (.bool false)], args := [d1, d2, d3] }
  | _ => none }
def DfaPartsWrongFalsely : Prop := dfaPartsRow.holds Tryd.pinned (OpenSpec.ofChange dfaPartsWrong)

/-- 'syntagmlaw05.DfaClasses': WHATEVER THE INPUT: true; the input reads as it did. -/
def dfaClassesSpec : ChangeSpec := { name := "dfaClasses", fn := fun _ => fun
  | [d1, d2, d3, d4] => { results := [.lit (.bool true)], args := [d1, d2, d3, d4] }
  | _ => none }
def dfaClassesRow : OpenClaim := { program := "ytochckefnjobhaadoor", sum := "a78460acfe2a02bf51510315c4fec6d505f21a5e5537ad3b6408fa12e66ff533", func := "syntagm/syntagmlaw05.DfaClasses", spec := "dfaClasses", unfollowed := true, recurses := true, named := ["internal/strconv.uint64pow10", "math/bits.deBruijn32tab", "math/bits.deBruijn64tab"], plainKeys := false, apart := false, laid := [("math/bits.deBruijn32tab", laid_math_bits_deBruijn32tab), ("math/bits.deBruijn64tab", laid_math_bits_deBruijn64tab), ("internal/strconv.uint64pow10", laid_internal_strconv_uint64pow10)] }
def DfaClassesSaid : Prop := dfaClassesRow.holds Tryd.pinned (OpenSpec.ofChange dfaClassesSpec)

/-- ITS FALSE NEIGHBOUR: 'it returns false'. Refute it at one input. -/
def dfaClassesWrong : ChangeSpec := { name := "dfaClasses", fn := fun _ => fun
  | [d1, d2, d3, d4] => { results := [.lit (.bool false)], args := [d1, d2, d3, d4] }
  | _ => none }
def DfaClassesWrongFalsely : Prop := dfaClassesRow.holds Tryd.pinned (OpenSpec.ofChange dfaClassesWrong)

/-- 'syntagmlaw05.DfaOnce': WHATEVER THE INPUT: true; the input reads as it did. -/
def dfaOnceSpec : ChangeSpec := { name := "dfaOnce", fn := fun _ => fun
  | [d1, d2] => { results := [.lit (.bool true)], args := [d1, d2] }
  | _ => none }
def dfaOnceRow : OpenClaim := { program := "ytochckefnjobhaadoor", sum := "a78460acfe2a02bf51510315c4fec6d505f21a5e5537ad3b6408fa12e66ff533", func := "syntagm/syntagmlaw05.DfaOnce", spec := "dfaOnce", unfollowed := true, recurses := true, named := ["internal/strconv.uint64pow10", "math/bits.deBruijn32tab", "math/bits.deBruijn64tab"], plainKeys := false, apart := false, laid := [("math/bits.deBruijn32tab", laid_math_bits_deBruijn32tab), ("math/bits.deBruijn64tab", laid_math_bits_deBruijn64tab), ("internal/strconv.uint64pow10", laid_internal_strconv_uint64pow10)] }
def DfaOnceSaid : Prop := dfaOnceRow.holds Tryd.pinned (OpenSpec.ofChange dfaOnceSpec)

/-- ITS FALSE NEIGHBOUR: 'it returns false'. Refute it at one input. -/
def dfaOnceWrong : ChangeSpec := { name := "dfaOnce", fn := fun _ => fun
  | [d1, d2] => { results := [.lit (.bool false)], args := [d1, d2] }
  | _ => none }
def DfaOnceWrongFalsely : Prop := dfaOnceRow.holds Tryd.pinned (OpenSpec.ofChange dfaOnceWrong)

/-- 'syntagmlaw06.MiniRuns': WHATEVER THE INPUT: true; the input reads as it did. -/
def miniRunsSpec : ChangeSpec := { name := "miniRuns", fn := fun _ => fun
  | [d1, d2] => { results := [.lit (.bool true)], args := [d1, d2] }
  | _ => none }
def miniRunsRow : OpenClaim := { program := "ytochckefnjobhaadoor", sum := "a78460acfe2a02bf51510315c4fec6d505f21a5e5537ad3b6408fa12e66ff533", func := "syntagm/syntagmlaw06.MiniRuns", spec := "miniRuns", unfollowed := true, recurses := true, named := ["internal/strconv.uint64pow10", "math/bits.deBruijn32tab", "math/bits.deBruijn64tab"], plainKeys := false, apart := false, laid := [("math/bits.deBruijn32tab", laid_math_bits_deBruijn32tab), ("math/bits.deBruijn64tab", laid_math_bits_deBruijn64tab), ("internal/strconv.uint64pow10", laid_internal_strconv_uint64pow10)] }
def MiniRunsSaid : Prop := miniRunsRow.holds Tryd.pinned (OpenSpec.ofChange miniRunsSpec)

/-- ITS FALSE NEIGHBOUR: 'it returns false'. Refute it at one input. -/
def miniRunsWrong : ChangeSpec := { name := "miniRuns", fn := fun _ => fun
  | [d1, d2] => { results := [.lit (.bool false)], args := [d1, d2] }
  | _ => none }
def MiniRunsWrongFalsely : Prop := miniRunsRow.holds Tryd.pinned (OpenSpec.ofChange miniRunsWrong)

/-- 'syntagmlaw06.MiniNone': WHATEVER THE INPUT: true; the input reads as it did. -/
def miniNoneSpec : ChangeSpec := { name := "miniNone", fn := fun _ => fun
  | [d1, d2] => { results := [.lit (.bool true)], args := [d1, d2] }
  | _ => none }
def miniNoneRow : OpenClaim := { program := "ytochckefnjobhaadoor", sum := "a78460acfe2a02bf51510315c4fec6d505f21a5e5537ad3b6408fa12e66ff533", func := "syntagm/syntagmlaw06.MiniNone", spec := "miniNone", unfollowed := true, recurses := true, named := ["internal/strconv.uint64pow10", "math/bits.deBruijn32tab", "math/bits.deBruijn64tab"], plainKeys := false, apart := false, laid := [("math/bits.deBruijn32tab", laid_math_bits_deBruijn32tab), ("math/bits.deBruijn64tab", laid_math_bits_deBruijn64tab), ("internal/strconv.uint64pow10", laid_internal_strconv_uint64pow10)] }
def MiniNoneSaid : Prop := miniNoneRow.holds Tryd.pinned (OpenSpec.ofChange miniNoneSpec)

/-- ITS FALSE NEIGHBOUR: 'it returns false'. Refute it at one input. -/
def miniNoneWrong : ChangeSpec := { name := "miniNone", fn := fun _ => fun
  | [d1, d2] => { results := [.lit (.bool false)], args := [d1, d2] }
  | _ => none }
def MiniNoneWrongFalsely : Prop := miniNoneRow.holds Tryd.pinned (OpenSpec.ofChange miniNoneWrong)

/-- 'syntagmlaw06.MiniOrder': WHATEVER THE INPUT: true; the input reads as it did. -/
def miniOrderSpec : ChangeSpec := { name := "miniOrder", fn := fun _ => fun
  | [d] => { results := [.lit (.bool true)], args := [d] }
  | _ => none }
def miniOrderRow : OpenClaim := { program := "ytochckefnjobhaadoor", sum := "a78460acfe2a02bf51510315c4fec6d505f21a5e5537ad3b6408fa12e66ff533", func := "syntagm/syntagmlaw06.MiniOrder", spec := "miniOrder", unfollowed := true, recurses := true, named := ["internal/strconv.uint64pow10", "math/bits.deBruijn32tab", "math/bits.deBruijn64tab"], plainKeys := false, apart := false, laid := [("math/bits.deBruijn32tab", laid_math_bits_deBruijn32tab), ("math/bits.deBruijn64tab", laid_math_bits_deBruijn64tab), ("internal/strconv.uint64pow10", laid_internal_strconv_uint64pow10)] }
def MiniOrderSaid : Prop := miniOrderRow.holds Tryd.pinned (OpenSpec.ofChange miniOrderSpec)

/-- ITS FALSE NEIGHBOUR: 'it returns false'. Refute it at one input. -/
def miniOrderWrong : ChangeSpec := { name := "miniOrder", fn := fun _ => fun
  | [d] => { results := [.lit (.bool false)], args := [d] }
  | _ => none }
def MiniOrderWrongFalsely : Prop := miniOrderRow.holds Tryd.pinned (OpenSpec.ofChange miniOrderWrong)

/- THE SECOND FORM. 'bulk': how many values and letters a reading holds, each counted each time it is reached (what is shared counts as often as it is met; a slice's spare places count too). A statement '..UptoSaid' is the law's where the arguments, and the package variables that the reading takes, are together of bulk at most 1048576: NARROWER than '..Said'. Prove '..Said' where nothing that the law and all that it calls make is longer than what came in: it says more and counts as full. Else prove '..UptoSaid'. A law counts once. -/
mutual
def uptoBulk {H : Type} : DataW H → Nat
  | .lit (.string bytes) => bytes.length + 1
  | .lit _ => 1
  | .nil => 1
  | .ptr d => uptoBulk d + 1
  | .slice elems spare => uptoBulkAll elems + uptoBulkAll spare + 1
  | .agg parts => uptoBulkAll parts + 1
  | .iface _ d => uptoBulk d + 1
  | .map entries => uptoBulkEntries entries + 1
  | .held _ => 1
def uptoBulkAll {H : Type} : List (DataW H) → Nat
  | [] => 0
  | d :: r => uptoBulk d + uptoBulkAll r
def uptoBulkEntries {H : Type} : List (Lit × DataW H) → Nat
  | [] => 0
  | x :: r => uptoBulkEntry x + uptoBulkEntries r
def uptoBulkEntry {H : Type} : Lit × DataW H → Nat
  | (.string bytes, d) => bytes.length + uptoBulk d + 1
  | (_, d) => uptoBulk d + 1
 end
def uptoSmall : (H : Type) → List (DataW H) → Bool := fun _ ds => decide (uptoBulkAll ds ≤ 1048576)
def OpenSpec.upto (s : _root_.Go.ChangeSpec) : _root_.Go.OpenSpec := { _root_.Go.OpenSpec.ofChange s with cond := some uptoSmall }

/-- 'syntagmlaw05.DfaFew', WHERE WHAT IT READS IS OF BULK AT MOST 1048576: true; the input reads as it did. -/
def dfaFewUptoRow : OpenClaim := { program := "ytochckefnjobhaadoor", sum := "a78460acfe2a02bf51510315c4fec6d505f21a5e5537ad3b6408fa12e66ff533", func := "syntagm/syntagmlaw05.DfaFew", spec := "dfaFew", unfollowed := true, recurses := true, named := ["internal/strconv.uint64pow10", "math/bits.deBruijn32tab", "math/bits.deBruijn64tab"], plainKeys := false, apart := false, laid := [("math/bits.deBruijn32tab", laid_math_bits_deBruijn32tab), ("math/bits.deBruijn64tab", laid_math_bits_deBruijn64tab), ("internal/strconv.uint64pow10", laid_internal_strconv_uint64pow10)], narrowed := true }
def DfaFewUptoSaid : Prop := dfaFewUptoRow.holds Tryd.pinned (OpenSpec.upto dfaFewSpec)

/-- 'syntagmlaw05.DfaParts', WHERE WHAT IT READS IS OF BULK AT MOST 1048576: true; the input reads as it did. -/
def dfaPartsUptoRow : OpenClaim := { program := "ytochckefnjobhaadoor", sum := "a78460acfe2a02bf51510315c4fec6d505f21a5e5537ad3b6408fa12e66ff533", func := "syntagm/syntagmlaw05.DfaParts", spec := "dfaParts", unfollowed := true, recurses := true, named := ["internal/strconv.uint64pow10", "math/bits.deBruijn32tab", "math/bits.deBruijn64tab"], plainKeys := false, apart := false, laid := [("math/bits.deBruijn32tab", laid_math_bits_deBruijn32tab), ("math/bits.deBruijn64tab", laid_math_bits_deBruijn64tab), ("internal/strconv.uint64pow10", laid_internal_strconv_uint64pow10)], narrowed := true }
def DfaPartsUptoSaid : Prop := dfaPartsUptoRow.holds Tryd.pinned (OpenSpec.upto dfaPartsSpec)

/-- 'syntagmlaw05.DfaClasses', WHERE WHAT IT READS IS OF BULK AT MOST 1048576: true; the input reads as it did. -/
def dfaClassesUptoRow : OpenClaim := { program := "ytochckefnjobhaadoor", sum := "a78460acfe2a02bf51510315c4fec6d505f21a5e5537ad3b6408fa12e66ff533", func := "syntagm/syntagmlaw05.DfaClasses", spec := "dfaClasses", unfollowed := true, recurses := true, named := ["internal/strconv.uint64pow10", "math/bits.deBruijn32tab", "math/bits.deBruijn64tab"], plainKeys := false, apart := false, laid := [("math/bits.deBruijn32tab", laid_math_bits_deBruijn32tab), ("math/bits.deBruijn64tab", laid_math_bits_deBruijn64tab), ("internal/strconv.uint64pow10", laid_internal_strconv_uint64pow10)], narrowed := true }
def DfaClassesUptoSaid : Prop := dfaClassesUptoRow.holds Tryd.pinned (OpenSpec.upto dfaClassesSpec)

/-- 'syntagmlaw05.DfaOnce', WHERE WHAT IT READS IS OF BULK AT MOST 1048576: true; the input reads as it did. -/
def dfaOnceUptoRow : OpenClaim := { program := "ytochckefnjobhaadoor", sum := "a78460acfe2a02bf51510315c4fec6d505f21a5e5537ad3b6408fa12e66ff533", func := "syntagm/syntagmlaw05.DfaOnce", spec := "dfaOnce", unfollowed := true, recurses := true, named := ["internal/strconv.uint64pow10", "math/bits.deBruijn32tab", "math/bits.deBruijn64tab"], plainKeys := false, apart := false, laid := [("math/bits.deBruijn32tab", laid_math_bits_deBruijn32tab), ("math/bits.deBruijn64tab", laid_math_bits_deBruijn64tab), ("internal/strconv.uint64pow10", laid_internal_strconv_uint64pow10)], narrowed := true }
def DfaOnceUptoSaid : Prop := dfaOnceUptoRow.holds Tryd.pinned (OpenSpec.upto dfaOnceSpec)

/-- 'syntagmlaw06.MiniRuns', WHERE WHAT IT READS IS OF BULK AT MOST 1048576: true; the input reads as it did. -/
def miniRunsUptoRow : OpenClaim := { program := "ytochckefnjobhaadoor", sum := "a78460acfe2a02bf51510315c4fec6d505f21a5e5537ad3b6408fa12e66ff533", func := "syntagm/syntagmlaw06.MiniRuns", spec := "miniRuns", unfollowed := true, recurses := true, named := ["internal/strconv.uint64pow10", "math/bits.deBruijn32tab", "math/bits.deBruijn64tab"], plainKeys := false, apart := false, laid := [("math/bits.deBruijn32tab", laid_math_bits_deBruijn32tab), ("math/bits.deBruijn64tab", laid_math_bits_deBruijn64tab), ("internal/strconv.uint64pow10", laid_internal_strconv_uint64pow10)], narrowed := true }
def MiniRunsUptoSaid : Prop := miniRunsUptoRow.holds Tryd.pinned (OpenSpec.upto miniRunsSpec)

/-- 'syntagmlaw06.MiniNone', WHERE WHAT IT READS IS OF BULK AT MOST 1048576: true; the input reads as it did. -/
def miniNoneUptoRow : OpenClaim := { program := "ytochckefnjobhaadoor", sum := "a78460acfe2a02bf51510315c4fec6d505f21a5e5537ad3b6408fa12e66ff533", func := "syntagm/syntagmlaw06.MiniNone", spec := "miniNone", unfollowed := true, recurses := true, named := ["internal/strconv.uint64pow10", "math/bits.deBruijn32tab", "math/bits.deBruijn64tab"], plainKeys := false, apart := false, laid := [("math/bits.deBruijn32tab", laid_math_bits_deBruijn32tab), ("math/bits.deBruijn64tab", laid_math_bits_deBruijn64tab), ("internal/strconv.uint64pow10", laid_internal_strconv_uint64pow10)], narrowed := true }
def MiniNoneUptoSaid : Prop := miniNoneUptoRow.holds Tryd.pinned (OpenSpec.upto miniNoneSpec)

/-- 'syntagmlaw06.MiniOrder', WHERE WHAT IT READS IS OF BULK AT MOST 1048576: true; the input reads as it did. -/
def miniOrderUptoRow : OpenClaim := { program := "ytochckefnjobhaadoor", sum := "a78460acfe2a02bf51510315c4fec6d505f21a5e5537ad3b6408fa12e66ff533", func := "syntagm/syntagmlaw06.MiniOrder", spec := "miniOrder", unfollowed := true, recurses := true, named := ["internal/strconv.uint64pow10", "math/bits.deBruijn32tab", "math/bits.deBruijn64tab"], plainKeys := false, apart := false, laid := [("math/bits.deBruijn32tab", laid_math_bits_deBruijn32tab), ("math/bits.deBruijn64tab", laid_math_bits_deBruijn64tab), ("internal/strconv.uint64pow10", laid_internal_strconv_uint64pow10)], narrowed := true }
def MiniOrderUptoSaid : Prop := miniOrderUptoRow.holds Tryd.pinned (OpenSpec.upto miniOrderSpec)

end Rows
end Go.Proofs.YtochckefnjobhaaDoor
