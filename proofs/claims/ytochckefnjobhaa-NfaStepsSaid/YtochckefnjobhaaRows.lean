/-
  No cell of these rows narrows 'for every input' (looked for: loops, veiled, ifaces, maps, wideKeys, modest, calm, conditions, laid).
  DERIVED. THE GIVEN ROWS OF THIS SEAT. 5 by the template 'for every input the law returns true; each argument reads behind the call as it read before'; 0 by the template 'total and deterministic' (their statements: YtochckefnjobhaaTotals.lean).
  GIVEN WITH THE SEED: the statements are not yours to turn. If you find one false, say at which input.
  Laid BY PROGRAM, IN A SANDBOX (cutbox-rows.mjs): the forced cells as the released guide's own fill.sh prints them over the translation 744dbf942b7a2e53… (all of the seat's roots in one cut). By AI agents, Wed Nov 11 2026. No macro, syntax, notation, axiom, sorry.
-/
import Derived.Test.YtochckefnjobhaaChecked
import GoSem.Claim
import GoSem.ClaimJoined
import GoSem.ClaimMapViews
import Derived.JoinedTies
import Derived.KernelRfl
namespace Go.Proofs.Ytochckefnjobhaa
/- THE CELL 'sum', in the pinned program and in every row, IS THE sha256 OF THE DUMP (.gsa) THAT YtochckefnjobhaaProg.lean LOADS. Nothing in Lean hashes anything: it is a label: what it is worth is what the hold of that sum in a sandbox is worth. -/
noncomputable def Try.pinned : Pinned := { name := "ytochckefnjobhaa", sum := "744dbf942b7a2e533c87bd2c785b0c45590d6148e00155652e80e079aaa6327c", checked := Try.checked }
namespace Rows
def none {H : Type} : Left H := { results := [], args := [] }

/-- 'syntagmlaw04.NfaMany': WHATEVER THE INPUT: true; the input reads as it did. -/
def nfaManySpec : ChangeSpec := { name := "nfaMany", fn := fun _ => fun
  | [d1, d2] => { results := [.lit (.bool true)], args := [d1, d2] }
  | _ => none }
def nfaManyRow : OpenClaim := { program := "ytochckefnjobhaa", sum := "744dbf942b7a2e533c87bd2c785b0c45590d6148e00155652e80e079aaa6327c", func := "syntagm/syntagmlaw04.NfaMany", spec := "nfaMany", unfollowed := true, recurses := true, apart := false }
def NfaManySaid : Prop := nfaManyRow.holds Try.pinned (OpenSpec.ofChange nfaManySpec)

/-- ITS FALSE NEIGHBOUR: 'it returns false'. Refute it at one input. -/
def nfaManyWrong : ChangeSpec := { name := "nfaMany", fn := fun _ => fun
  | [d1, d2] => { results := [.lit (.bool false)], args := [d1, d2] }
  | _ => none }
def NfaManyWrongFalsely : Prop := nfaManyRow.holds Try.pinned (OpenSpec.ofChange nfaManyWrong)

/-- 'syntagmlaw04.NfaSteps': WHATEVER THE INPUT: true; the input reads as it did. -/
def nfaStepsSpec : ChangeSpec := { name := "nfaSteps", fn := fun _ => fun
  | [d1, d2, d3] => { results := [.lit (.bool true)], args := [d1, d2, d3] }
  | _ => none }
def nfaStepsRow : OpenClaim := { program := "ytochckefnjobhaa", sum := "744dbf942b7a2e533c87bd2c785b0c45590d6148e00155652e80e079aaa6327c", func := "syntagm/syntagmlaw04.NfaSteps", spec := "nfaSteps", unfollowed := true, recurses := true, apart := false }
def NfaStepsSaid : Prop := nfaStepsRow.holds Try.pinned (OpenSpec.ofChange nfaStepsSpec)

/-- ITS FALSE NEIGHBOUR: 'it returns false'. Refute it at one input. -/
def nfaStepsWrong : ChangeSpec := { name := "nfaSteps", fn := fun _ => fun
  | [d1, d2, d3] => { results := [.lit (.bool false)], args := [d1, d2, d3] }
  | _ => none }
def NfaStepsWrongFalsely : Prop := nfaStepsRow.holds Try.pinned (OpenSpec.ofChange nfaStepsWrong)

/-- 'syntagmlaw04.NfaApart': WHATEVER THE INPUT: true; the input reads as it did. -/
def nfaApartSpec : ChangeSpec := { name := "nfaApart", fn := fun _ => fun
  | [d1, d2, d3] => { results := [.lit (.bool true)], args := [d1, d2, d3] }
  | _ => none }
def nfaApartRow : OpenClaim := { program := "ytochckefnjobhaa", sum := "744dbf942b7a2e533c87bd2c785b0c45590d6148e00155652e80e079aaa6327c", func := "syntagm/syntagmlaw04.NfaApart", spec := "nfaApart", unfollowed := true, recurses := true, apart := false }
def NfaApartSaid : Prop := nfaApartRow.holds Try.pinned (OpenSpec.ofChange nfaApartSpec)

/-- ITS FALSE NEIGHBOUR: 'it returns false'. Refute it at one input. -/
def nfaApartWrong : ChangeSpec := { name := "nfaApart", fn := fun _ => fun
  | [d1, d2, d3] => { results := [.lit (.bool false)], args := [d1, d2, d3] }
  | _ => none }
def NfaApartWrongFalsely : Prop := nfaApartRow.holds Try.pinned (OpenSpec.ofChange nfaApartWrong)

/-- 'syntagmlaw04.NfaTwice': WHATEVER THE INPUT: true; the input reads as it did. -/
def nfaTwiceSpec : ChangeSpec := { name := "nfaTwice", fn := fun _ => fun
  | [d1, d2] => { results := [.lit (.bool true)], args := [d1, d2] }
  | _ => none }
def nfaTwiceRow : OpenClaim := { program := "ytochckefnjobhaa", sum := "744dbf942b7a2e533c87bd2c785b0c45590d6148e00155652e80e079aaa6327c", func := "syntagm/syntagmlaw04.NfaTwice", spec := "nfaTwice", unfollowed := true, recurses := true, apart := false }
def NfaTwiceSaid : Prop := nfaTwiceRow.holds Try.pinned (OpenSpec.ofChange nfaTwiceSpec)

/-- ITS FALSE NEIGHBOUR: 'it returns false'. Refute it at one input. -/
def nfaTwiceWrong : ChangeSpec := { name := "nfaTwice", fn := fun _ => fun
  | [d1, d2] => { results := [.lit (.bool false)], args := [d1, d2] }
  | _ => none }
def NfaTwiceWrongFalsely : Prop := nfaTwiceRow.holds Try.pinned (OpenSpec.ofChange nfaTwiceWrong)

/-- 'syntagmlaw04.NfaNothing': WHATEVER THE INPUT: true; the input reads as it did. -/
def nfaNothingSpec : ChangeSpec := { name := "nfaNothing", fn := fun _ => fun
  | [d1, d2, d3] => { results := [.lit (.bool true)], args := [d1, d2, d3] }
  | _ => none }
def nfaNothingRow : OpenClaim := { program := "ytochckefnjobhaa", sum := "744dbf942b7a2e533c87bd2c785b0c45590d6148e00155652e80e079aaa6327c", func := "syntagm/syntagmlaw04.NfaNothing", spec := "nfaNothing", unfollowed := true, recurses := true, apart := false }
def NfaNothingSaid : Prop := nfaNothingRow.holds Try.pinned (OpenSpec.ofChange nfaNothingSpec)

/-- ITS FALSE NEIGHBOUR: 'it returns false'. Refute it at one input. -/
def nfaNothingWrong : ChangeSpec := { name := "nfaNothing", fn := fun _ => fun
  | [d1, d2, d3] => { results := [.lit (.bool false)], args := [d1, d2, d3] }
  | _ => none }
def NfaNothingWrongFalsely : Prop := nfaNothingRow.holds Try.pinned (OpenSpec.ofChange nfaNothingWrong)

/- THE SECOND FORM. 'bulk': how many values and letters a reading holds, each counted each time it is reached (what is shared counts as often as it is met; a slice's spare places count too). A statement '..UptoSaid' is the law's where the arguments, and the package variables that the reading takes, are together of bulk at most 1048576: NARROWER than '..Said'. Prove '..Said' where nothing that the law and all that it calls make is longer than what came in: it says more and counts as full. Else prove '..UptoSaid'. A law counts once. -/
mutual
def uptoBulk {H : Type} : DataW H → Nat
  | .lit (.string bytes) => bytes.length + 1
  | .lit _ => 1
  | .nil => 1
  | .ptr d => uptoBulk d + 1
  | .slice elems spare => uptoBulkAll elems + uptoBulkAll spare + 1
  | .agg parts => uptoBulkAll parts + 1
  | .iface _ d => uptoBulk d + 1
  | .map entries => uptoBulkEntries entries + 1
  | .held _ => 1
def uptoBulkAll {H : Type} : List (DataW H) → Nat
  | [] => 0
  | d :: r => uptoBulk d + uptoBulkAll r
def uptoBulkEntries {H : Type} : List (Lit × DataW H) → Nat
  | [] => 0
  | x :: r => uptoBulkEntry x + uptoBulkEntries r
def uptoBulkEntry {H : Type} : Lit × DataW H → Nat
  | (.string bytes, d) => bytes.length + uptoBulk d + 1
  | (_, d) => uptoBulk d + 1
 end
def uptoSmall : (H : Type) → List (DataW H) → Bool := fun _ ds => decide (uptoBulkAll ds ≤ 1048576)
def OpenSpec.upto (s : _root_.Go.ChangeSpec) : _root_.Go.OpenSpec := { _root_.Go.OpenSpec.ofChange s with cond := some uptoSmall }

/-- 'syntagmlaw04.NfaMany', WHERE WHAT IT READS IS OF BULK AT MOST 1048576: true; the input reads as it did. -/
def nfaManyUptoRow : OpenClaim := { program := "ytochckefnjobhaa", sum := "744dbf942b7a2e533c87bd2c785b0c45590d6148e00155652e80e079aaa6327c", func := "syntagm/syntagmlaw04.NfaMany", spec := "nfaMany", unfollowed := true, recurses := true, apart := false, narrowed := true }
def NfaManyUptoSaid : Prop := nfaManyUptoRow.holds Try.pinned (OpenSpec.upto nfaManySpec)

/-- 'syntagmlaw04.NfaSteps', WHERE WHAT IT READS IS OF BULK AT MOST 1048576: true; the input reads as it did. -/
def nfaStepsUptoRow : OpenClaim := { program := "ytochckefnjobhaa", sum := "744dbf942b7a2e533c87bd2c785b0c45590d6148e00155652e80e079aaa6327c", func := "syntagm/syntagmlaw04.NfaSteps", spec := "nfaSteps", unfollowed := true, recurses := true, apart := false, narrowed := true }
def NfaStepsUptoSaid : Prop := nfaStepsUptoRow.holds Try.pinned (OpenSpec.upto nfaStepsSpec)

/-- 'syntagmlaw04.NfaApart', WHERE WHAT IT READS IS OF BULK AT MOST 1048576: true; the input reads as it did. -/
def nfaApartUptoRow : OpenClaim := { program := "ytochckefnjobhaa", sum := "744dbf942b7a2e533c87bd2c785b0c45590d6148e00155652e80e079aaa6327c", func := "syntagm/syntagmlaw04.NfaApart", spec := "nfaApart", unfollowed := true, recurses := true, apart := false, narrowed := true }
def NfaApartUptoSaid : Prop := nfaApartUptoRow.holds Try.pinned (OpenSpec.upto nfaApartSpec)

/-- 'syntagmlaw04.NfaTwice', WHERE WHAT IT READS IS OF BULK AT MOST 1048576: true; the input reads as it did. -/
def nfaTwiceUptoRow : OpenClaim := { program := "ytochckefnjobhaa", sum := "744dbf942b7a2e533c87bd2c785b0c45590d6148e00155652e80e079aaa6327c", func := "syntagm/syntagmlaw04.NfaTwice", spec := "nfaTwice", unfollowed := true, recurses := true, apart := false, narrowed := true }
def NfaTwiceUptoSaid : Prop := nfaTwiceUptoRow.holds Try.pinned (OpenSpec.upto nfaTwiceSpec)

/-- 'syntagmlaw04.NfaNothing', WHERE WHAT IT READS IS OF BULK AT MOST 1048576: true; the input reads as it did. -/
def nfaNothingUptoRow : OpenClaim := { program := "ytochckefnjobhaa", sum := "744dbf942b7a2e533c87bd2c785b0c45590d6148e00155652e80e079aaa6327c", func := "syntagm/syntagmlaw04.NfaNothing", spec := "nfaNothing", unfollowed := true, recurses := true, apart := false, narrowed := true }
def NfaNothingUptoSaid : Prop := nfaNothingUptoRow.holds Try.pinned (OpenSpec.upto nfaNothingSpec)

end Rows
end Go.Proofs.Ytochckefnjobhaa
