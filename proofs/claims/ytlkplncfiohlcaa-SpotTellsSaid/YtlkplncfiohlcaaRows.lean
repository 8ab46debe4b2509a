/-
  No cell of these rows narrows 'for every input' (looked for: loops, veiled, ifaces, maps, wideKeys, modest, calm, conditions, laid).
  DERIVED. THE GIVEN ROWS OF THIS SEAT. 11 by the template 'for every input the law returns true; each argument reads behind the call as it read before'; 0 by the template 'total and deterministic' (their statements: YtlkplncfiohlcaaTotals.lean).
  GIVEN WITH THE SEED: the statements are not yours to turn. If you find one false, say at which input.
  Laid BY PROGRAM, IN A SANDBOX (cutbox-rows.mjs): the forced cells as the released guide's own fill.sh prints them over the translation bbe692f4a3d77a51… (all of the seat's roots in one cut). By AI agents, Wed Nov 11 2026. No macro, syntax, notation, axiom, sorry.
-/
import Derived.Test.YtlkplncfiohlcaaChecked
import GoSem.Claim
import GoSem.ClaimJoined
import GoSem.ClaimMapViews
import Derived.JoinedTies
import Derived.KernelRfl
namespace Go.Proofs.Ytlkplncfiohlcaa
/- THE CELL 'sum', in the pinned program and in every row, IS THE sha256 OF THE DUMP (.gsa) THAT YtlkplncfiohlcaaProg.lean LOADS. Nothing in Lean hashes anything: it is a label: what it is worth is what the hold of that sum in a sandbox is worth. -/
noncomputable def Try.pinned : Pinned := { name := "ytlkplncfiohlcaa", sum := "bbe692f4a3d77a510baafc95342fc9334b79f2769fa4f364dd1abccd63219165", checked := Try.checked }
namespace Rows
def none {H : Type} : Left H := { results := [], args := [] }

/-- 'syntagmlaw01.BitsTell': WHATEVER THE INPUT: true; the input reads as it did. -/
def bitsTellSpec : ChangeSpec := { name := "bitsTell", fn := fun _ => fun
  | [d1, d2, d3, d4] => { results := [.lit (.bool true)], args := [d1, d2, d3, d4] }
  | _ => none }
def bitsTellRow : OpenClaim := { program := "ytlkplncfiohlcaa", sum := "bbe692f4a3d77a510baafc95342fc9334b79f2769fa4f364dd1abccd63219165", func := "syntagm/syntagmlaw01.BitsTell", spec := "bitsTell", unfollowed := true, recurses := true, apart := false }
def BitsTellSaid : Prop := bitsTellRow.holds Try.pinned (OpenSpec.ofChange bitsTellSpec)

/-- ITS FALSE NEIGHBOUR: 'it returns false'. Refute it at one input. -/
def bitsTellWrong : ChangeSpec := { name := "bitsTell", fn := fun _ => fun
  | [d1, d2, d3, d4] => { results := [.lit (.bool false)], args := [d1, d2, d3, d4] }
  | _ => none }
def BitsTellWrongFalsely : Prop := bitsTellRow.holds Try.pinned (OpenSpec.ofChange bitsTellWrong)

/-- 'syntagmlaw01.BitsAll': WHATEVER THE INPUT: true; the input reads as it did. -/
def bitsAllSpec : ChangeSpec := { name := "bitsAll", fn := fun _ => fun
  | [d1, d2] => { results := [.lit (.bool true)], args := [d1, d2] }
  | _ => none }
def bitsAllRow : OpenClaim := { program := "ytlkplncfiohlcaa", sum := "bbe692f4a3d77a510baafc95342fc9334b79f2769fa4f364dd1abccd63219165", func := "syntagm/syntagmlaw01.BitsAll", spec := "bitsAll", unfollowed := true, recurses := true, apart := false }
def BitsAllSaid : Prop := bitsAllRow.holds Try.pinned (OpenSpec.ofChange bitsAllSpec)

/-- ITS FALSE NEIGHBOUR: 'it returns false'. Refute it at one input. -/
def bitsAllWrong : ChangeSpec := { name := "bitsAll", fn := fun _ => fun
  | [d1, d2] => { results := [.lit (.bool false)], args := [d1, d2] }
  | _ => none }
def BitsAllWrongFalsely : Prop := bitsAllRow.holds Try.pinned (OpenSpec.ofChange bitsAllWrong)

/-- 'syntagmlaw01.BitsLaws': WHATEVER THE INPUT: true; the input reads as it did. -/
def bitsLawsSpec : ChangeSpec := { name := "bitsLaws", fn := fun _ => fun
  | [d1, d2, d3] => { results := [.lit (.bool true)], args := [d1, d2, d3] }
  | _ => none }
def bitsLawsRow : OpenClaim := { program := "ytlkplncfiohlcaa", sum := "bbe692f4a3d77a510baafc95342fc9334b79f2769fa4f364dd1abccd63219165", func := "syntagm/syntagmlaw01.BitsLaws", spec := "bitsLaws", unfollowed := true, recurses := true, apart := false }
def BitsLawsSaid : Prop := bitsLawsRow.holds Try.pinned (OpenSpec.ofChange bitsLawsSpec)

/-- ITS FALSE NEIGHBOUR: 'it returns false'. Refute it at one input. -/
def bitsLawsWrong : ChangeSpec := { name := "bitsLaws", fn := fun _ => fun
  | [d1, d2, d3] => { results := [.lit (.bool false)], args := [d1, d2, d3] }
  | _ => none }
def BitsLawsWrongFalsely : Prop := bitsLawsRow.holds Try.pinned (OpenSpec.ofChange bitsLawsWrong)

/-- 'syntagmlaw01.BitsBack': WHATEVER THE INPUT: true; the input reads as it did. -/
def bitsBackSpec : ChangeSpec := { name := "bitsBack", fn := fun _ => fun
  | [d1, d2] => { results := [.lit (.bool true)], args := [d1, d2] }
  | _ => none }
def bitsBackRow : OpenClaim := { program := "ytlkplncfiohlcaa", sum := "bbe692f4a3d77a510baafc95342fc9334b79f2769fa4f364dd1abccd63219165", func := "syntagm/syntagmlaw01.BitsBack", spec := "bitsBack", unfollowed := true, recurses := true, apart := false }
def BitsBackSaid : Prop := bitsBackRow.holds Try.pinned (OpenSpec.ofChange bitsBackSpec)

/-- ITS FALSE NEIGHBOUR: 'it returns false'. Refute it at one input. -/
def bitsBackWrong : ChangeSpec := { name := "bitsBack", fn := fun _ => fun
  | [d1, d2] => { results := [.lit (.bool false)], args := [d1, d2] }
  | _ => none }
def BitsBackWrongFalsely : Prop := bitsBackRow.holds Try.pinned (OpenSpec.ofChange bitsBackWrong)

/-- 'syntagmlaw01.BitsFirst': WHATEVER THE INPUT: true; the input reads as it did. -/
def bitsFirstSpec : ChangeSpec := { name := "bitsFirst", fn := fun _ => fun
  | [d] => { results := [.lit (.bool true)], args := [d] }
  | _ => none }
def bitsFirstRow : OpenClaim := { program := "ytlkplncfiohlcaa", sum := "bbe692f4a3d77a510baafc95342fc9334b79f2769fa4f364dd1abccd63219165", func := "syntagm/syntagmlaw01.BitsFirst", spec := "bitsFirst", unfollowed := true, recurses := true, apart := false }
def BitsFirstSaid : Prop := bitsFirstRow.holds Try.pinned (OpenSpec.ofChange bitsFirstSpec)

/-- ITS FALSE NEIGHBOUR: 'it returns false'. Refute it at one input. -/
def bitsFirstWrong : ChangeSpec := { name := "bitsFirst", fn := fun _ => fun
  | [d] => { results := [.lit (.bool false)], args := [d] }
  | _ => none }
def BitsFirstWrongFalsely : Prop := bitsFirstRow.holds Try.pinned (OpenSpec.ofChange bitsFirstWrong)

/-- 'syntagmlaw02.SpotTells': WHATEVER THE INPUT: true; the input reads as it did. -/
def spotTellsSpec : ChangeSpec := { name := "spotTells", fn := fun _ => fun
  | [d1, d2, d3, d4, d5] => { results := [.lit (.bool true)], args := [d1, d2, d3, d4, d5] }
  | _ => none }
def spotTellsRow : OpenClaim := { program := "ytlkplncfiohlcaa", sum := "bbe692f4a3d77a510baafc95342fc9334b79f2769fa4f364dd1abccd63219165", func := "syntagm/syntagmlaw02.SpotTells", spec := "spotTells", inPlace := ["internal/bytealg.CountString", "internal/bytealg.IndexByteString", "internal/bytealg.IndexString"], named := ["internal/bytealg.MaxLen"], apart := false }
def SpotTellsSaid : Prop := spotTellsRow.holds Try.pinned (OpenSpec.ofChange spotTellsSpec)

/-- ITS FALSE NEIGHBOUR: 'it returns false'. Refute it at one input. -/
def spotTellsWrong : ChangeSpec := { name := "spotTells", fn := fun _ => fun
  | [d1, d2, d3, d4, d5] => { results := [.lit (.bool false)], args := [d1, d2, d3, d4, d5] }
  | _ => none }
def SpotTellsWrongFalsely : Prop := spotTellsRow.holds Try.pinned (OpenSpec.ofChange spotTellsWrong)

/-- 'syntagmlaw02.SpotBack': WHATEVER THE INPUT: true; the input reads as it did. -/
def spotBackSpec : ChangeSpec := { name := "spotBack", fn := fun _ => fun
  | [d1, d2, d3] => { results := [.lit (.bool true)], args := [d1, d2, d3] }
  | _ => none }
def spotBackRow : OpenClaim := { program := "ytlkplncfiohlcaa", sum := "bbe692f4a3d77a510baafc95342fc9334b79f2769fa4f364dd1abccd63219165", func := "syntagm/syntagmlaw02.SpotBack", spec := "spotBack", inPlace := ["internal/bytealg.CountString", "internal/bytealg.IndexByteString", "internal/bytealg.IndexString"], named := ["internal/bytealg.MaxLen"], apart := false }
def SpotBackSaid : Prop := spotBackRow.holds Try.pinned (OpenSpec.ofChange spotBackSpec)

/-- ITS FALSE NEIGHBOUR: 'it returns false'. Refute it at one input. -/
def spotBackWrong : ChangeSpec := { name := "spotBack", fn := fun _ => fun
  | [d1, d2, d3] => { results := [.lit (.bool false)], args := [d1, d2, d3] }
  | _ => none }
def SpotBackWrongFalsely : Prop := spotBackRow.holds Try.pinned (OpenSpec.ofChange spotBackWrong)

/-- 'syntagmlaw02.SpotMoves': WHATEVER THE INPUT: true; the input reads as it did. -/
def spotMovesSpec : ChangeSpec := { name := "spotMoves", fn := fun _ => fun
  | [d1, d2, d3] => { results := [.lit (.bool true)], args := [d1, d2, d3] }
  | _ => none }
def spotMovesRow : OpenClaim := { program := "ytlkplncfiohlcaa", sum := "bbe692f4a3d77a510baafc95342fc9334b79f2769fa4f364dd1abccd63219165", func := "syntagm/syntagmlaw02.SpotMoves", spec := "spotMoves", inPlace := ["internal/bytealg.CountString", "internal/bytealg.IndexByteString", "internal/bytealg.IndexString"], named := ["internal/bytealg.MaxLen"], apart := false }
def SpotMovesSaid : Prop := spotMovesRow.holds Try.pinned (OpenSpec.ofChange spotMovesSpec)

/-- ITS FALSE NEIGHBOUR: 'it returns false'. Refute it at one input. -/
def spotMovesWrong : ChangeSpec := { name := "spotMoves", fn := fun _ => fun
  | [d1, d2, d3] => { results := [.lit (.bool false)], args := [d1, d2, d3] }
  | _ => none }
def SpotMovesWrongFalsely : Prop := spotMovesRow.holds Try.pinned (OpenSpec.ofChange spotMovesWrong)

/-- 'syntagmlaw02.SpotLines': WHATEVER THE INPUT: true; the input reads as it did. -/
def spotLinesSpec : ChangeSpec := { name := "spotLines", fn := fun _ => fun
  | [d] => { results := [.lit (.bool true)], args := [d] }
  | _ => none }
def spotLinesRow : OpenClaim := { program := "ytlkplncfiohlcaa", sum := "bbe692f4a3d77a510baafc95342fc9334b79f2769fa4f364dd1abccd63219165", func := "syntagm/syntagmlaw02.SpotLines", spec := "spotLines", inPlace := ["internal/bytealg.CountString", "internal/bytealg.IndexByteString", "internal/bytealg.IndexString"], named := ["internal/bytealg.MaxLen"], apart := false }
def SpotLinesSaid : Prop := spotLinesRow.holds Try.pinned (OpenSpec.ofChange spotLinesSpec)

/-- ITS FALSE NEIGHBOUR: 'it returns false'. Refute it at one input. -/
def spotLinesWrong : ChangeSpec := { name := "spotLines", fn := fun _ => fun
  | [d] => { results := [.lit (.bool false)], args := [d] }
  | _ => none }
def SpotLinesWrongFalsely : Prop := spotLinesRow.holds Try.pinned (OpenSpec.ofChange spotLinesWrong)

/-- 'syntagmlaw02.SpotOrder': WHATEVER THE INPUT: true; the input reads as it did. -/
def spotOrderSpec : ChangeSpec := { name := "spotOrder", fn := fun _ => fun
  | [d1, d2] => { results := [.lit (.bool true)], args := [d1, d2] }
  | _ => none }
def spotOrderRow : OpenClaim := { program := "ytlkplncfiohlcaa", sum := "bbe692f4a3d77a510baafc95342fc9334b79f2769fa4f364dd1abccd63219165", func := "syntagm/syntagmlaw02.SpotOrder", spec := "spotOrder", inPlace := ["internal/bytealg.CountString", "internal/bytealg.IndexByteString", "internal/bytealg.IndexString"], named := ["internal/bytealg.MaxLen"], apart := false }
def SpotOrderSaid : Prop := spotOrderRow.holds Try.pinned (OpenSpec.ofChange spotOrderSpec)

/-- ITS FALSE NEIGHBOUR: 'it returns false'. Refute it at one input. -/
def spotOrderWrong : ChangeSpec := { name := "spotOrder", fn := fun _ => fun
  | [d1, d2] => { results := [.lit (.bool false)], args := [d1, d2] }
  | _ => none }
def SpotOrderWrongFalsely : Prop := spotOrderRow.holds Try.pinned (OpenSpec.ofChange spotOrderWrong)

/-- 'syntagmlaw02.SpotMany': WHATEVER THE INPUT: true; the input reads as it did. -/
def spotManySpec : ChangeSpec := { name := "spotMany", fn := fun _ => fun
  | [d1, d2, d3] => { results := [.lit (.bool true)], args := [d1, d2, d3] }
  | _ => none }
def spotManyRow : OpenClaim := { program := "ytlkplncfiohlcaa", sum := "bbe692f4a3d77a510baafc95342fc9334b79f2769fa4f364dd1abccd63219165", func := "syntagm/syntagmlaw02.SpotMany", spec := "spotMany", inPlace := ["internal/bytealg.CountString", "internal/bytealg.IndexByteString", "internal/bytealg.IndexString"], named := ["internal/bytealg.MaxLen"], apart := false }
def SpotManySaid : Prop := spotManyRow.holds Try.pinned (OpenSpec.ofChange spotManySpec)

/-- ITS FALSE NEIGHBOUR: 'it returns false'. Refute it at one input. -/
def spotManyWrong : ChangeSpec := { name := "spotMany", fn := fun _ => fun
  | [d1, d2, d3] => { results := [.lit (.bool false)], args := [d1, d2, d3] }
  | _ => none }
def SpotManyWrongFalsely : Prop := spotManyRow.holds Try.pinned (OpenSpec.ofChange spotManyWrong)

/- THE SECOND FORM. 'bulk': how many values and letters a reading holds, each counted each time it is reached (what is shared counts as often as it is met; a slice's spare places count too). A statement '..UptoSaid' is the law's where the arguments, and the package variables that the reading takes, are together of bulk at most 1048576: NARROWER than '..Said'. Prove '..Said' where nothing that the law and all that it calls make is longer than what came in: it says more and counts as full. Else prove '..UptoSaid'. A law counts once. -/
mutual
def uptoBulk {H : Type} : DataW H → Nat
  | .lit (.string bytes) => bytes.length + 1
  | .lit _ => 1
  | .nil => 1
  | .ptr d => uptoBulk d + 1
  | .slice elems spare => uptoBulkAll elems + uptoBulkAll spare + 1
  | .agg parts => uptoBulkAll parts + 1
  | .iface _ d => uptoBulk d + 1
  | .map entries => uptoBulkEntries entries + 1
  | .held _ => 1
def uptoBulkAll {H : Type} : List (DataW H) → Nat
  | [] => 0
  | d :: r => uptoBulk d + uptoBulkAll r
def uptoBulkEntries {H : Type} : List (Lit × DataW H) → Nat
  | [] => 0
  | x :: r => uptoBulkEntry x + uptoBulkEntries r
def uptoBulkEntry {H : Type} : Lit × DataW H → Nat
  | (.string bytes, d) => bytes.length + uptoBulk d + 1
  | (_, d) => uptoBulk d + 1
 end
def uptoSmall : (H : Type) → List (DataW H) → Bool := fun _ ds => decide (uptoBulkAll ds ≤ 1048576)
def OpenSpec.upto (s : _root_.Go.ChangeSpec) : _root_.Go.OpenSpec := { _root_.Go.OpenSpec.ofChange s with cond := some uptoSmall }

/-- 'syntagmlaw01.BitsTell', WHERE WHAT IT READS IS OF BULK AT MOST 1048576: true; the input reads as it did. -/
def bitsTellUptoRow : OpenClaim := { program := "ytlkplncfiohlcaa", sum := "bbe692f4a3d77a510baafc95342fc9334b79f2769fa4f364dd1abccd63219165", func := "syntagm/syntagmlaw01.BitsTell", spec := "bitsTell", unfollowed := true, recurses := true, apart := false, narrowed := true }
def BitsTellUptoSaid : Prop := bitsTellUptoRow.holds Try.pinned (OpenSpec.upto bitsTellSpec)

/-- 'syntagmlaw01.BitsAll', WHERE WHAT IT READS IS OF BULK AT MOST 1048576: true; the input reads as it did. -/
def bitsAllUptoRow : OpenClaim := { program := "ytlkplncfiohlcaa", sum := "bbe692f4a3d77a510baafc95342fc9334b79f2769fa4f364dd1abccd63219165", func := "syntagm/syntagmlaw01.BitsAll", spec := "bitsAll", unfollowed := true, recurses := true, apart := false, narrowed := true }
def BitsAllUptoSaid : Prop := bitsAllUptoRow.holds Try.pinned (OpenSpec.upto bitsAllSpec)

/-- 'syntagmlaw01.BitsLaws', WHERE WHAT IT READS IS OF BULK AT MOST 1048576: true; the input reads as it did. -/
def bitsLawsUptoRow : OpenClaim := { program := "ytlkplncfiohlcaa", sum := "bbe692f4a3d77a510baafc95342fc9334b79f2769fa4f364dd1abccd63219165", func := "syntagm/syntagmlaw01.BitsLaws", spec := "bitsLaws", unfollowed := true, recurses := true, apart := false, narrowed := true }
def BitsLawsUptoSaid : Prop := bitsLawsUptoRow.holds Try.pinned (OpenSpec.upto bitsLawsSpec)

/-- 'syntagmlaw01.BitsBack', WHERE WHAT IT READS IS OF BULK AT MOST 1048576: true; the input reads as it did. -/
def bitsBackUptoRow : OpenClaim := { program := "ytlkplncfiohlcaa", sum := "bbe692f4a3d77a510baafc95342fc9334b79f2769fa4f364dd1abccd63219165", func := "syntagm/syntagmlaw01.BitsBack", spec := "bitsBack", unfollowed := true, recurses := true, apart := false, narrowed := true }
def BitsBackUptoSaid : Prop := bitsBackUptoRow.holds Try.pinned (OpenSpec.upto bitsBackSpec)

/-- 'syntagmlaw01.BitsFirst', WHERE WHAT IT READS IS OF BULK AT MOST 1048576: true; the input reads as it did. -/
def bitsFirstUptoRow : OpenClaim := { program := "ytlkplncfiohlcaa", sum := "bbe692f4a3d77a510baafc95342fc9334b79f2769fa4f364dd1abccd63219165", func := "syntagm/syntagmlaw01.BitsFirst", spec := "bitsFirst", unfollowed := true, recurses := true, apart := false, narrowed := true }
def BitsFirstUptoSaid : Prop := bitsFirstUptoRow.holds Try.pinned (OpenSpec.upto bitsFirstSpec)

/-- 'syntagmlaw02.SpotTells', WHERE WHAT IT READS IS OF BULK AT MOST 1048576: true; the input reads as it did. -/
def spotTellsUptoRow : OpenClaim := { program := "ytlkplncfiohlcaa", sum := "bbe692f4a3d77a510baafc95342fc9334b79f2769fa4f364dd1abccd63219165", func := "syntagm/syntagmlaw02.SpotTells", spec := "spotTells", inPlace := ["internal/bytealg.CountString", "internal/bytealg.IndexByteString", "internal/bytealg.IndexString"], named := ["internal/bytealg.MaxLen"], apart := false, narrowed := true }
def SpotTellsUptoSaid : Prop := spotTellsUptoRow.holds Try.pinned (OpenSpec.upto spotTellsSpec)

/-- 'syntagmlaw02.SpotBack', WHERE WHAT IT READS IS OF BULK AT MOST 1048576: true; the input reads as it did. -/
def spotBackUptoRow : OpenClaim := { program := "ytlkplncfiohlcaa", sum := "bbe692f4a3d77a510baafc95342fc9334b79f2769fa4f364dd1abccd63219165", func := "syntagm/syntagmlaw02.SpotBack", spec := "spotBack", inPlace := ["internal/bytealg.CountString", "internal/bytealg.IndexByteString", "internal/bytealg.IndexString"], named := ["internal/bytealg.MaxLen"], apart := false, narrowed := true }
def SpotBackUptoSaid : Prop := spotBackUptoRow.holds Try.pinned (OpenSpec.upto spotBackSpec)

/-- 'syntagmlaw02.SpotMoves', WHERE WHAT IT READS IS OF BULK AT MOST 1048576: true; the input reads as it did. -/
def spotMovesUptoRow : OpenClaim := { program := "ytlkplncfiohlcaa", sum := "bbe692f4a3d77a510baafc95342fc9334b79f2769fa4f364dd1abccd63219165", func := "syntagm/syntagmlaw02.SpotMoves", spec := "spotMoves", inPlace := ["internal/bytealg.CountString", "internal/bytealg.IndexByteString", "internal/bytealg.IndexString"], named := ["internal/bytealg.MaxLen"], apart := false, narrowed := true }
def SpotMovesUptoSaid : Prop := spotMovesUptoRow.holds Try.pinned (OpenSpec.upto spotMovesSpec)

/-- 'syntagmlaw02.SpotLines', WHERE WHAT IT READS IS OF BULK AT MOST 1048576: true; the input reads as it did. -/
def spotLinesUptoRow : OpenClaim := { program := "ytlkplncfiohlcaa", sum := "bbe692f4a3d77a510baafc95342fc9334b79f2769fa4f364dd1abccd63219165", func := "syntagm/syntagmlaw02.SpotLines", spec := "spotLines", inPlace := ["internal/bytealg.CountString", "internal/bytealg.IndexByteString", "internal/bytealg.IndexString"], named := ["internal/bytealg.MaxLen"], apart := false, narrowed := true }
def SpotLinesUptoSaid : Prop := spotLinesUptoRow.holds Try.pinned (OpenSpec.upto spotLinesSpec)

/-- 'syntagmlaw02.SpotOrder', WHERE WHAT IT READS IS OF BULK AT MOST 1048576: true; the input reads as it did. -/
def spotOrderUptoRow : OpenClaim := { program := "ytlkplncfiohlcaa", sum := "bbe692f4a3d77a510baafc95342fc9334b79f2769fa4f364dd1abccd63219165", func := "syntagm/syntagmlaw02.SpotOrder", spec := "spotOrder", inPlace := ["internal/bytealg.CountString", "internal/bytealg.IndexByteString", "internal/bytealg.IndexString"], named := ["internal/bytealg.MaxLen"], apart := false, narrowed := true }
def SpotOrderUptoSaid : Prop := spotOrderUptoRow.holds Try.pinned (OpenSpec.upto spotOrderSpec)

/-- 'syntagmlaw02.SpotMany', WHERE WHAT IT READS IS OF BULK AT MOST 1048576: true; the input reads as it did. -/
def spotManyUptoRow : OpenClaim := { program := "ytlkplncfiohlcaa", sum := "bbe692f4a3d77a510baafc95342fc9334b79f2769fa4f364dd1abccd63219165", func := "syntagm/syntagmlaw02.SpotMany", spec := "spotMany", inPlace := ["internal/bytealg.CountString", "internal/bytealg.IndexByteString", "internal/bytealg.IndexString"], named := ["internal/bytealg.MaxLen"], apart := false, narrowed := true }
def SpotManyUptoSaid : Prop := spotManyUptoRow.holds Try.pinned (OpenSpec.upto spotManySpec)

end Rows
end Go.Proofs.Ytlkplncfiohlcaa
