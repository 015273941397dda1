/-
  No cell of these rows narrows 'for every input' (looked for: loops, veiled, ifaces, maps, wideKeys, modest, calm, conditions, laid).
  DERIVED. THE GIVEN ROWS OF THIS SEAT. 5 by the template 'for every input the law returns true; each argument reads behind the call as it read before'; 0 by the template 'total and deterministic' (their statements: YtkeonempmchpnaaTotals.lean).
  GIVEN WITH THE SEED: the statements are not yours to turn. If you find one false, say at which input.
  Laid BY PROGRAM, IN A SANDBOX (cutbox-rows.mjs): the forced cells as the released guide's own fill.sh prints them over the translation 875076e76cbe8780… (all of the seat's roots in one cut). By AI agents, Wed Nov 11 2026. No macro, syntax, notation, axiom, sorry.
-/
import Derived.Test.YtkeonempmchpnaaChecked
import GoSem.Claim
import GoSem.ClaimJoined
import GoSem.ClaimMapViews
import Derived.JoinedTies
import Derived.KernelRfl
namespace Go.Proofs.Ytkeonempmchpnaa
/- THE CELL 'sum', in the pinned program and in every row, IS THE sha256 OF THE DUMP (.gsa) THAT YtkeonempmchpnaaProg.lean LOADS. Nothing in Lean hashes anything: it is a label: what it is worth is what the hold of that sum in a sandbox is worth. -/
noncomputable def Try.pinned : Pinned := { name := "ytkeonempmchpnaa", sum := "875076e76cbe87800d24bf60f095ae46f0ef3ecc394566705df442e073e0b673", checked := Try.checked }
namespace Rows
def none {H : Type} : Left H := { results := [], args := [] }

/-- 'doormanlaw07.ParseTells': WHATEVER THE INPUT: true; the input reads as it did. -/
def parseTellsSpec : ChangeSpec := { name := "parseTells", fn := fun _ => fun
  | [d] => { results := [.lit (.bool true)], args := [d] }
  | _ => none }
def parseTellsRow : OpenClaim := { program := "ytkeonempmchpnaa", sum := "875076e76cbe87800d24bf60f095ae46f0ef3ecc394566705df442e073e0b673", func := "doorman/doormanlaw07.ParseTells", spec := "parseTells", inPlace := ["internal/bytealg.IndexByteString", "internal/bytealg.IndexString"], unfollowed := true, recurses := true, named := ["internal/bytealg.MaxLen"], apart := false }
def ParseTellsSaid : Prop := parseTellsRow.holds Try.pinned (OpenSpec.ofChange parseTellsSpec)

/-- ITS FALSE NEIGHBOUR: 'it returns false'. Refute it at one input. -/
def parseTellsWrong : ChangeSpec := { name := "parseTells", fn := fun _ => fun
  | [d] => { results := [.lit (.bool false)], args := [d] }
  | _ => none }
def ParseTellsWrongFalsely : Prop := parseTellsRow.holds Try.pinned (OpenSpec.ofChange parseTellsWrong)

/-- 'doormanlaw08.PrintShows': WHATEVER THE INPUT: true; the input reads as it did. -/
def printShowsSpec : ChangeSpec := { name := "printShows", fn := fun _ => fun
  | [d] => { results := [.lit (.bool true)], args := [d] }
  | _ => none }
def printShowsRow : OpenClaim := { program := "ytkeonempmchpnaa", sum := "875076e76cbe87800d24bf60f095ae46f0ef3ecc394566705df442e073e0b673", func := "doorman/doormanlaw08.PrintShows", spec := "printShows", inPlace := ["internal/bytealg.IndexByteString", "internal/bytealg.IndexString", "internal/abi.NoEscape", "internal/bytealg.MakeNoZero"], unfollowed := true, recurses := true, named := ["internal/bytealg.MaxLen"], apart := false }
def PrintShowsSaid : Prop := printShowsRow.holds Try.pinned (OpenSpec.ofChange printShowsSpec)

/-- ITS FALSE NEIGHBOUR: 'it returns false'. Refute it at one input. -/
def printShowsWrong : ChangeSpec := { name := "printShows", fn := fun _ => fun
  | [d] => { results := [.lit (.bool false)], args := [d] }
  | _ => none }
def PrintShowsWrongFalsely : Prop := printShowsRow.holds Try.pinned (OpenSpec.ofChange printShowsWrong)

/-- 'doormanlaw08.PrintBack': WHATEVER THE INPUT: true; the input reads as it did. -/
def printBackSpec : ChangeSpec := { name := "printBack", fn := fun _ => fun
  | [d] => { results := [.lit (.bool true)], args := [d] }
  | _ => none }
def printBackRow : OpenClaim := { program := "ytkeonempmchpnaa", sum := "875076e76cbe87800d24bf60f095ae46f0ef3ecc394566705df442e073e0b673", func := "doorman/doormanlaw08.PrintBack", spec := "printBack", inPlace := ["internal/bytealg.IndexByteString", "internal/bytealg.IndexString", "internal/abi.NoEscape", "internal/bytealg.MakeNoZero"], unfollowed := true, recurses := true, named := ["internal/bytealg.MaxLen"], apart := false }
def PrintBackSaid : Prop := printBackRow.holds Try.pinned (OpenSpec.ofChange printBackSpec)

/-- ITS FALSE NEIGHBOUR: 'it returns false'. Refute it at one input. -/
def printBackWrong : ChangeSpec := { name := "printBack", fn := fun _ => fun
  | [d] => { results := [.lit (.bool false)], args := [d] }
  | _ => none }
def PrintBackWrongFalsely : Prop := printBackRow.holds Try.pinned (OpenSpec.ofChange printBackWrong)

/-- 'doormanlaw08.PrintSigns': WHATEVER THE INPUT: true; the input reads as it did. -/
def printSignsSpec : ChangeSpec := { name := "printSigns", fn := fun _ => fun
  | [d] => { results := [.lit (.bool true)], args := [d] }
  | _ => none }
def printSignsRow : OpenClaim := { program := "ytkeonempmchpnaa", sum := "875076e76cbe87800d24bf60f095ae46f0ef3ecc394566705df442e073e0b673", func := "doorman/doormanlaw08.PrintSigns", spec := "printSigns", inPlace := ["internal/bytealg.IndexByteString", "internal/bytealg.IndexString", "internal/abi.NoEscape", "internal/bytealg.MakeNoZero"], unfollowed := true, recurses := true, named := ["internal/bytealg.MaxLen"], apart := false }
def PrintSignsSaid : Prop := printSignsRow.holds Try.pinned (OpenSpec.ofChange printSignsSpec)

/-- ITS FALSE NEIGHBOUR: 'it returns false'. Refute it at one input. -/
def printSignsWrong : ChangeSpec := { name := "printSigns", fn := fun _ => fun
  | [d] => { results := [.lit (.bool false)], args := [d] }
  | _ => none }
def PrintSignsWrongFalsely : Prop := printSignsRow.holds Try.pinned (OpenSpec.ofChange printSignsWrong)

/-- 'doormanlaw08.PrintOps': WHATEVER THE INPUT: true; the input reads as it did. -/
def printOpsSpec : ChangeSpec := { name := "printOps", fn := fun _ => fun
  | [d1, d2] => { results := [.lit (.bool true)], args := [d1, d2] }
  | _ => none }
def printOpsRow : OpenClaim := { program := "ytkeonempmchpnaa", sum := "875076e76cbe87800d24bf60f095ae46f0ef3ecc394566705df442e073e0b673", func := "doorman/doormanlaw08.PrintOps", spec := "printOps", inPlace := ["internal/bytealg.IndexByteString", "internal/bytealg.IndexString", "internal/abi.NoEscape", "internal/bytealg.MakeNoZero"], unfollowed := true, recurses := true, named := ["internal/bytealg.MaxLen"], apart := false }
def PrintOpsSaid : Prop := printOpsRow.holds Try.pinned (OpenSpec.ofChange printOpsSpec)

/-- ITS FALSE NEIGHBOUR: 'it returns false'. Refute it at one input. -/
def printOpsWrong : ChangeSpec := { name := "printOps", fn := fun _ => fun
  | [d1, d2] => { results := [.lit (.bool false)], args := [d1, d2] }
  | _ => none }
def PrintOpsWrongFalsely : Prop := printOpsRow.holds Try.pinned (OpenSpec.ofChange printOpsWrong)

/- THE SECOND FORM. 'bulk': how many values and letters a reading holds, each counted each time it is reached (what is shared counts as often as it is met; a slice's spare places count too). A statement '..UptoSaid' is the law's where the arguments, and the package variables that the reading takes, are together of bulk at most 1048576: NARROWER than '..Said'. Prove '..Said' where nothing that the law and all that it calls make is longer than what came in: it says more and counts as full. Else prove '..UptoSaid'. A law counts once. -/
mutual
def uptoBulk {H : Type} : DataW H → Nat
  | .lit (.string bytes) => bytes.length + 1
  | .lit _ => 1
  | .nil => 1
  | .ptr d => uptoBulk d + 1
  | .slice elems spare => uptoBulkAll elems + uptoBulkAll spare + 1
  | .agg parts => uptoBulkAll parts + 1
  | .iface _ d => uptoBulk d + 1
  | .map entries => uptoBulkEntries entries + 1
  | .held _ => 1
def uptoBulkAll {H : Type} : List (DataW H) → Nat
  | [] => 0
  | d :: r => uptoBulk d + uptoBulkAll r
def uptoBulkEntries {H : Type} : List (Lit × DataW H) → Nat
  | [] => 0
  | x :: r => uptoBulkEntry x + uptoBulkEntries r
def uptoBulkEntry {H : Type} : Lit × DataW H → Nat
  | (.string bytes, d) => bytes.length + uptoBulk d + 1
  | (_, d) => uptoBulk d + 1
 end
def uptoSmall : (H : Type) → List (DataW H) → Bool := fun _ ds => decide (uptoBulkAll ds ≤ 1048576)
def OpenSpec.upto (s : _root_.Go.ChangeSpec) : _root_.Go.OpenSpec := { _root_.Go.OpenSpec.ofChange s with cond := some uptoSmall }

/-- 'doormanlaw07.ParseTells', WHERE WHAT IT READS IS OF BULK AT MOST 1048576: true; the input reads as it did. -/
def parseTellsUptoRow : OpenClaim := { program := "ytkeonempmchpnaa", sum := "875076e76cbe87800d24bf60f095ae46f0ef3ecc394566705df442e073e0b673", func := "doorman/doormanlaw07.ParseTells", spec := "parseTells", inPlace := ["internal/bytealg.IndexByteString", "internal/bytealg.IndexString"], unfollowed := true, recurses := true, named := ["internal/bytealg.MaxLen"], apart := false, narrowed := true }
def ParseTellsUptoSaid : Prop := parseTellsUptoRow.holds Try.pinned (OpenSpec.upto parseTellsSpec)

/-- 'doormanlaw08.PrintShows', WHERE WHAT IT READS IS OF BULK AT MOST 1048576: true; the input reads as it did. -/
def printShowsUptoRow : OpenClaim := { program := "ytkeonempmchpnaa", sum := "875076e76cbe87800d24bf60f095ae46f0ef3ecc394566705df442e073e0b673", func := "doorman/doormanlaw08.PrintShows", spec := "printShows", inPlace := ["internal/bytealg.IndexByteString", "internal/bytealg.IndexString", "internal/abi.NoEscape", "internal/bytealg.MakeNoZero"], unfollowed := true, recurses := true, named := ["internal/bytealg.MaxLen"], apart := false, narrowed := true }
def PrintShowsUptoSaid : Prop := printShowsUptoRow.holds Try.pinned (OpenSpec.upto printShowsSpec)

/-- 'doormanlaw08.PrintBack', WHERE WHAT IT READS IS OF BULK AT MOST 1048576: true; the input reads as it did. -/
def printBackUptoRow : OpenClaim := { program := "ytkeonempmchpnaa", sum := "875076e76cbe87800d24bf60f095ae46f0ef3ecc394566705df442e073e0b673", func := "doorman/doormanlaw08.PrintBack", spec := "printBack", inPlace := ["internal/bytealg.IndexByteString", "internal/bytealg.IndexString", "internal/abi.NoEscape", "internal/bytealg.MakeNoZero"], unfollowed := true, recurses := true, named := ["internal/bytealg.MaxLen"], apart := false, narrowed := true }
def PrintBackUptoSaid : Prop := printBackUptoRow.holds Try.pinned (OpenSpec.upto printBackSpec)

/-- 'doormanlaw08.PrintSigns', WHERE WHAT IT READS IS OF BULK AT MOST 1048576: true; the input reads as it did. -/
def printSignsUptoRow : OpenClaim := { program := "ytkeonempmchpnaa", sum := "875076e76cbe87800d24bf60f095ae46f0ef3ecc394566705df442e073e0b673", func := "doorman/doormanlaw08.PrintSigns", spec := "printSigns", inPlace := ["internal/bytealg.IndexByteString", "internal/bytealg.IndexString", "internal/abi.NoEscape", "internal/bytealg.MakeNoZero"], unfollowed := true, recurses := true, named := ["internal/bytealg.MaxLen"], apart := false, narrowed := true }
def PrintSignsUptoSaid : Prop := printSignsUptoRow.holds Try.pinned (OpenSpec.upto printSignsSpec)

/-- 'doormanlaw08.PrintOps', WHERE WHAT IT READS IS OF BULK AT MOST 1048576: true; the input reads as it did. -/
def printOpsUptoRow : OpenClaim := { program := "ytkeonempmchpnaa", sum := "875076e76cbe87800d24bf60f095ae46f0ef3ecc394566705df442e073e0b673", func := "doorman/doormanlaw08.PrintOps", spec := "printOps", inPlace := ["internal/bytealg.IndexByteString", "internal/bytealg.IndexString", "internal/abi.NoEscape", "internal/bytealg.MakeNoZero"], unfollowed := true, recurses := true, named := ["internal/bytealg.MaxLen"], apart := false, narrowed := true }
def PrintOpsUptoSaid : Prop := printOpsUptoRow.holds Try.pinned (OpenSpec.upto printOpsSpec)

end Rows
end Go.Proofs.Ytkeonempmchpnaa
