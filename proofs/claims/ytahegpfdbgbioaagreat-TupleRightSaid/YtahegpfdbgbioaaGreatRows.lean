/-
  No cell of these rows narrows 'for every input' (looked for: loops, veiled, ifaces, maps, wideKeys, modest, calm, conditions, laid).
  DERIVED. THE GIVEN ROWS OF THIS SEAT. 7 by the template 'for every input the law returns true; each argument reads behind the call as it read before'; 0 by the template 'total and deterministic' (their statements: YtahegpfdbgbioaaGreatTotals.lean).
  GIVEN WITH THE SEED: the statements are not yours to turn. If you find one false, say at which input.
  Laid BY PROGRAM, IN A SANDBOX (cutbox-rows.mjs): the forced cells as the released guide's own fill.sh prints them over the translation 290932fc303a0fa3… (all of the seat's roots in one cut). By AI agents, Wed Nov 11 2026. No macro, syntax, notation, axiom, sorry.
-/
import Derived.Test.YtahegpfdbgbioaaGreatChecked
import GoSem.Claim
import GoSem.ClaimJoined
import GoSem.ClaimMapViews
import Derived.JoinedTies
import Derived.KernelRfl
namespace Go.Proofs.YtahegpfdbgbioaaGreat
/- THE CELL 'sum', in the pinned program and in every row, IS THE sha256 OF THE DUMP (.gsa) THAT YtahegpfdbgbioaaGreatProg.lean LOADS. Nothing in Lean hashes anything: it is a label: what it is worth is what the hold of that sum in a sandbox is worth. -/
noncomputable def Tryz.pinned : Pinned := { name := "ytahegpfdbgbioaagreat", sum := "290932fc303a0fa3c497887936640942bf740a576b4043d4957769e3d7255b05", checked := Tryz.checked }
namespace Rows
def none {H : Type} : Left H := { results := [], args := [] }

/-- 'doormanlaw11.TableTells': WHATEVER THE INPUT: true; the input reads as it did. -/
def tableTellsSpec : ChangeSpec := { name := "tableTells", fn := fun _ => fun
  | [d1, d2, d3, d4] => { results := [.lit (.bool true)], args := [d1, d2, d3, d4] }
  | _ => none }
def tableTellsRow : OpenClaim := { program := "ytahegpfdbgbioaagreat", sum := "290932fc303a0fa3c497887936640942bf740a576b4043d4957769e3d7255b05", func := "doorman/doormanlaw11.TableTells", spec := "tableTells", inPlace := ["internal/bytealg.IndexByteString", "internal/bytealg.IndexString", "internal/abi.NoEscape", "internal/bytealg.MakeNoZero"], unfollowed := true, recurses := true, named := ["internal/bytealg.MaxLen"], plainKeys := false, apart := false }
def TableTellsSaid : Prop := tableTellsRow.holds Tryz.pinned (OpenSpec.ofChange tableTellsSpec)

/-- ITS FALSE NEIGHBOUR: 'it returns false'. Refute it at one input. -/
def tableTellsWrong : ChangeSpec := { name := "tableTells", fn := fun _ => fun
  | [d1, d2, d3, d4] => { results := [.lit (.bool false)], args := [d1, d2, d3, d4] }
  | _ => none }
def TableTellsWrongFalsely : Prop := tableTellsRow.holds Tryz.pinned (OpenSpec.ofChange tableTellsWrong)

/-- 'doormanlaw12.TupleTexts': WHATEVER THE INPUT: true; the input reads as it did. -/
def tupleTextsSpec : ChangeSpec := { name := "tupleTexts", fn := fun _ => fun
  | [d1, d2] => { results := [.lit (.bool true)], args := [d1, d2] }
  | _ => none }
def tupleTextsRow : OpenClaim := { program := "ytahegpfdbgbioaagreat", sum := "290932fc303a0fa3c497887936640942bf740a576b4043d4957769e3d7255b05", func := "doorman/doormanlaw12.TupleTexts", spec := "tupleTexts", inPlace := ["internal/bytealg.IndexByteString", "internal/bytealg.IndexString", "internal/abi.NoEscape", "internal/bytealg.MakeNoZero", "internal/bytealg.abigen_runtime_cmpstring"], unfollowed := true, recurses := true, named := ["internal/bytealg.MaxLen"], plainKeys := false, apart := false }
def TupleTextsSaid : Prop := tupleTextsRow.holds Tryz.pinned (OpenSpec.ofChange tupleTextsSpec)

/-- ITS FALSE NEIGHBOUR: 'it returns false'. Refute it at one input. -/
def tupleTextsWrong : ChangeSpec := { name := "tupleTexts", fn := fun _ => fun
  | [d1, d2] => { results := [.lit (.bool false)], args := [d1, d2] }
  | _ => none }
def TupleTextsWrongFalsely : Prop := tupleTextsRow.holds Tryz.pinned (OpenSpec.ofChange tupleTextsWrong)

/-- 'doormanlaw12.TupleBack': WHATEVER THE INPUT: true; the input reads as it did. -/
def tupleBackSpec : ChangeSpec := { name := "tupleBack", fn := fun _ => fun
  | [d] => { results := [.lit (.bool true)], args := [d] }
  | _ => none }
def tupleBackRow : OpenClaim := { program := "ytahegpfdbgbioaagreat", sum := "290932fc303a0fa3c497887936640942bf740a576b4043d4957769e3d7255b05", func := "doorman/doormanlaw12.TupleBack", spec := "tupleBack", inPlace := ["internal/bytealg.IndexByteString", "internal/bytealg.IndexString", "internal/abi.NoEscape", "internal/bytealg.MakeNoZero", "internal/bytealg.abigen_runtime_cmpstring"], unfollowed := true, recurses := true, named := ["internal/bytealg.MaxLen"], plainKeys := false, apart := false }
def TupleBackSaid : Prop := tupleBackRow.holds Tryz.pinned (OpenSpec.ofChange tupleBackSpec)

/-- ITS FALSE NEIGHBOUR: 'it returns false'. Refute it at one input. -/
def tupleBackWrong : ChangeSpec := { name := "tupleBack", fn := fun _ => fun
  | [d] => { results := [.lit (.bool false)], args := [d] }
  | _ => none }
def TupleBackWrongFalsely : Prop := tupleBackRow.holds Tryz.pinned (OpenSpec.ofChange tupleBackWrong)

/-- 'doormanlaw12.TupleOrder': WHATEVER THE INPUT: true; the input reads as it did. -/
def tupleOrderSpec : ChangeSpec := { name := "tupleOrder", fn := fun _ => fun
  | [d1, d2] => { results := [.lit (.bool true)], args := [d1, d2] }
  | _ => none }
def tupleOrderRow : OpenClaim := { program := "ytahegpfdbgbioaagreat", sum := "290932fc303a0fa3c497887936640942bf740a576b4043d4957769e3d7255b05", func := "doorman/doormanlaw12.TupleOrder", spec := "tupleOrder", inPlace := ["internal/bytealg.IndexByteString", "internal/bytealg.IndexString", "internal/abi.NoEscape", "internal/bytealg.MakeNoZero", "internal/bytealg.abigen_runtime_cmpstring"], unfollowed := true, recurses := true, named := ["internal/bytealg.MaxLen"], plainKeys := false, apart := false }
def TupleOrderSaid : Prop := tupleOrderRow.holds Tryz.pinned (OpenSpec.ofChange tupleOrderSpec)

/-- ITS FALSE NEIGHBOUR: 'it returns false'. Refute it at one input. -/
def tupleOrderWrong : ChangeSpec := { name := "tupleOrder", fn := fun _ => fun
  | [d1, d2] => { results := [.lit (.bool false)], args := [d1, d2] }
  | _ => none }
def TupleOrderWrongFalsely : Prop := tupleOrderRow.holds Tryz.pinned (OpenSpec.ofChange tupleOrderWrong)

/-- 'doormanlaw12.TupleRight': WHATEVER THE INPUT: true; the input reads as it did. -/
def tupleRightSpec : ChangeSpec := { name := "tupleRight", fn := fun _ => fun
  | [d1, d2] => { results := [.lit (.bool true)], args := [d1, d2] }
  | _ => none }
def tupleRightRow : OpenClaim := { program := "ytahegpfdbgbioaagreat", sum := "290932fc303a0fa3c497887936640942bf740a576b4043d4957769e3d7255b05", func := "doorman/doormanlaw12.TupleRight", spec := "tupleRight", inPlace := ["internal/bytealg.IndexByteString", "internal/bytealg.IndexString", "internal/abi.NoEscape", "internal/bytealg.MakeNoZero", "internal/bytealg.abigen_runtime_cmpstring"], unfollowed := true, recurses := true, named := ["internal/bytealg.MaxLen"], plainKeys := false, apart := false }
def TupleRightSaid : Prop := tupleRightRow.holds Tryz.pinned (OpenSpec.ofChange tupleRightSpec)

/-- ITS FALSE NEIGHBOUR: 'it returns false'. Refute it at one input. -/
def tupleRightWrong : ChangeSpec := { name := "tupleRight", fn := fun _ => fun
  | [d1, d2] => { results := [.lit (.bool false)], args := [d1, d2] }
  | _ => none }
def TupleRightWrongFalsely : Prop := tupleRightRow.holds Tryz.pinned (OpenSpec.ofChange tupleRightWrong)

/-- 'doormanlaw12.TupleNodes': WHATEVER THE INPUT: true; the input reads as it did. -/
def tupleNodesSpec : ChangeSpec := { name := "tupleNodes", fn := fun _ => fun
  | [d1, d2, d3] => { results := [.lit (.bool true)], args := [d1, d2, d3] }
  | _ => none }
def tupleNodesRow : OpenClaim := { program := "ytahegpfdbgbioaagreat", sum := "290932fc303a0fa3c497887936640942bf740a576b4043d4957769e3d7255b05", func := "doorman/doormanlaw12.TupleNodes", spec := "tupleNodes", inPlace := ["internal/bytealg.IndexByteString", "internal/bytealg.IndexString", "internal/abi.NoEscape", "internal/bytealg.MakeNoZero", "internal/bytealg.abigen_runtime_cmpstring"], unfollowed := true, recurses := true, named := ["internal/bytealg.MaxLen"], plainKeys := false, apart := false }
def TupleNodesSaid : Prop := tupleNodesRow.holds Tryz.pinned (OpenSpec.ofChange tupleNodesSpec)

/-- ITS FALSE NEIGHBOUR: 'it returns false'. Refute it at one input. -/
def tupleNodesWrong : ChangeSpec := { name := "tupleNodes", fn := fun _ => fun
  | [d1, d2, d3] => { results := [.lit (.bool false)], args := [d1, d2, d3] }
  | _ => none }
def TupleNodesWrongFalsely : Prop := tupleNodesRow.holds Tryz.pinned (OpenSpec.ofChange tupleNodesWrong)

/-- 'doormanlaw12.TupleLong': WHATEVER THE INPUT: true; the input reads as it did. -/
def tupleLongSpec : ChangeSpec := { name := "tupleLong", fn := fun _ => fun
  | [d1, d2] => { results := [.lit (.bool true)], args := [d1, d2] }
  | _ => none }
def tupleLongRow : OpenClaim := { program := "ytahegpfdbgbioaagreat", sum := "290932fc303a0fa3c497887936640942bf740a576b4043d4957769e3d7255b05", func := "doorman/doormanlaw12.TupleLong", spec := "tupleLong", inPlace := ["internal/bytealg.IndexByteString", "internal/bytealg.IndexString", "internal/abi.NoEscape", "internal/bytealg.MakeNoZero", "internal/bytealg.abigen_runtime_cmpstring"], unfollowed := true, recurses := true, named := ["internal/bytealg.MaxLen"], plainKeys := false, apart := false }
def TupleLongSaid : Prop := tupleLongRow.holds Tryz.pinned (OpenSpec.ofChange tupleLongSpec)

/-- ITS FALSE NEIGHBOUR: 'it returns false'. Refute it at one input. -/
def tupleLongWrong : ChangeSpec := { name := "tupleLong", fn := fun _ => fun
  | [d1, d2] => { results := [.lit (.bool false)], args := [d1, d2] }
  | _ => none }
def TupleLongWrongFalsely : Prop := tupleLongRow.holds Tryz.pinned (OpenSpec.ofChange tupleLongWrong)

/- THE SECOND FORM. 'bulk': how many values and letters a reading holds, each counted each time it is reached (what is shared counts as often as it is met; a slice's spare places count too). A statement '..UptoSaid' is the law's where the arguments, and the package variables that the reading takes, are together of bulk at most 1048576: NARROWER than '..Said'. Prove '..Said' where nothing that the law and all that it calls make is longer than what came in: it says more and counts as full. Else prove '..UptoSaid'. A law counts once. -/
mutual
def uptoBulk {H : Type} : DataW H → Nat
  | .lit (.string bytes) => bytes.length + 1
  | .lit _ => 1
  | .nil => 1
  | .ptr d => uptoBulk d + 1
  | .slice elems spare => uptoBulkAll elems + uptoBulkAll spare + 1
  | .agg parts => uptoBulkAll parts + 1
  | .iface _ d => uptoBulk d + 1
  | .map entries => uptoBulkEntries entries + 1
  | .held _ => 1
def uptoBulkAll {H : Type} : List (DataW H) → Nat
  | [] => 0
  | d :: r => uptoBulk d + uptoBulkAll r
def uptoBulkEntries {H : Type} : List (Lit × DataW H) → Nat
  | [] => 0
  | x :: r => uptoBulkEntry x + uptoBulkEntries r
def uptoBulkEntry {H : Type} : Lit × DataW H → Nat
  | (.string bytes, d) => bytes.length + uptoBulk d + 1
  | (_, d) => uptoBulk d + 1
 end
def uptoSmall : (H : Type) → List (DataW H) → Bool := fun _ ds => decide (uptoBulkAll ds ≤ 1048576)
def OpenSpec.upto (s : _root_.Go.ChangeSpec) : _root_.Go.OpenSpec := { _root_.Go.OpenSpec.ofChange s with cond := some uptoSmall }

/-- 'doormanlaw11.TableTells', WHERE WHAT IT READS IS OF BULK AT MOST 1048576: true; the input reads as it did. -/
def tableTellsUptoRow : OpenClaim := { program := "ytahegpfdbgbioaagreat", sum := "290932fc303a0fa3c497887936640942bf740a576b4043d4957769e3d7255b05", func := "doorman/doormanlaw11.TableTells", spec := "tableTells", inPlace := ["internal/bytealg.IndexByteString", "internal/bytealg.IndexString", "internal/abi.NoEscape", "internal/bytealg.MakeNoZero"], unfollowed := true, recurses := true, named := ["internal/bytealg.MaxLen"], plainKeys := false, apart := false, narrowed := true }
def TableTellsUptoSaid : Prop := tableTellsUptoRow.holds Tryz.pinned (OpenSpec.upto tableTellsSpec)

/-- 'doormanlaw12.TupleTexts', WHERE WHAT IT READS IS OF BULK AT MOST 1048576: true; the input reads as it did. -/
def tupleTextsUptoRow : OpenClaim := { program := "ytahegpfdbgbioaagreat", sum := "290932fc303a0fa3c497887936640942bf740a576b4043d4957769e3d7255b05", func := "doorman/doormanlaw12.TupleTexts", spec := "tupleTexts", inPlace := ["internal/bytealg.IndexByteString", "internal/bytealg.IndexString", "internal/abi.NoEscape", "internal/bytealg.MakeNoZero", "internal/bytealg.abigen_runtime_cmpstring"], unfollowed := true, recurses := true, named := ["internal/bytealg.MaxLen"], plainKeys := false, apart := false, narrowed := true }
def TupleTextsUptoSaid : Prop := tupleTextsUptoRow.holds Tryz.pinned (OpenSpec.upto tupleTextsSpec)

/-- 'doormanlaw12.TupleBack', WHERE WHAT IT READS IS OF BULK AT MOST 1048576: true; the input reads as it did. -/
def tupleBackUptoRow : OpenClaim := { program := "ytahegpfdbgbioaagreat", sum := "290932fc303a0fa3c497887936640942bf740a576b4043d4957769e3d7255b05", func := "doorman/doormanlaw12.TupleBack", spec := "tupleBack", inPlace := ["internal/bytealg.IndexByteString", "internal/bytealg.IndexString", "internal/abi.NoEscape", "internal/bytealg.MakeNoZero", "internal/bytealg.abigen_runtime_cmpstring"], unfollowed := true, recurses := true, named := ["internal/bytealg.MaxLen"], plainKeys := false, apart := false, narrowed := true }
def TupleBackUptoSaid : Prop := tupleBackUptoRow.holds Tryz.pinned (OpenSpec.upto tupleBackSpec)

/-- 'doormanlaw12.TupleOrder', WHERE WHAT IT READS IS OF BULK AT MOST 1048576: true; the input reads as it did. -/
def tupleOrderUptoRow : OpenClaim := { program := "ytahegpfdbgbioaagreat", sum := "290932fc303a0fa3c497887936640942bf740a576b4043d4957769e3d7255b05", func := "doorman/doormanlaw12.TupleOrder", spec := "tupleOrder", inPlace := ["internal/bytealg.IndexByteString", "internal/bytealg.IndexString", "internal/abi.NoEscape", "internal/bytealg.MakeNoZero", "internal/bytealg.abigen_runtime_cmpstring"], unfollowed := true, recurses := true, named := ["internal/bytealg.MaxLen"], plainKeys := false, apart := false, narrowed := true }
def TupleOrderUptoSaid : Prop := tupleOrderUptoRow.holds Tryz.pinned (OpenSpec.upto tupleOrderSpec)

/-- 'doormanlaw12.TupleRight', WHERE WHAT IT READS IS OF BULK AT MOST 1048576: true; the input reads as it did. -/
def tupleRightUptoRow : OpenClaim := { program := "ytahegpfdbgbioaagreat", sum := "290932fc303a0fa3c497887936640942bf740a576b4043d4957769e3d7255b05", func := "doorman/doormanlaw12.TupleRight", spec := "tupleRight", inPlace := ["internal/bytealg.IndexByteString", "internal/bytealg.IndexString", "internal/abi.NoEscape", "internal/bytealg.MakeNoZero", "internal/bytealg.abigen_runtime_cmpstring"], unfollowed := true, recurses := true, named := ["internal/bytealg.MaxLen"], plainKeys := false, apart := false, narrowed := true }
def TupleRightUptoSaid : Prop := tupleRightUptoRow.holds Tryz.pinned (OpenSpec.upto tupleRightSpec)

/-- 'doormanlaw12.TupleNodes', WHERE WHAT IT READS IS OF BULK AT MOST 1048576: true; the input reads as it did. -/
def tupleNodesUptoRow : OpenClaim := { program := "ytahegpfdbgbioaagreat", sum := "290932fc303a0fa3c497887936640942bf740a576b4043d4957769e3d7255b05", func := "doorman/doormanlaw12.TupleNodes", spec := "tupleNodes", inPlace := ["internal/bytealg.IndexByteString", "internal/bytealg.IndexString", "internal/abi.NoEscape", "internal/bytealg.MakeNoZero", "internal/bytealg.abigen_runtime_cmpstring"], unfollowed := true, recurses := true, named := ["internal/bytealg.MaxLen"], plainKeys := false, apart := false, narrowed := true }
def TupleNodesUptoSaid : Prop := tupleNodesUptoRow.holds Tryz.pinned (OpenSpec.upto tupleNodesSpec)

/-- 'doormanlaw12.TupleLong', WHERE WHAT IT READS IS OF BULK AT MOST 1048576: true; the input reads as it did. -/
def tupleLongUptoRow : OpenClaim := { program := "ytahegpfdbgbioaagreat", sum := "290932fc303a0fa3c497887936640942bf740a576b4043d4957769e3d7255b05", func := "doorman/doormanlaw12.TupleLong", spec := "tupleLong", inPlace := ["internal/bytealg.IndexByteString", "internal/bytealg.IndexString", "internal/abi.NoEscape", "internal/bytealg.MakeNoZero", "internal/bytealg.abigen_runtime_cmpstring"], unfollowed := true, recurses := true, named := ["internal/bytealg.MaxLen"], plainKeys := false, apart := false, narrowed := true }
def TupleLongUptoSaid : Prop := tupleLongUptoRow.holds Tryz.pinned (OpenSpec.upto tupleLongSpec)

end Rows
end Go.Proofs.YtahegpfdbgbioaaGreat
